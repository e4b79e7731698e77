import PyProof.Rows.All
import Wide.All
import OpenK.AllK
import Wide.FinOn
import Lean
import PyProof.EqAt
import PyProof.EqKinds
import PyProof.TupleCall
import PyProof.Rows.SortRuns
import PyProof.DictUpdate
import PyProof.AttrMissHeap
import PyProof.IsiH_list
import KE.KDictOf
import PyProof.DictCompW
import PyProof.Rows.SetFrom
import KE.KDictList
import KE.KTryDeep
import PySem.Challenge.RW_yesnowords_k51_mended_by_halves
set_option Elab.async false
set_option linter.all false
set_option compiler.extract_closed false
set_option bootstrap.genMatcherCode false
set_option maxHeartbeats 2000000
section
open Lean
abbrev nY:=Syntax
def nM:=mkAtom
def nK (k:Name)(xs:List nY):nY:=.node .none (`Lean.Parser.Term++k) xs.toArray
def nC (xs:List nY):nY:=mkNullNode ((xs.intersperse (nM ",")).toArray)
def nB (k a b:String)(x:List nY):nY:=.node .none (.mkSimple k) #[nM a,nC x,nM b]
def nP:nY:=nK `hygienicLParen [nM "(",.node .none `hygieneInfo #[mkIdent .anonymous]]
def nT (w:String):nY:=if w.front.isDigit then Syntax.mkNumLit w else if w.front=='.' then nK `dotIdent [nM ".",mkIdent (w.drop 1).toString.toName] else if w=="_" then nK `hole [nM "_"] else mkIdent w.toName
def nA:List nY->nY
 |[f]=>f
 |f::r=>nK `app [f,mkNullNode r.toArray]
 |[]=>.missing
def nG:Nat->List Char->String->List nY->List nY->List nY×List Char
 |0,cs,_,_,r=>(r,cs)
 |n+1,cs,w,a,r=>
  let b:=if w=="" then a else nT w::a
  let e:=(if b.isEmpty then r else nA b.reverse::r).reverse
  match cs with
  |[]=>(e,cs)
  |c::cs=>
   let sub:=λ(k:_->nY) b=>
    let(x,ds):=nG n cs "" [] []
    match ds with
    |'.'::es=>let f:=es.takeWhile Char.isAlphanum;nG n (es.drop f.length) "" (nK `proj [k x,nM ".",mkIdent (String.ofList f).toName]::b) r
    |_=>nG n ds "" (k x::b) r
   let fin:=λds (f:nY->nY)=>let(x,ds):=nG n ds "" [] [];(r.reverse++match x with|y::z=>f y::z|_=>[],ds)
   if c==')'||c==']'||c=='⟩' then (e,cs)
   else if c==',' then nG n cs "" [] (nA b.reverse::r)
   else if c==' ' then nG n cs "" b r
   else if c=='(' then sub (λxs=>match xs with|[x]=>nK `paren [nP,x,nM ")"]|[.missing,x,y]=>nK `typeAscription [nP,x,nM ":",mkNullNode #[y],nM ")"]|x::y=>nK `tuple [nP,mkNullNode #[x,nM ",",nC y],nM ")"]|_=>.missing) b
   else if c=='⟨' then sub (λx=>nK `anonymousCtor [nM "⟨",nC x,nM "⟩"]) b
   else if c=='[' then if w=="#v" then sub (λx=>.node .none `Vector.«term#v[_,]» #[nM "#v[",nC x,nM "]"]) a else if w=="#" then sub (nB "term#[_,]" "#[" "]") a else sub (nB "term[_]" "[" "]") b
   else if c=='"' then let s:=cs.takeWhile (·!='"');nG n (cs.drop (s.length+1)) "" (Syntax.mkStrLit (String.ofList s)::b) r
   else if c=='λ' then let s:=cs.takeWhile (·!='=');fin (cs.drop (s.length+2)) λx=>nA (nK `fun [nM "λ",nK `basicFun [mkNullNode (((String.ofList s).splitOn " ").map nT).toArray,mkNullNode,nM "=>",x]]::b).reverse
   else if "+-*^/%<=&:".contains c then
    let s:=c::cs.takeWhile ("=&:/\\".contains ·)
    if s==[':'] then nG n cs "" [] (nA b.reverse::.missing::r) else fin (cs.drop (s.length-1)) λx=>.node .none (.mkSimple s!"term_{String.ofList s}_") #[nA b.reverse,nM (String.ofList s),x]
   else nG n cs (w.push c) a r
def nD (t:String)(i j:Nat):Option nY:=((t.splitOn "|")[10*(j-7)+i]?).map λs=>nA (nG 999 s.toList "" [] []).1
end
open Lean in
local macro_rules | `(#v[$a,$b])=>(do nD "(gSeq (gSet [0] 5 (zaa [true,false] (Ψ \"_law_take\") (gCns (gVarA 0) (gCns (gArg (gOp2 oIx (gArg (za0 (gCns #v[2] (gCns #v[5] (gCns #v[5] gA0))))) (gVarA 2))) gA0)))) (zee (gApp 3 (gOp2 oIx (gArg (za0 (gCns #v[5,4] (gCns (gArg (gOpN oInt (gCns (gArg (gOp2 oEq (gVarA 5) #v[0])) gA0))) (gCns (gArg (gOpN oInt (gCns (gArg (gOp2 (oI yes2 λi j=>.bl (decide (j<i))) (gVarA 5) #v[0])) gA0))) gA0))))) (gVarA 2)))))|(model X.prog X.w)|⟨#v[0,0,5],rfl,λ_ _ _ _ _ _ us hl=>len2 us hl λ_ _=>rfl⟩|((h3.update a (Obj.mapSeq λ_=>(#[]:Array Value))).push (seqObj \"tuple\" vs.toArray 0))|(.ListComp elt (⟨tg,iter,ifs,0⟩ :: gs) scope pos)|[some (k,false),some (L,false),some (.non,false),some (.non,false),none]||⟨#v[0,0,5],rfl,λ_ _ _ _ _ _ us hl=>len1 us hl λ_=>rfl⟩|(.frl (ns.map W.int),false)|(.bl false,false)|(gArg (gOp2 (oI cPow λi j=>.int (i ^ j.toNat)) (gArg (gC (.int 10))) (gArg (gC (.int 60)))))||[#v[kdW m r,6],#v[L2,6],some (.non,false),#v[(m:Nat),0],#v[(r:Nat),0],#v[(w:Nat),0],none,none]||[.int (m:Nat),.int (r:Nat)]|(gCns (gArg (gOp2 #v[0,0,3] (gArg (gOp2 #v[0,0,0] (gVarA 6) #v[1])) #v[2])) (gCns (gArg (zaa [true,false] (Ψ \"_law_take\") (gCns (gVarA 1) (gCns (gArg (gOp2 oAdd (gArg (gOp2 #v[0,0,3] (gArg (gOp2 #v[0,0,0] (gVarA 6) #v[1])) #v[2])) #v[1])) gA0)))) (gCns #v[0] gA0)))|(gCns (gArg (zaa [true,false,false] (Ψ \"_law_poly\") (gCns (gVarA 1) (gCns #v[4,4] (gCns #v[5,4] gA0))))) (gCns (gArg (za0 (gCns (gArg (zcb gA0)) gA0))) (gCns (gArg (zaa [false,false] (Ψ \"_law_terms\") (gCns #v[4,4] (gCns #v[5,4] gA0)))) gA0)))|⟨#v[0,0,5],rfl,λ_ _ _ _ _ _ us hl=>len3 us hl λ_ _ _=>rfl⟩|(gSeq (gIfS (zak (gOp2 oIs (gVarA 6) (gArg (gC .non)))) (gRet (gC .non)) zbr) (gSeq (gSet [] 7 (zdb Ψ)) (gSeq (gSet [] 8 (zc0 Ψ)) (gSeq (gSet [] 9 (zc5 Ψ)) (gRet (gIf (zh2 (gVar 9)) (gOp2 oIx (gVarA 9) #v[0]) (gC .non)))))))|(.frl ((n0::nr).map W.int),false)||(seqObj \"list\" #[] 0)|[#v[st,5],#v[n,0],#v[way,0],#v[(xs.map W.int),2],#v[(0+(i:Nat)),0],v5]|(.ListComp elt gens scope pos)||[some (.int (m:Nat),false),some (.lst (xs.map W.int),false),some (.lst [],true),none,none,none]|(oI yes2 λi j=>.int (Builtin.bitAnd i j))|[#v[st,5],#v[LN m N,6],#v[(c:Nat),0],#v[LN m N,5],#v[(zam (List.range (2 ^ m))),2],none,none]|[some #v[8,7],#v[[.int 0,.int 0,.int 0],2],none,none,none,none]|[.int (L:Nat),.int (G:Nat)]|(gArg (gOpN oLen (gCns (gVarA 0) gA0)))|(gArg (gOp2 #v[0,0,0] (gVarA 0) #v[1]))|[#v[[.int a,.int z],3],#v[(N:Nat),0],#v[a,0],#v[z,0],none,none,none,none,none,none]|(gOp2 oAdd (gVarA 10) (gArg (za0 (gCns (gArg (zaa [true,false] (Ψ \"_law_bits\") (gCns (gVarA 1) (gCns (gArg (gOp2 #v[0,0,1] #v[1] (gVarA 4))) gA0)))) gA0))))|(oI yes2 λi j=>.bl (decide (j<i)))|(s.heap.objs.size+1)|[some #v[8,7],#v[st,5],none,none,none,none,none,none,none,none,none,none]|(gCns (gArg (gOpN oLen (gCns (gVarA 1) gA0))) gA0)|(.bl true,false)|[some #v[9,8],#v[[.int 0,.int 0,.int 0],2],#v[1,0],none,none,none]||(gArg (gOp2 oAdd (gArg (gOp2 oMult (gArg (gOp2 oIx (gVarA 1) (gArg (gC (.int 1))))) (gArg (gC (.int 48271))))) (gVarA 5)))||(Obj.mapSeq λ_=>(#[]:Array Value))|[some (st',true),some (.int (m:Nat),false),some (.int (most:Nat),false),some (.lst ((zaf m most).map tmW),false)]|[some #v[8,7],#v[[.int a0,.int 0,.int 0],2],v2,v3,none,none]|[some (st,true),some (.int (m:Nat),false),some (.int (most:Nat),false),some (.lst ((zaf m most).map tmW),true)]|(zaa [false,false] ((FX Ψ).exc \"TooFar\") (za8 Ψ) [#v[k,6],#v[L,6],some (.non,false),some (.non,false),none])|(seqObj \"list\" vs.toArray 0)||[some #v[9,8],some (.lst [.int a0,.int 0,.int 0],true),some (.int wt,false),some (.int n,false),none,none]||(zaa [true,false] (Ψ \"_law_bits\") (gCns (gVarA 0) (gCns (gArg (gOpN oLen (gCns (gVarA 3) gA0))) gA0)))|(gArg (gOpN oAbs (gCns (gVarA 3) gA0)))|(gArg (gOp2 #v[0,0,1] #v[1] (gVarA 0)))|[.int a,.int z]|[.int a,.int (N:Nat)]|(s.heap.push #v[1,9])||(gOp2 #v[0,0,2] (gArg (gOp2 #v[0,0,3] (gVarA 2) (gArg (gOp2 #v[0,0,1] #v[1] (gVarA 1))))) #v[2])|(gArg (gOpN oMax (gCns #v[3] (gCns (gArg (gOpN oMin (gCns #v[8] (gCns #v[0,10] gA0)))) gA0))))|(gSeq (zbf 1 (gC (.int 0)) (gOp2 oAdd (gArg (gOp2 oIx (gVarA 1) (gArg (gC (.int 0))))) (gArg (gOp2 oMult (gArg (gOp2 (oI (λ_ j=>decide (0<j)) λi j=>.int (i%j)) #v[3,12] #v[0,8])) (gVarA 2))))) (gSet [] 2 (gOp2 oMult (gVarA 2) #v[0,8])))|(oI (λ_ j=>decide (0<j)) λi j=>.int (i%j))||(oI yes2 λi j=>.bl (decide (i<j)))|[#v[st1,5],#v[n,0],#v[way,0],#v[[],2],none,none]|(gCns #v[1,4] gA0)|[v0,#v[st,5],v2,#v[kdW m r,6],#v[(m:Nat),0],v5,v6,v7,v8,v9,#v[[LN m H1,LN m H2],2],v11]|[v0,v1,v2,#v[tmW (letL q),6],#v[[.int 0],2],v5]||(oI yes2 λi j=>.int (i+j))|(oI cPow λi j=>.int (i^j.toNat))|(gCns #v[1,4] (gCns #v[2,4] gA0))|(gArg (gOp2 oIx (gVarA 0) #v[2]))|(gArg (gOp2 oIx (gVarA 0) #v[0]))|(zaa m (Φ.exc c) as ((en0.set i (some (.non,false))).set jb (some (.non,false))))|[v0,some (LN m H,false),v2,some (.int (m:Nat),false),v4,v5,some (LN m w,true),v7]|(gCns (gVarA 1) gA0)|[v0,some (tmW t,false),some (.int n,false)]|[#v[st',5],#v[n,0],#v[way,0],#v[(xs.map W.int),2],#v[(0+(i:Nat)),0],#v[one,0]]|[#v[(m:Nat),0],#v[x,6],#v[((tab i (valF ts)).map W.int),2],#v[(i:Nat),0],v4]|(zaa [false,false] (Ψ \"_law_poly_terms\") (gCns #v[3,4] (gCns #v[6,4] gA0)))|(oI yes2 λi j=>.int (Builtin.bitXor i j))|[v0,v1,#v[a,0],#v[z,0],#v[(L:Nat),0],#v[(G:Nat),0],#v[(B:Nat),0],v7,v8,v9]|[some #v[9,8],some (.lst [.int 0,.int 0,.int 0],true),none,none,none,none]|[some (st2,true),some (.int n,false),some (.int 3,false),none,none,none]|[some (st1,true),some (.int n,false),some (.int 3,false),none,none,none]|[#v[st',5],#v[LN m N,6],#v[(c:Nat),0],#v[LN m G,5],#v[(zam R),2],v5,v6]|(gArg (gOpN oLen (gCns (gVarA 4) gA0)))|(gArg (gC (.int 2305843009213693951)))|[.int (m:Nat),.int (N:Nat)]|[.int (l:Nat),.int (B:Nat)]|[.int (G:Nat),.int (B:Nat)]|[#v[st,5],#v[LN m N,6],#v[(c:Nat),0],#v[LN m N,5],none,none,none]||(seqObj \"list\" #[] e1)|[#v[[.int (m:Nat),.int (t:Nat)],3],#v[(m:Nat),0],#v[(t:Nat),0]]|[#v[(xs.map W.int),1],#v[0,0],none]|(gSeq (gAug [] #v[6,9] 0 #v[1,10]) (gAug [] #v[0,14] 1 #v[1]))|(.bl (decide (i=j)),false)|[v0,v1,v2,#v[kdW m r,6],v4,v5,v6,v7,v8,v9,v10,#v[LN m H,6]]|(gCns #v[0,4] gA0)|[.int i,.int j]|(gOp2 oAdd (gArg (gOp2 oMult #v[2] (gVarA 1))) (gVarA 2))|[v0,#v[LN m H,6],v2,#v[(m:Nat),0],v4,v5,#v[LN m w,5],v7]|[v0,#v[(xs.map W.int),1],v2,v3,some (.lst (zam L),o),v5]|[#v[(zad xs),0],#v[h,0]]||(gCns #v[0,4] #v[6,13])|(zad (tab (2^m) g))|(zaa [false,false] ((FX Ψ).exc c) (za8 Ψ) #v[5,7])|[v0,v1,v2,v3,some (.lst (zam L),o),#v[(l:Nat),0]]|[v0,v1,v2,#v[(m:Nat),0],v4,v5,some (LN m w,o),v7]|[v0,some (tmW t,false),some (.int (p:Nat),false)]|[#v[st,5],v1,v2,#v[LN m G,5],#v[(zam R),2],v5,v6]|[v0,#v[(xs.map W.int),1],v2,v3,#v[(zam L),1],v5]||(gCns (gVarA 0) (gCns (gArg (gC (.int 2))) gA0))|[.int (m:Nat),.int z]|[v0,v1,v2,#v[(m:Nat),0],v4,v5,#v[LN m w,6],v7]|(oI cMul λi j=>.int (i*j))||(gOp2 oNe (gVarA 0) #v[0])|[v0,v1,v2,v3,#v[(zam L),1],#v[(l:Nat),0]]|(oI yes2 λi j=>.int (Builtin.bitOr i j))|[v0,#v[tmW t,6],#v[n,0]]|(gArg (gOp2 #v[0,0,1] #v[1] (gVarA 3)))|(gArg (gOp2 #v[0,0,0] (gVarA 2) #v[1]))|[none,none,some 1]|[.int a0,.int b,.int 0]|(gRet (gC (.bl false)))|(gArg (gOp2 #v[0,0,1] #v[1] #v[1,10]))|(.bl (decide (x=.non)))" (<-a.raw.isNatLit?) (<-b.raw.isNatLit?):Option _).elim Macro.throwUnsupported pure
local macro_rules|`(tactic|symm)=>`(tactic|first|lia|omega|omega +splitDisjunctions)
set_option maxRecDepth 100000
open Option renaming some → Za, none → Zb
open Bool renaming false → Zc, true → Zd
open PySem renaming Value → Ze, Shared → Zf, Addr → Zh, Expr → Zi
open PySem.W renaming Frag → Zg
open PySem renaming wpAny_bind → Aa, wpAny_pure → Ar, mem_of_lookup → Br, wpAny_mono → Cs, wpAny_truthy_bool → Cu, wpAny_field → Cv, wpAny_loadPart' → Dd, wpAny_callSpecial?_slot → De, wpAny_isNot_plain → Dp, wpAny_pyIter_list → Ec, wpAny_newObj_type → Ed, wpAny_loadPart_at → Ee, wpAny_rule → Ei, wpAny_seqItems → Eo, wpAny_is_plain → Ep, wpAny_call_entry → Er, wpAny_setField_rec → Ex, wpAny_passesOwn → Ey, wpAny_holding → Fc, wpAny_execs_nil → Ge, wpAny_Call_Name_kw → Gf, call_meets → Gu, wpAny_isSubtype_exc → Gz, wpAny_pyIter_tuple → Hg, wpAny_pyIter_enum → Hi, sizeLine_eq → Hj, wpAny_attempt → Hk
open PySem.Heap renaming get?_push_of_some → Ab, lt_size → Ao, get?_push_size → Aq, size_push → Dh
open List renaming getElem?_eq_getElem → Ac, length_map → Ad, getElem?_eq_some_iff → Ag, mem_cons_of_mem → Ai, size_toArray → Aj, mem_cons → Ak, getElem?_map → Am, mem_cons_self → Au, map_cons → Aw, mem_singleton → Ax, mem_append_right → Ay, append_assoc → Bb, length_cons → Bd, all_eq_true → Be, length_append → Bf, lookup_cons → Bh, sum_cons → Bj, append_nil → Bm, getElem?_set_self → Bn, mem_range → Bo, mem_of_getElem? → Bp, length_set → Bq, getElem?_set_ne → Bt, getD_eq_getElem?_getD → Bu, take_append_drop → Bv, getElem?_eq_none → Bw, length_range → By, not_mem_nil → Cc, pairwise_append → Cf, mem_filter → Ch, mem_filterMap → Cn, nodup_cons → Cp, mem_append → Cq, drop_eq_getElem_cons → Ct, pairwise_cons → Cw, take_length → Db, filter_cons → Dc, replicate_succ → Df, getElem?_append_left → Dg, all_cons → Dj, ext_getElem? → Dk, map_append → Dn, mem_map → Do, length_take → Ds, take_succ → Dt, filter_append → Du, mem_iff_getElem → Dy, map_map → Dz, flatten_cons → Ea, drop_zero → Eg, filter_eq_nil_iff → Ek, of_mem_zip → Es, take_sublist → Ew, getElem?_append_right → Ez, forIn_nil → Fb, map_congr_left → Fh, length_reverse → Fj, take_zero → Gb, take_of_length_le → Gc, length_replicate → Gh, length_drop → Gi, getElem?_mapIdx → Gj, forIn_cons → Gn, getElem?_range → Gr, filterMap_cons → Gs, filter_congr → Ha, drop_sublist → Hb
open Nat renaming le_refl → Ae, lt_of_lt_of_le → At, ne_of_lt → Bc, xor_lt_two_pow → Bk, le_trans → Bz, testBit_xor → Ca, lt_irrefl → Ce, xor_assoc → Ci, zero_le → Cj, pow_le_pow_right → Cm, zero_add → Cr, le_add_right → Dr, zero_testBit → Ef, xor_self → Ej, lt_succ_of_lt → Ev, zero_xor → Ff, pow_pos → Fv, sub_zero → Fz, le_of_succ_le → Ga, add_sub_cancel' → Gq, xor_comm → Gv
open Bool renaming and_eq_true → Af, false_ne_true → Av, not_eq_true → Bi, or_eq_true → Cb, not_eq_false' → Cy, false_eq_true → Cz, false_and → Eh, eq_iff_iff → Fq, not_false → Gd, not_eq_true' → Hd
open PyProof.Rows renaming wpS_bind → An, wpS_pure → As, wpS_forRange → Cg, callWith_type1 → Ck, wpS_mono → Dw, slot_tuple_getitem → Eb, wpS_get → Hl
open LawfulBEq renaming eq_of_beq → Bl
open Array renaming toList_append → Bs, length_toList → Bx, toList_push → Dm, getElem?_eq_none → Em, getElem?_toList → Et, toList_reverse → Gk, perm_iff_toList_perm → Gy
open PySem.W renaming kia_one → Co, mg_of → Di, hideAll_none → Dx, cellsFrom_some → Fy, hideAll_get → Gp, of_hideAll → Gx
open PySem.F renaming plainAttrs_list → Da, slot_tuple_iterator_next → Fp, slot_list_index → Fu, args_tuple_add_2 → He
open Int renaming toNat_natCast → Dl, natCast_nonneg → El, emod_lt_of_pos → Ft, eq_ofNat_of_zero_le → Fw, emod_nonneg → Go, zero_add → Gw
open Option renaming bind_some → Dq, isSome_iff_exists → Fo, map_some → Gm
open PySem.Heap.SameBut renaming update → Dv
open PySem.Calls renaming Name_function_global → Hh
def Ah:=@decide_eq_true
def Ap:=@of_decide_eq_true
def Az:=@decide_eq_false
def Eu:=@decide_eq_true_eq
def Fe:=@if_true
def Fm:=@or_false
def Fs:=@beq_iff_eq
def Fx:=@if_false
namespace PySem.W.Fast
def tw783155825875398415:=0
def tw17072610608838132235:=0
def tw16394901805928964122:=0
def tw14750933837431459605:=0
def tw12094952696045331630:=0
def tw8887483031796881807:=0
def tw17842918918218847340:=0
def tw6791142813810517121:=0
def tw2233202406518914406:=0
def tw1257379812920871668:=0
def tw1427618376813574587:=0
def tw4741249661679127065:=0
def tw9804040902199769208:=0
def tw9969273341821150668:=0
def tw11716553211588544719:=0
def tw14932550025000901634:=0
def tw16646552541304851982:=0
def tw9831614188773571764:=0
def tw8608973533715742541:=0
def tw12515062282802931213:=0
def tw10915322176204565075:=0
def tw12031689745480188135:=0
def tw3154290153305871210:=0
def tw1445327525620317987:=0
def tw12102071098767076995:=0
def tw9232156984604311322:=0
def tw16678315873405255554:=0
def tw9072511675242357265:=0
def tw16249628329867560961:=0
def tw852957057883413538:=0
def tw9010000873661921464:=0
def tw8702156893188472195:=0
def tw13140694679665629394:=0
def tw6794341210517257818:=0
def tw17144330728634393449:=0
def tw1147577851559006166:=0
def tw14092989705118904447:=0
def tw7786206007029510519:=0
def tw8079989507464354639:=0
def tw3214420539318988406:=0
def tw13612401665984525659:=0
def tw13691710168248804106:=0
def tw6002619995366489142:=0
def tw4422771746819502852:=0
def tw5940649786552287246:=0
def tw12044610495250043901:=0
def tw6982258283524851760:=0
def tw15648388631968256576:=0
def tw13485562750746849584:=0
def tw16472221370430707191:=0
def tw18395914061883347198:=0
def tw16363763454197860271:=0
def tw10336614493045680418:=0
def tw7498189675943753889:=0
def tw5344459389724202027:=0
def tw14692225317920144643:=0
def tw3239525703666399998:=0
def tw22477941705738532:=0
def tw4667842895589655273:=0
def tw13136720278080189723:=0
def tw2268318958334074722:=0
def tw17205286282144406844:=0
def tw8074092686804597297:=0
def tw7596374056607035293:=0
def tw14433386207744672756:=0
def tw10758765267642929864:=0
def tw39621946878850994:=0
def tw12513841526641708920:=0
def tw1507597903157413603:=0
def tw7660033168610957509:=0
def tw18027558122765796527:=0
def tw10480803630640985314:=0
def tw17501050462452994218:=0
def tw13464004206688730512:=0
def tw15241360535599819064:=0
def tw15445938815308084849:=0
def tw17226072710673124729:=0
def tw4676516413826556752:=0
def tw5497911901174981233:=0
def tw15174442132472095377:=0
def tw1987688878398793899:=0
def tw8262448111396238683:=0
def tw639369640082176987:=0
def tw6896739569941796444:=0
def tw7387542028918323781:=0
def tw2632874008688941401:=0
def tw3402774791649211698:=0
def tw12276787546392922988:=0
def tw15725232930594549198:=0
def tw4492990193271586058:=0
def tw11906594483953983248:=0
def tw15430214267375370836:=0
def tw12894312913429119326:=0
def tw5656877594422065710:=0
def tw10162193469236430035:=0
def tw2025500344014977516:=0
def tw4308575377437336922:=0
def tw14361123549593486478:=0
def tw2391795519945590485:=0
def tw4188923763755661010:=0
def tw18115972345601454411:=0
def tw12493876666405668484:=0
def tw11969788033555443501:=0
def tw8358273660732842883:=0
def tw2382735853192916477:=0
def tw4107191999483154984:=0
def tw16738142914402034685:=0
def tw13272986438047524456:=0
def tw6988197014698346253:=0
def tw16900104480442993519:=0
def tw6539081102652651951:=0
def tw11366728845448678229:=0
def tw8132901917620975941:=0
def tw8510069649040331111:=0
def tw15458943306351598345:=0
def tw11378728999485258770:=0
def tw12213697228855115699:=0
def tw2531949146643137444:=0
def tw11945346188426595180:=0
def tw16699674156422773169:=0
def tw13591483328645260915:=0
def tw6932203350985732670:=0
def tw17386612244874597519:=0
def tw15784962845831593480:=0
def tw3212616349554502457:=0
def tw165483267655642493:=0
def tw16720866859948743715:=0
def tw3897182612508810936:=0
def tw17597531550148072638:=0
def tw558336065396134112:=0
def tw9221811309134159561:=0
def tw16495050851277854040:=0
def tw17068602201093716782:=0
def tw15637474060161267075:=0
def tw17811178224663353584:=0
def tw8920745861229028291:=0
def tw3872854504161244301:=0
def tw9265296724904617718:=0
def tw8223097908229045385:=0
def tw17223138097808054544:=0
def tw4643314927571209123:=0
def tw11093372026379933764:=0
def tw9035738246722852046:=0
def tw12421257203295326055:=0
def tw11181935406141149583:=0
def tw5695229999621688614:=0
def tw14229853749887470172:=0
def tw5155642285269620419:=0
def tw11079613495083695316:=0
def tw13821452585039937642:=0
def tw16872440785613584067:=0
def tw15859336963392927202:=0
def tw525599457694908212:=0
def tw6781253830067392067:=0
def tw1400934105730470450:=0
def tw12737081315738466087:=0
def tw5491888568718177647:=0
def tw10494226313038081792:=0
def tw2011983954511643251:=0
def tw13967253419371595550:=0
def tw8130559824113530268:=0
def tw231835612791276254:=0
def tw6158123457933997776:=0
def tw6383375274602637435:=0
def tw17197252137712814514:=0
def tw12925746334843020687:=0
def tw9203226653343314089:=0
def tw7220888059015492870:=0
def tw12920663875007522717:=0
def tw460009479410538906:=0
def tw11457835012942761573:=0
def tw14286631504121669759:=0
def tw15023670701622239058:=0
def tw4589164704707809184:=0
def tw7710655215291407290:=0
def tw7348495742494002974:=0
def tw1342012652601074580:=0
def tw11931956099390215602:=0
def tw12957574982642613700:=0
def tw13408890293401749553:=0
def tw5994335160206369813:=0
def tw16111517899792612178:=0
def tw13421932888050497712:=0
def tw7394641415008109523:=0
def tw16218140375078165143:=0
def tw11387157926984210762:=0
def tw11314825016748184666:=0
def tw1499008783844387196:=0
def tw9106589140533700787:=0
def tw12575348273198417152:=0
def tw10229361711122841997:=0
def tw17157300314250346421:=0
def tw15993402687252262882:=0
def tw4311716604905917776:=0
def tw11538899036599183358:=0
def tw516023345734628683:=0
def tw4877782299549848085:=0
def tw5793621727506679957:=0
def tw12914209209964456406:=0
def tw9263977603320003967:=0
def tw11973468649556280734:=0
def tw2961519070752943395:=0
def tw15087310966092945365:=0
def tw11778287128196618906:=0
def tw17140023497999214540:=0
def tw1677783741731982955:=0
def tw6792480357273879217:=0
def tw15977404315667744550:=0
def tw17584896925617037883:=0
def tw13266545010971956385:=0
def tw12597608432441348001:=0
def tw10906328911440940400:=0
def tw17578167886354194490:=0
def tw7802885074897212246:=0
def tw4278320015738939779:=0
def tw8349057700192856458:=0
def tw11934306471922134:=0
def tw8663286357918871221:=0
def tw462735089485393051:=0
def tw10405302815198256295:=0
def tw11256967527228559905:=0
def tw1335206138598227890:=0
def tw8446816047414347447:=0
def tw14473318704551628835:=0
def tw17722940936120289170:=0
def tw16326408121603059490:=0
def tw959418937362540171:=0
def tw6051526073724433500:=0
def tw16703154810456322759:=0
def tw11782484154405204750:=0
def tw9784810506952286261:=0
def tw15660521757593517268:=0
def tw6720300436425430565:=0
def tw12179517100274277738:=0
def tw10631904237981813720:=0
def tw11743171806553998724:=0
def tw5853970838365032329:=0
def tw8798339465791841251:=0
def tw13111327357078940309:=0
def tw785249905149620124:=0
def tw17653551926843042730:=0
def tw12337981047274132646:=0
def tw3587462234087563171:=0
def tw6696727910654251215:=0
def tw7713644579507681978:=0
def tw932793028037884441:=0
def tw12186588216563664410:=0
def tw11209572269077218589:=0
def tw18124660221301883189:=0
def tw6634487790205300049:=0
def tw16178969511157108162:=0
def tw2926594535363469902:=0
def tw3752791063549924073:=0
def tw13248517405665519472:=0
def tw16438640323876595342:=0
def tw9765401231111899221:=0
def tw14011512283642338649:=0
def tw13302238776778321837:=0
def tw14550499783028751739:=0
def tw3722646788345962360:=0
def tw12676717781848337323:=0
def tw11672311543285157760:=0
def tw3441188544785790814:=0
def tw4921178159765380101:=0
def tw5786854735537506142:=0
def tw12305241921683006318:=0
def tw5366301165101026331:=0
def tw4640306209754855076:=0
def tw12909229827311601551:=0
def tw11730399353299948052:=0
def tw7309006142846348827:=0
def tw6615501102546971517:=0
def tw4051926244661926300:=0
def tw8726406580243256533:=0
def tw17596840623639378782:=0
def tw3034718831796861276:=0
def tw13617038043646915101:=0
def tw7415996799244876448:=0
def tw4416405188299377957:=0
def tw17377385652819396797:=0
def tw16011319501069509072:=0
def tw10572316335546542526:=0
end PySem.W.Fast
theorem bS {α β}{o:Option α}{f:α->Option β}{b}(h:o.bind f=Za b):∃a,o=Za a/\f a=Za b:=Option.bind_eq_some_iff.mp h
theorem sI {α}{a b:α}(h:Za a=Za b):a=b:=Option.some.inj h
namespace L2
open PySem PySem.Spec PyProof.Rows
theorem aG {P:Prop}(h:∀G:Prop,(P->G)->G):P:=h P id
end L2
set_option hygiene false
local macro_rules | `(tactic| nofun) => `(tactic| refine L2.aG fun _ qG=>?_)
local macro_rules | `(tactic| ac_rfl) => `(tactic| (refine qG ?_;clear qG))
local macro_rules | `(#v[$x]) => `((gArg (gC (.int $x))))
local macro_rules | `(#v[$x,0]) => `(some (.int $x,false))
local macro_rules | `(#v[$x,1]) => `(some (.lst $x,false))
local macro_rules | `(#v[$x,2]) => `(some (.lst $x,true))
local macro_rules | `(#v[$x,3]) => `(some (.tup $x,false))
local macro_rules | `(#v[$x,4]) => `((gArg (gVar $x)))
local macro_rules | `(#v[$x,5]) => `(some ($x,true))
local macro_rules | `(#v[$x,6]) => `(some ($x,false))
local macro_rules | `(#v[0,0,0]) => `((oI yes2 fun i j=>.int (i - j)))
local macro_rules | `(#v[0,0,1]) => `((oI cPow fun i j=>.int (i * 2 ^ j.toNat)))
local macro_rules | `(#v[0,0,2]) => `((oI (fun _ j=>decide (0 < j)) fun i j=>.int (i % j)))
local macro_rules | `(#v[0,0,3]) => `((oI cDiv fun i j=>.int (i / j)))
local macro_rules | `(#v[0,0,5]) => `(⟨by kernel_rfl,by kernel_rfl,by kernel_rfl,by decide +kernel,rfl,by decide +kernel,by decide +kernel⟩)

set_option hygiene true
namespace L2
open PySem PySem.Spec PyProof.Rows
noncomputable abbrev Key:=Sum Int Str
noncomputable def z71:Key->Ze->Bool
 |.inl k,v=>Ze.isInt k v
 |.inr x,v=>Ze.isStrOf x v
noncomputable def keyH (w:World):Key->Int
 |.inl k=>hashInt k
 |.inr x=>hashStr w x
theorem keyIs_shape:∀{k:Key}{v:Ze},z71 k v=Zd->(∃i t,k=Sum.inl i/\v=Ze.int i t)\/(∃x t,k=Sum.inr x/\v=Ze.str x t)
 | .inl i,v,h=>by
  obtain⟨t,e⟩:=Ze.isInt_shape (k:=i) (v:=v) h;exact .inl ⟨i,t,rfl,e⟩
 | .inr x,v,h=>by
  obtain⟨t,e⟩:=Ze.isStrOf_shape (x:=x) (v:=v) h;exact .inr ⟨x,t,rfl,e⟩
theorem z8c (a b:Int):decide ((Sum.inl a:Key)=Sum.inl b)=(a==b):=by
 by_cases e:a=b
 ·subst e;simp
 ·have h : ¬ (Sum.inl a:Key)=Sum.inl b:=λq=>e (Sum.inl.inj q);rw[Az h];exact (beq_eq_false_iff_ne.mpr e).symm
theorem z9s (a b:Str):decide ((Sum.inr a:Key)=Sum.inr b)=decide (a=b):=by
 by_cases e:a=b
 ·subst e;simp
 ·have h : ¬ (Sum.inr a:Key)=Sum.inr b:=λq=>e (Sum.inr.inj q);rw[Az h,Az e]
theorem z7o (a:Int)(b:Str):decide ((Sum.inl a:Key)=Sum.inr b)=Zc:=Az (λq=>nomatch q)
theorem z7t (a:Str)(b:Int):decide ((Sum.inr a:Key)=Sum.inl b)=Zc:=Az (λq=>nomatch q)
noncomputable def zmd (prog:Program) (w:World):PySem.KeyKind prog w Key where
 is:=z71
 hash:=keyH w
 inj:=λv a b g d=>by
  rcases keyIs_shape g with⟨i,t,rfl,rfl⟩|⟨x,t,rfl,rfl⟩
  ·rcases keyIs_shape d with⟨j,u,rfl,e⟩|⟨y,u,rfl,e⟩
   ·injection e with e1 _;rw[e1]
   ·exact nomatch e
  ·rcases keyIs_shape d with⟨j,u,rfl,e⟩|⟨y,u,rfl,e⟩
   ·exact nomatch e
   ·injection e with e1 _;rw[e1]
 byValue:=λk v h=>by
  rcases keyIs_shape h with⟨i,t,rfl,rfl⟩|⟨x,t,rfl,rfl⟩<;>rfl
 pyHash:=λc h=>by
  rcases keyIs_shape c with⟨i,t,rfl,rfl⟩|⟨x,t,rfl,rfl⟩
  ·exact wpAny_pyHash_int h
  ·exact wpAny_pyHash_str h
 eqBool:=λf c h=>by
  rcases keyIs_shape f with⟨i,t,rfl,rfl⟩|⟨x,t,rfl,rfl⟩
  ·rcases keyIs_shape c with⟨j,u,rfl,rfl⟩|⟨y,u,rfl,rfl⟩
   ·rw[z8c] at h;exact wpAny_eqBool_int h
   ·rw[z7o] at h;exact SeqAt.EqAt.int_str i t y u _ _ _ _ h
  ·rcases keyIs_shape c with⟨j,u,rfl,rfl⟩|⟨y,u,rfl,rfl⟩
   ·rw[z7t] at h;exact SeqAt.EqAt.str_int x t j u _ _ _ _ h
   ·rw[z9s] at h;exact wpAny_eqBool_str h
 «strs»:=λk x t v h=>by
  rcases keyIs_shape h with⟨i,u,rfl,e⟩|⟨y,u,rfl,e⟩
  ·exact nomatch e
  ·injection e with e1 _;subst e1;cases v<;>rfl
inductive V where
 |non|bl (b:Bool)|int (i:Int)|str (x:Str)|byt (b:Array UInt8)|flt (b:UInt64)|ref (a:Zh)|ty (n:String)
 deriving DecidableEq
noncomputable def RelV:V->Ze->Prop
 |.non,u=>u=Ze.none
 |.bl b,u=>u=Ze.bool b
 |.int i,u=>∃t,u=Ze.int i t
 |.str x,u=>∃t,u=Ze.str x t
 |.byt b,u=>∃t,u=Ze.bytes b t
 |.flt b,u=>∃t,u=Ze.float b t
 |.ref a,u=>u=Ze.ref a
 |.ty n,u=>u=Ze.type n
noncomputable abbrev Vals:List V->List Ze->Prop:=Paired RelV
theorem Vals.length {xs:List V}{u:List Ze}(r:Vals xs u):xs.length=u.length:=Paired.length r
theorem Vals.get:∀{xs:List V}{a:List Ze}{i:Nat}{x:V},Vals xs a->xs[i]?=Za x->∃u,a[i]?=Za u/\RelV x u
 |_,_,_,_,.nil,e=>by simp at e
 |_,_,0,_,.cons r _,e=>by simp at e;subst e;exact⟨_,rfl,r⟩
 | _,_,i+1,x,.cons _ t,e=>by
  obtain⟨u,h,b⟩:=Vals.get (i:=i) (x:=x) t (by simpa using e);exact⟨u,by simpa using h,b⟩
theorem Vals.set {x:V}{u:Ze}(r:RelV x u):∀{xs:List V}{a:List Ze} (i:Nat),Vals xs a->Vals (xs.set i x) (a.set i u)
 |_,_,_,.nil=>.nil
 |_,_,0,.cons _ t=>.cons r t
 |_,_,i+1,.cons q t=>.cons q (Vals.set r i t)
theorem Vals.append:∀{xs ys:List V}{u ws:List Ze},Vals xs u->Vals ys ws->Vals (xs++ys) (u++ws)
 |_,_,_,_,.nil,s=>s
 |_,_,_,_,.cons r t,s=>.cons r (Vals.append t s)
theorem Vals.take:∀{xs:List V}{u:List Ze} (n:Nat),Vals xs u->Vals (xs.take n) (u.take n)
 |_,_,0,_=>.nil
 |_,_,_+1,.nil=>.nil
 |_,_,n+1,.cons r t=>.cons r (Vals.take n t)
theorem Vals.drop:∀{xs:List V}{u:List Ze} (n:Nat),Vals xs u->Vals (xs.drop n) (u.drop n)
 |_,_,0,r=>r
 |_,_,_+1,.nil=>.nil
 |_,_,n+1,.cons _ t=>Vals.drop n t
noncomputable def RelO:Option V->Option Ze->Prop
 |some v,Za u=>RelV v u
 |none,Zb=>True
 |_,_=>False
noncomputable def KV {κ:Type}:List (κ×V)->List (κ×Ze)->Prop:=Paired λ(p:κ×V) (q:κ×Ze)=>p.1=q.1/\RelV p.2 q.2
noncomputable def kV:Key->V
 |.inl i=>.int i
 |.inr x=>.str x
inductive HO where
 /-- a list -/
 |lst (xs:List V)
 /-- a tuple (never changes) -/
 |tup (xs:List V)
 /-- a dict whose keys are ints and texts;one whose keys are tuples of ints and texts (the empty one is both) -/
 |dK (kvs:List (Key×V))|dT (kvs:List (List Key×V))
 /-- a set of ints: its members,its size -/
 |set (S:Int->Bool) (n:Nat)
 /-- an instance of the class at C,its dict at dx,its attributes -/
 |ins (C dx:Zh) (fs:List (Str×V))
 /-- the dict of the instance at x -/
 |own (x:Zh)
 /-- the dict of an exception -/
 |xd (fs:List (Str×V))
 /-- a bound method,f of x -/
 |met (f x:Zh)
 /-- a range object lo,lo+1,.. below hi -/
 |rng (lo hi:Int)
 /-- a thing that is known to the object (the script;a dict while a loop walks it): read,never written while it is so -/
 |frz (o:Obj) (u:HO)
 /-- a code object's table -/
 |tbl (ps:Array Ze)
 /-- any other thing,by what is Zd of its one object (a def of one's own: SetO a S n:=HO.ext λh=>..) -/
 |ext (φ:Heap->Prop)
noncomputable abbrev Hp:=Zh->Option HO
noncomputable def upd (H:Hp) (a:Zh) (o:HO):Hp:=λb=>if b=a then Za o else H b
theorem upd_same:upd H a o a=Za o:=by unfold upd;rw[if_pos rfl]
theorem upd_ne (h:b≠a):upd H a o b=H b:=by unfold upd;rw[if_neg h]
theorem z23 {o u:HO}:upd (upd H a o) a u=upd H a u:=by
 funext b;unfold upd;split<;>rfl
theorem zac {H:Hp}{a b:Zh}{o:HO}(h:H a=Za o)(h':H b=Zb):a≠b:=by
 intro e;subst e;rw[h] at h';cases h'
noncomputable def zj7 (h:Heap) (a:Zh) (items:Array Ze):Prop:=∃o,h.get? a=Za o/\(o.cls=.type "tuple"/\∃n,o.data=.seq items n)/\o.dict=Zb
theorem zj7.t (x:zj7 h a items):IsTup h a items:=let ⟨o,e,r,_⟩:=x;⟨o,e,r⟩
theorem zj7.new (h:Heap)(items:Array Ze):zj7 (h.push { cls:=.type "tuple",data:=.seq items }) h.objs.size items:=⟨_,Aq _ rfl,⟨rfl,_,rfl⟩,rfl⟩
section
variable (P:Program) (w:World)
noncomputable def zbh (H:Hp) (h:Heap) (a:Zh):HO->Prop
 |.lst b=>b.length<=sizeLine/\∃(i:List Ze) (n:Nat),Vals b i/\h.get? a=Za { cls:=.type "list",data:=.seq i.toArray n }
 |.tup b=>b.length<=sizeLine/\∃i:List Ze,Vals b i/\zj7 h a i.toArray
 |.dK kvs=>kvs.length<=sizeLine/\(a==sysModules)=Zc/\∃c,KV kvs c/\h.DictOf (zmd P w) a c
 | .dT kvs=>kvs.length<=sizeLine/\(a==sysModules)=Zc/\∃b:List (List Key×Zh×Ze),
  Paired (λ(p:List Key×V) (q:List Key×Zh×Ze)=>p.1=q.1/\H q.2.1=Za (.tup (p.1.map kV))/\RelV p.2 q.2.2) kvs b /\
  ∃o j r,h.get? a=Za o/\o.ExactDict/\o.data=.dict j r/\j.toList=b.map (entryOfKey (tupleKind (zmd P w)))/\(b.map (·.1)).Nodup
 |.set S n=>h.SetOf (intKind P w) a S n
 | .ins C d fs=>H d=Za (.own a)/\fs.length<=1000/\d≠a/\h.get? a=Za (PySem.W.instObj C d) /\
  ∃mA,h.Ns1 d mA/\(∀f,RelO (fs.lookup f) (mA f))/\PySem.Within mA (fs.map (·.1))
 |.own _=>∃o,h.get? a=Za o
 |.xd fs=>∃mA,h.Ns1 a mA/\∀f,RelO (fs.lookup f) (mA f)
 |.rng l k=>∃t u v,h.get? a=Za { cls:=.type "range",data:=.fields #[.int l t,.int k u,.int 1 v] }
 |.frz o u=>h.get? a=Za o/\zbh H h a u
 |.tbl m=>h.get? a=Za { cls:=.none,data:=.fields m }
 |.met f x=>h.get? a=Za (PySem.W.methodObj (.ref f) (.ref x))
 |.ext φ=>φ h/\(∃o,h.get? a=Za o)/\∀e g:Heap,φ e->(∀o,e.get? a=Za o->g.get? a=Za o)->φ g
noncomputable def HOk (H:Hp) (h:Heap):Prop:=∀a o,H a=Za o->zbh P w H h a o
end
section
variable {P:Program}{w:World}{H H' : Hp}{h h' : Heap}{a:Zh}{o:HO}
theorem zbh.lt (x:zbh P w H h a o):a<h.objs.size:=by
 cases o with
 |lst b=>obtain⟨_,_,_,_,e⟩:=x;exact Ao e
 |tup b=>obtain⟨_,_,_,p⟩:=x;exact p.t.lt
 |dK kvs=>obtain⟨_,_,_,_,o,_,_,e,_⟩:=x;exact Ao e
 |dT kvs=>obtain⟨_,_,_,_,o,_,_,e,_⟩:=x;exact Ao e
 |set S n=>obtain⟨o,_,_,_,e,_⟩:=x;exact Ao e
 |ins C d fs=>obtain⟨_,_,_,e,_⟩:=x;exact Ao e
 |own y=>obtain⟨_,e⟩:=x;exact Ao e
 |xd fs=>obtain⟨_,⟨_,_,_,e,_⟩,_⟩:=x;exact Ao e
 |rng l c=>obtain⟨_,_,_,e⟩:=x;exact Ao e
 |frz i u=>obtain⟨e,_⟩:=x;exact Ao e
 |tbl g=>exact Ao (show h.get? a=Za _ from x)
 |met f y=>exact Ao (show h.get? a=Za _ from x)
 |ext φ=>obtain⟨_,⟨_,e⟩,_⟩:=x;exact Ao e
theorem Paired.mapP {α β:Type}{F G:α->β->Prop}:∀{l:List α}{c:List β},Paired F l c->(∀a b,F a b->G a b)->Paired G l c
 |_,_,.nil,_=>.nil
 |_,_,.cons r t,f=>.cons (f _ _ r) (Paired.mapP t f)
theorem zbh.stay (x:zbh P w H h a o) (k:∀b u,(b=a\/H b=Za (.own a))->h.get? b=Za u->h'.get? b=Za u)
  (B:∀b,H b=Za (.own a)->H' b=Za (.own a)) (E:∀b xs,H b=Za (.tup xs)->H' b=Za (.tup xs)):zbh P w H' h' a o:=by
 induction o with
 |lst xs=>obtain⟨z,l,n,r,e⟩:=x;exact⟨z,l,n,r,k _ _ (.inl rfl) e⟩
 |tup xs=>obtain⟨z,l,r,g,e,c⟩:=x;exact⟨z,l,r,g,k _ _ (.inl rfl) e,c⟩
 |dK kvs=>obtain⟨z,y,G,r,g,i,j,e,c⟩:=x;exact⟨z,y,G,r,g,i,j,k _ _ (.inl rfl) e,c⟩
 | dT kvs =>
  obtain⟨z,y,xs,r,g,i,j,e,c⟩:=x;exact⟨z,y,xs,Paired.mapP r λp q z=>⟨z.1,E _ _ z.2.1,z.2.2⟩,g,i,j,k _ _ (.inl rfl) e,c⟩
 |set S n=>obtain⟨g,i,j,t,e,c⟩:=x;exact⟨g,i,j,t,k _ _ (.inl rfl) e,c⟩
 | ins C J fs =>
  obtain⟨d,z,ne,e,mA,⟨m,i,j,D,c⟩,r⟩:=x;exact⟨B _ d,z,ne,k _ _ (.inl rfl) e,mA,⟨m,i,j,k _ _ (.inr d) D,c⟩,r⟩
 |own y=>obtain⟨g,e⟩:=x;exact⟨g,k _ _ (.inl rfl) e⟩
 |xd fs=>obtain⟨mA,⟨m,i,j,e,c⟩,r⟩:=x;exact⟨mA,⟨m,i,j,k _ _ (.inl rfl) e,c⟩,r⟩
 |rng I K=>obtain⟨t,u,v,e⟩:=x;exact⟨t,u,v,k _ _ (.inl rfl) e⟩
 |frz g u F=>obtain⟨e,q⟩:=x;exact⟨k _ _ (.inl rfl) e,F q⟩
 | tbl s =>
  have e:h.get? a=Za { cls:=.none,data:=.fields s }:=x;show h'.get? a=Za { cls:=.none,data:=.fields s };exact k a _ (.inl rfl) e
 | met f y =>
  have e:h.get? a=Za (PySem.W.methodObj (.ref f) (.ref y)):=x;show h'.get? a=Za (PySem.W.methodObj (.ref f) (.ref y));exact k a _ (.inl rfl) e
 |ext φ=>obtain⟨p,⟨o,e⟩,A⟩:=x;exact⟨A _ _ p λo q=>k _ _ (.inl rfl) q,⟨o,k _ _ (.inl rfl) e⟩,A⟩
theorem HOk.lt (x:HOk P w H h)(e:H a=Za o):a<h.objs.size:=(x a o e).lt
theorem HOk.fresh (x:HOk P w H h)(e:h.objs.size<=a):H a=Zb:=by
 cases q:H a with
 |none=>rfl
 |some u=>exact absurd (At (x.lt q) e) (Ce _)
theorem HOk.kept (x:HOk P w H h)(k:∀b u,h.get? b=Za u->h'.get? b=Za u):HOk P w H h':=λa o e =>
 (x a o e).stay (λb u _ q=>k b u q) (λ_ q=>q) λ_ _ q=>q
theorem HOk.laid (x:HOk P w H h)(k:∀b u,h.get? b=Za u->h'.get? b=Za u)(g:h.objs.size<=a)(new:zbh P w (upd H a o) h' a o):HOk P w (upd H a o) h':=λb u e=>by
 have f:=x.fresh g;by_cases d:b=a
 ·subst d;rw[upd_same] at e;obtain rfl:=sI e;exact new
 ·rw[upd_ne d] at e;exact (x b u e).stay (λc v _ q=>k c v q) (λc q=>by rw[upd_ne (zac q f)];exact q) λc i q=>by rw[upd_ne (zac q f)];exact q
end
noncomputable def Rd (H:Hp) (a:Zh) (u:HO):Prop:=H a=Za u\/∃o,H a=Za (.frz o u)
theorem Rd.ok {w:World}{u:HO}(r:Rd H a u)(x:HOk P w H h):zbh P w H h a u:=by
 rcases r with r|⟨o,r⟩
 ·exact x a u r
 ·obtain⟨_,q⟩:=x a _ r;exact q
noncomputable def Mut:Option HO->Prop
 |some (.lst _)=>True
 |some (.dK _)=>True
 |some (.dT _)=>True
 |some (.set _ _)=>True
 |some (.ins _ _ _)=>True
 |some (.ext _)=>True
 |_=>False
section
variable {w:World}{x e:Zh}
theorem HOk.write (ok:HOk P w H h) (m:Mut (H x)) (o:e=x\/H e=Za (.own x)) (k:∀b u,b≠e->h.get? b=Za u->h'.get? b=Za u) (j:∃u,h'.get? e=Za u)
  (new:zbh P w (upd H x o') h' x o'):HOk P w (upd H x o') h':=λb u q=>by
 have n:∀c y,H c=Za (.own y)->c≠x:=λc y r z=>by subst z;rw[r] at m;exact m
 have d:∀c i,H c=Za (.tup i)->c≠x:=λc i r z=>by subst z;rw[r] at m;exact m
 by_cases g:b=x
 ·subst g;rw[upd_same] at q;obtain rfl:=sI q;exact new
 ·rw[upd_ne g] at q;by_cases a:b=e
  ·have l:H b=Za (.own x):=by
    rcases o with z|z
    ·exact absurd (a.trans z) g
    ·rw[a];exact z
   rw[q] at l;obtain rfl:=sI l;obtain⟨v,p⟩:=j;exact⟨v,by rw[a];exact p⟩
  ·refine (ok b u q).stay (λc v f r=>k c v ?_ r) (λc r=>by rw[upd_ne (n c b r)];exact r) λc i r=>by rw[upd_ne (d c i r)];exact r
   rcases f with rfl|f
   ·exact a
   ·rintro rfl;rcases o with z|z
    ·exact n c b f z
    ·rw[f] at z;cases z;exact g rfl
end
structure Un (fs ex:List Zh) (H H':Hp) (h h':Heap):Prop where
 keep:∀b o,h.get? b=Za o->H b=Zb->b ∉ fs->b ∉ ex->h'.get? b=Za o
 slot:∀b o,h.get? b=Za o->H b=Zb->b∈fs->b ∉ ex->∃sl,h'.get? b=Za { o with slots:=sl }
 free:∀b o,h.get? b=Za o->H b=Zb->b ∉ ex->H' b=Zb
 there:∀b o,h.get? b=Za o->b ∉ ex->∃o',h'.get? b=Za o'
 tups:∀b xs,H b=Za (.tup xs)->H' b=Za (.tup xs)
 frzs:∀b o u,H b=Za (.frz o u)->H' b=Za (.frz o u)
 tbls:∀b ps,H b=Za (.tbl ps)->∃more,H' b=Za (.tbl (ps++more))
section
variable {fs fs' ex ex' : List Zh}{H H1 H2:Hp}{h h1 h2 h' : Heap}{a x e:Zh}{o:HO}
theorem Un.any (u:Un fs ex H H1 h h1){ob:Obj}(q:h.get? b=Za ob)(n:H b=Zb)(a:b ∉ ex):∃s,h1.get? b=Za { ob with slots:=s }:=by
 by_cases c:b∈fs
 ·exact u.slot b ob q n c a
 ·exact⟨ob.slots,u.keep b ob q n c a⟩
theorem Un.kept (k:∀b u,h.get? b=Za u->h'.get? b=Za u):Un fs ex H H h h' :=
 ⟨λb o q _ _ _=>k b o q,λb o q _ _ _=>⟨o.slots,k b o q⟩,λ_ _ _ n _=>n,λb o q _=>⟨o,k b o q⟩,λ_ _ q=>q,λ_ _ _ q=>q,λ_ p q=>⟨#[],by rw[q];simp⟩⟩
theorem Un.refl:Un fs ex H H h h:=Un.kept λ_ _ q=>q
theorem Un.laid (k:∀b u,h.get? b=Za u->h'.get? b=Za u)(d:h.objs.size<=a)(c:H a=Zb):Un fs ex H (upd H a o) h h' where
 keep:=λb u q _ _ _=>k b u q
 slot:=λb u q _ _ _=>⟨u.slots,k b u q⟩
 free:=λb u q n _=>by rw[upd_ne (Bc (At (Ao q) d))];exact n
 there:=λb u q _=>⟨u,k b u q⟩
 tups:=λb x q=>by rw[upd_ne (zac q c)];exact q
 frzs:=λb u x q=>by rw[upd_ne (zac q c)];exact q
 tbls:=λb p q=>⟨#[],by rw[upd_ne (zac q c),q];simp⟩
theorem Un.write (m:Mut (H x))(j:e=x\/H e=Za (.own x))(k:∀b u,b≠e->h.get? b=Za u->h'.get? b=Za u)(d:∃u,h'.get? e=Za u):Un fs ex H (upd H x o) h h':=by
 have f:∀b,H b=Zb->b≠x:=λb n z=>by subst z;rw[n] at m;exact m
 have g:∀b,H b=Zb->b≠e:=λb n z=>by
  subst z;rcases j with r|r
  ·exact f b n r
  ·rw[n] at r;cases r
 have c:∀b u,H b=Za u->¬ Mut (Za u)->b≠x:=λb u q nm z=>by subst z;rw[q] at m;exact nm m
 refine⟨λb u q n _ _=>k b u (g b n) q,λb u q n _ _=>⟨u.slots,k b u (g b n) q⟩,λb u q n _=>by rw[upd_ne (f b n)];exact n,λb u q _=>?_,
  λb i q=>by rw[upd_ne (c b _ q λz=>z)];exact q,λb u i q=>by rw[upd_ne (c b _ q λz=>z)];exact q,λb p q=>⟨#[],by rw[upd_ne (c b _ q λz=>z),q];simp⟩⟩
 by_cases a:b=e
 ·subst a;exact d
 ·exact⟨u,k b u a q⟩
end
noncomputable def trk (h:Heap) (H:Hp):List Zh:=(List.range h.objs.size).filter λa=>(H a).isSome
noncomputable def hidT (h:Heap) (H:Hp):Heap:=PySem.W.hideAll h (trk h H)
theorem zqr (h:Heap)(H:Hp):(hidT h H).objs.size=h.objs.size:=PySem.W.hideAll_size _ _
theorem zxe (e:h.get? b=Za o)(n:H b=Zb):(hidT h H).get? b=Za o :=
 Gp _ e λa=>by
  have q:(H b).isSome=Zd:=(Ch.mp a).2;rw[n] at q;simp at q
theorem z1l (e:(hidT h H).get? b=Za o):h.get? b=Za o/\H b=Zb:=by
 have a:h.get? b=Za o:=Gx (trk h H) e;refine⟨a,?_⟩;cases q:H b with
 |none=>rfl
 | some x =>
  have c:b∈trk h H:=Ch.mpr ⟨Bo.mpr (Ao a),by simp [q]⟩;have z:(hidT h H).get? b=Zb:=Dx (trk h H) c;rw[z] at e;cases e
noncomputable def z44 (g h:Heap) (L:Zh):List (Zh×Obj):=(List.range h.objs.size).filterMap λa=>if a=L\/(g.get? a).isSome=Zd then Zb else (h.get? a).map λo=>(a,o)
noncomputable def rest (g h:Heap) (L d:Zh):List (Zh×Obj):=(z44 g h L).filter λp=>decide (p.1≠d)
structure Mod (K:Zg) (mg:Str->Option Ze) (base:Heap):Prop where
 kin:K.In base
 glob:base.Ns mainGlobals mg
 blt:∃mb,base.Ns builtinsNs mb/\∀x:Str,x≠"__name__" -> mb x=bootBuiltins x
 nolimit:base.NoLimit
 bmn:∃(b:Zh) (ob:Obj),mg "__builtins__" = Za (.ref b)/\b≠builtinsNs/\base.get? b=Za ob/\ob.cls=.type "module"/\ob.dict=Za builtinsNs/\ob.data=.plain
structure Cx where
 prog:Program
 w:World
 K:Zg
 mg:Str->Option Ze
 base:Heap
 A:Around
 N:List Str
 s₀:Zf
 H₀:Hp
 env:Env
 outer:List Env
 stack:List Env
 ex:List Zh
 fn:Str->Bool
 calm:Bool
 pn:List (Zh×Obj)
 xe:Ze->Zf->Prop
noncomputable def frs (l:List Env):List Zh:=l.filterMap (·.frame)
noncomputable abbrev Cx.fs (X:Cx):List Zh:=frs X.outer
noncomputable def Vis (s:Scope) (x:Str):Prop:=s.names.lookup x=Za .local\/s.names.lookup x=Za .cell\/s.names.lookup x=Za .free
noncomputable def Loc (s:Scope) (x:Str):Prop:=s.names.lookup x=Za .local\/s.names.lookup x=Za .cell
noncomputable def Look (env:Env) (h:Heap) (m:Str->Option Ze) (x:Str) (u:Ze):Prop :=
 (env.kindOf x=Za .local/\m x=Za u)\/((env.kindOf x=Za .cell\/env.kindOf x=Za .free)/\∃c,env.cells.lookup x=Za c/\h.IsCell c (Za u))
structure Cx.Ok (X:Cx):Prop where
 mod:Mod X.K X.mg X.base
 kind:X.env.scope.kind=.function
 glob:X.env.globals=mainGlobals
 blt:X.env.builtins=builtinsNs
 above:X.s₀.heap.objs.size<=X.env.locals
 inj:∀x y c,X.env.cells.lookup x=Za c->X.env.cells.lookup y=Za c->x=y
 has:∀x,(X.env.kindOf x=Za .cell\/X.env.kindOf x=Za .free)->∃c,X.env.cells.lookup x=Za c
 cab:∀x c,X.fn x=Zd->X.env.cells.lookup x=Za c->X.s₀.heap.objs.size<=c
 hd:X.calm=Zd->X.A.handled=Zb
 frames:X.A.frames=Za X.stack
 stk:X.stack=X.outer\/(X.stack=X.env::X.outer/\X.env.frame=Za X.env.locals)
 exf:∀b∈X.ex,b≠X.env.locals/\∀x c,X.env.cells.lookup x=Za c->c≠b
 bs:∀b o,X.base.get? b=Za o->X.s₀.heap.get? b=Za o/\X.H₀ b=Zb
 bsz:X.base.objs.size<=X.s₀.heap.objs.size
 noex:∀b o,X.base.get? b=Za o->b ∉ X.ex
 exfs:∀b∈X.ex,b ∉ X.fs
 funs:X.s₀.heap.FunFrames X.base X.outer
 frf:∀b∈X.fs,X.H₀ b=Zb
structure Inv (X:Cx) (pins:List (Zh×Obj)) (σ:List (Option V)) (H:Hp) (s:Zf):Prop where
 ok:X.Ok
 os:s.os=X.s₀.os
 bare:AllBare s.gens
 base:Un X.fs X.ex X.H₀ H X.s₀.heap s.heap
 loc:∃m,s.heap.Ns X.env.locals m/\∀(i:Nat) (x:Str) (v:V),X.N[i]?=Za x->σ[i]?=Za (Za v)->Vis X.env.scope x->∃u,RelV v u/\Look X.env s.heap m x u
 cell:∀x c,X.env.cells.lookup x=Za c->∃v,s.heap.IsCell c v
 free:H X.env.locals=Zb
 freeC:∀x c,X.env.cells.lookup x=Za c->H c=Zb
 pin:∀p∈X.pn++pins,s.heap.get? p.1=Za p.2/\H p.1=Zb/\p.1≠X.env.locals/\p.1 ∉ X.fs/\∀v,p.2.data≠.cell v
 hok:HOk X.prog X.w H s.heap
 len:σ.length=X.N.length
section
variable {X:Cx}{pins:List (Zh × Obj)}{σ:List (Option V)}{H H' : Hp}{s:Zf}{h' : Heap}
theorem Cx.Ok.nofr (ok:X.Ok){b:Zh}{o:Obj}(e:X.base.get? b=Za o):b ∉ X.fs:=λh=>by
 have:=(ok.funs.mem h).1;rw[e] at this;cases this
theorem Inv.bs (I:Inv X pins σ H s):∀b o,X.base.get? b=Za o->s.heap.get? b=Za o/\H b=Zb:=λb o e =>
 ⟨I.base.keep b o (I.ok.bs b o e).1 (I.ok.bs b o e).2 (I.ok.nofr e) (I.ok.noex b o e),I.base.free b o (I.ok.bs b o e).1 (I.ok.bs b o e).2 (I.ok.noex b o e)⟩
theorem Inv.bk (I:Inv X pins σ H s):∀b o,X.base.get? b=Za o->s.heap.get? b=Za o:=λb o e=>(I.bs b o e).1
theorem Inv.mod (I:Inv X pins σ H s):Mod X.K X.mg X.base:=I.ok.mod
theorem Inv.kIn (I:Inv X pins σ H s):X.K.In s.heap:=I.ok.mod.kin.keeps I.bk
theorem Inv.lt (I:Inv X pins σ H s):X.env.locals<s.heap.objs.size:=let ⟨_,h,_⟩:=I.loc;h.lt
theorem Inv.sz (I:Inv X pins σ H s):X.s₀.heap.objs.size<=s.heap.objs.size:=Bz I.ok.above (Nat.le_of_lt I.lt)
theorem Inv.nofs (I:Inv X pins σ H s)(h:s.heap.objs.size<=a):a ∉ X.fs:=λc=>by
 obtain⟨_,o,b,_⟩:=I.ok.funs.mem c;exact absurd (At (Ao b) (Bz I.sz h)) (Ce _)
theorem Inv.cne (I:Inv X pins σ H s):∀x c,X.env.cells.lookup x=Za c->c≠X.env.locals:=λx c e z=>by
 obtain⟨v,o,b,d⟩:=I.cell x c e;obtain⟨m,⟨f,g,i,a,h,_⟩,_⟩:=I.loc;rw[z,a] at b;obtain rfl:=sI b;rw[h] at d;cases d
theorem Inv.funs (I:Inv X pins σ H s):s.heap.FunFrames X.base X.outer:=by
 have all:∀(l:List Env),(∀b∈frs l,b∈X.fs)->X.s₀.heap.FunFrames X.base l->s.heap.FunFrames X.base l:=by
  intro l
  induction l with
  |nil=>intro _ _;trivial
  | cons env r i =>
   intro d m;nofun;obtain⟨k,⟨L,o,c,n,f,j⟩,g⟩:=m;ac_rfl;have a:L∈X.fs:=d L (by unfold frs;rw[Gs,c];exact Au);obtain⟨p,e⟩:=I.base.slot L o f (I.ok.frf L a) a λz=>I.ok.exfs L z a;exact⟨k,⟨L,_,c,n,e,j⟩,i (λb h=>d b (by unfold frs;rw[Gs,c];exact Ai _ h)) g⟩
 exact all X.outer (λ_ h=>h) I.ok.funs
theorem Inv.stack (I:Inv X pins σ H s):s.heap.FunFrames X.base X.stack:=by
 rcases I.ok.stk with e|⟨e,h⟩
 ·rw[e];exact I.funs
 ·rw[e];obtain⟨m,a,_⟩:=I.loc;refine .cons (by rw[I.ok.kind];decide) h a ?_ I.funs;exact Heap.get?_none_of_le (Bz I.ok.bsz I.ok.above)
theorem Inv.stkSub (I:Inv X pins σ H s):∀b∈frs X.stack,b∈X.env.locals::X.fs:=λb h=>by
 rcases I.ok.stk with e|⟨e,a⟩
 ·rw[e] at h;exact Ai _ h
 ·rw[e] at h;unfold frs at h;rw[Gs,a] at h;exact h
theorem Inv.stkFree (I:Inv X pins σ H s):∀b∈frs X.stack,H b=Zb:=λb h=>by
 rcases Ak.mp (I.stkSub b h) with e|h
 ·rw[e];exact I.free
 ·obtain⟨_,o,a,_⟩:=I.ok.funs.mem h;exact I.base.free b o a (I.ok.frf b h) λz=>I.ok.exfs b z h
theorem Inv.step {g':Array GenState}{t':Nat}{d':Drawn}{ch:List Zh} (I:Inv X pins σ H s)
  (a:∀b∈ch,(b∈X.ex\/X.s₀.heap.objs.size<=b)/\b≠X.env.locals/\(∀x c,X.env.cells.lookup x=Za c->c≠b)/\∀p∈X.pn++pins,p.1≠b)
  (keep:∀b o,b≠X.env.locals->b ∉ X.fs->b ∉ ch->s.heap.get? b=Za o->H b=Zb->h'.get? b=Za o)
  (slot:∀b o,b≠X.env.locals->b∈X.fs->b ∉ ch->s.heap.get? b=Za o->H b=Zb->∃F,h'.get? b=Za { o with slots:=F }) (free:∀b o,b ∉ ch->s.heap.get? b=Za o->H b=Zb->H' b=Zb)
  (there:∀b o,b ∉ ch->s.heap.get? b=Za o->∃A,h'.get? b=Za A)
  (tups:∀b xs,H b=Za (.tup xs)->H' b=Za (.tup xs)) (frzs:∀b o u,H b=Za (.frz o u)->H' b=Za (.frz o u)) (tbls:∀b ps,H b=Za (.tbl ps)->∃more,H' b=Za (.tbl (ps++more)))
  (ns:∀m,s.heap.Ns X.env.locals m->h'.Ns X.env.locals m) (G:HOk X.prog X.w H' h') (M:AllBare g') :
  Inv X pins σ H' { s with heap:=h',gens:=g',drawn:=d',toks:=t' }:=by
 have C:∀b o,X.s₀.heap.get? b=Za o->b≠X.env.locals:=λb o e=>Bc (At (Ao e) I.ok.above);have j:∀b o,X.s₀.heap.get? b=Za o->b ∉ X.ex->b ∉ ch:=λb o e h w=>by
  rcases (a b w).1 with z|z
  ·exact h z
  ·exact absurd (At (Ao e) z) (Ce _)
 have f:∀x c,X.env.cells.lookup x=Za c->∀v,s.heap.IsCell c v->h'.IsCell c v:=λx c e v ⟨o,y,D⟩=>by
  have g:c ∉ ch:=λz=>(a c z).2.2.1 x c e rfl;by_cases J:c∈X.fs
  ·obtain⟨F,q⟩:=slot c o (I.cne x c e) J g y (I.freeC x c e);exact⟨_,q,D⟩
  ·exact⟨o,keep c o (I.cne x c e) J g y (I.freeC x c e),D⟩
 refine⟨I.ok,I.os,M,⟨λb o e n w h=>?_,λb o e n w h=>?_,λb o e n h=>?_,λb o e h=>?_,λb xs e=>tups b xs (I.base.tups b xs e),λb o xs e=>frzs b o xs (I.base.frzs b o xs e),λb ps e=>?_⟩,?_,λx c e=>?_,?_,λx c e=>?_,λp K=>?_,G,I.len⟩
 ·exact keep b o (C b o e) w (j b o e h) (I.base.keep b o e n w h) (I.base.free b o e n h)
 ·obtain⟨F,t⟩:=I.base.slot b o e n w h;obtain⟨E,B⟩:=slot b _ (C b o e) w (j b o e h) t (I.base.free b o e n h);exact⟨E,B⟩
 ·obtain⟨A, t⟩:=I.base.there b o e h;exact free b A (j b o e h) t (I.base.free b o e n h)
 ·obtain⟨A, t⟩:=I.base.there b o e h;exact there b A (j b o e h) t
 ·obtain⟨O,t⟩:=I.base.tbls b ps e;obtain⟨Q,B⟩:=tbls b _ t;exact⟨O++Q,by rw[B,Array.append_assoc]⟩
 ·obtain⟨m,P,R⟩:=I.loc;refine⟨m,ns m P,λi x v t B N=>?_⟩;obtain⟨u,r,l⟩:=R i x v t B N;refine⟨u,r,?_⟩;rcases l with l|⟨k,c,e,z⟩
  ·exact .inl l
  ·exact .inr ⟨k,c,e,f x c e _ z⟩
 ·obtain⟨v,z⟩:=I.cell x c e;exact⟨v,f x c e v z⟩
 ·obtain⟨m,⟨o,_,_,y,_⟩,_⟩:=I.loc;exact free _ o (λz=>(a _ z).2.1 rfl) y I.free
 ·obtain⟨v,o,y,D⟩:=I.cell x c e;exact free c o (λz=>(a c z).2.2.1 x c e rfl) y (I.freeC x c e)
 ·obtain⟨e,n,ne,L,d⟩:=I.pin p K;have g:p.1 ∉ ch:=λz=>(a p.1 z).2.2.2 p K rfl;exact⟨keep p.1 p.2 ne L g e n,free p.1 p.2 g e n,ne,L,d⟩
theorem Inv.un {t':Nat}(I:Inv X pins σ H s)(u:Un X.fs [] H H' s.heap h')(d:HOk X.prog X.w H' h'):Inv X pins σ H' { s with heap:=h',toks:=t' }:=by
 obtain⟨m,⟨o,v,q,g,r⟩,_⟩:=id I.loc;obtain⟨t,k⟩:=u.any g I.free (by simp);exact I.step (g':=s.gens) (d':=s.drawn) (ch:=[]) (λ_ z=>nomatch z) (λb o _ a _ e n=>u.keep b o e n a (by simp)) (λb o _ a _ e n=>u.slot b o e n a (by simp)) (λb o _ e n=>u.free b o e n (by simp)) (λb o _ e=>u.there b o e (by simp)) u.tups u.frzs u.tbls (λp i=>by
  obtain⟨l,f,c,h,j⟩:=i;rw[g] at h;obtain rfl:=sI h;exact⟨_,f,c,k,j⟩) d I.bare
theorem Inv.call {g':Array GenState}{t':Nat}{d':Drawn}{ch:List Zh} (I:Inv X pins σ H s) (u:Un (frs X.stack) ch H H' s.heap h') (j:HOk X.prog X.w H' h') (q:AllBare g')
  (a:∀b∈ch,(b∈X.ex\/X.s₀.heap.objs.size<=b)/\b≠X.env.locals/\(∀x c,X.env.cells.lookup x=Za c->c≠b)/\∀p∈X.pn++pins,p.1≠b) :
  Inv X pins σ H' { s with heap:=h',gens:=g',drawn:=d',toks:=t' }:=by
 obtain⟨m,⟨o,B,C,k,r⟩,_⟩:=id I.loc;obtain⟨A,f⟩:=u.any k I.free λz=>(a _ z).2.1 rfl;exact I.step (ch:=ch) a (λb o f t h e n=>u.keep b o e n (λz=>(Ak.mp (I.stkSub b z)).elim f t) h) (λb o _ _ h e n=>u.any e n h) (λb o h e n=>u.free b o e n h) (λb o h e=>u.there b o e h) u.tups u.frzs u.tbls (λy l=>by
  obtain⟨w,g,i,d,v⟩:=l;rw[k] at d;obtain rfl:=sI d;exact⟨_,g,i,f,v⟩) j q
theorem Inv.turned {t':Nat}{it:Zh} (I:Inv X pins σ H s) (k:∀b o,b≠it->s.heap.get? b=Za o->h'.get? b=Za o) (A:H it=Zb) (d:it≠X.env.locals)
  (g:it∈X.ex\/X.s₀.heap.objs.size<=it) (i:∀x c,X.env.cells.lookup x=Za c->c≠it) (w:∀p∈X.pn++pins,p.1≠it):Inv X pins σ H { s with heap:=h',toks:=t' }:=by
 have a:∀b u,H b=Za u->b≠it:=λb u e z=>by rw[z,A] at e;cases e
 refine I.step (g':=s.gens) (d':=s.drawn) (ch:=[it]) (λb l=>?_) (λb o _ _ h e _=>k b o (λz=>h (by simp [z])) e) (λb o _ _ h e _=>⟨o.slots,k b o (λz=>h (by simp [z])) e⟩) (λ_ _ _ _ n=>n)
  (λb o h e=>⟨o,k b o (λz=>h (by simp [z])) e⟩) (λ_ _ e=>e) (λ_ _ _ e=>e) (λb B e=>⟨#[],by rw[e];simp⟩) (λm j=>?_) (λb u e=>?_) I.bare
 ·have e:b=it:=by simpa using l
  subst e;exact⟨g,d,i,w⟩
 ·obtain⟨o,t,y,f,r⟩:=j;exact⟨o,t,y,k _ o (Ne.symm d) f,r⟩
 ·refine (I.hok b u e).stay (λc v h q=>k c v ?_ q) (λ_ q=>q) λ_ _ q=>q;rcases h with z|z
  ·rw[z];exact a b u e
  ·exact a c _ z
theorem Inv.tok (I:Inv X pins σ H s)(t:Nat):Inv X pins σ H { s with toks:=t }:=I.un (h':=s.heap) (t':=t) Un.refl I.hok
theorem Inv.kept {t':Nat}(I:Inv X pins σ H s)(k:∀b u,s.heap.get? b=Za u->h'.get? b=Za u):Inv X pins σ H { s with heap:=h',toks:=t' }:=I.un (Un.kept k) (I.hok.kept k)
theorem Inv.laid {t':Nat} (I:Inv X pins σ H s) (k:∀b u,s.heap.get? b=Za u->h'.get? b=Za u) (h:s.heap.objs.size<=a) (new:zbh X.prog X.w (upd H a o) h' a o) :
 Inv X pins σ (upd H a o) { s with heap:=h',toks:=t' }:=I.un (Un.laid k h (I.hok.fresh h)) (I.hok.laid k h new)
theorem Inv.write {x e:Zh}{t':Nat} (I:Inv X pins σ H s) (m:Mut (H x)) (a:e=x\/H e=Za (.own x)) (k:∀b u,b≠e->s.heap.get? b=Za u->h'.get? b=Za u) (h:∃u,h'.get? e=Za u)
 (new:zbh X.prog X.w (upd H x o) h' x o):Inv X pins σ (upd H x o) { s with heap:=h',toks:=t' }:=I.un (Un.write m a k h) (I.hok.write m a k h new)
theorem Inv.pins_of {pins':List (Zh×Obj)}(I:Inv X pins σ H s)(h:∀p∈pins',s.heap.get? p.1=Za p.2/\H p.1=Zb/\p.1≠X.env.locals/\p.1 ∉ X.fs/\∀v,p.2.data≠.cell v):Inv X pins' σ H s :=
 ⟨I.ok,I.os,I.bare,I.base,I.loc,I.cell,I.free,I.freeC,λp a=>(Cq.mp a).elim (λz=>I.pin p (List.mem_append_left _ z)) (h p),I.hok,I.len⟩
theorem zii {N:List Str}(h:N.Nodup){i j:Nat}{x:Str}(a:N[i]?=Za x)(b:N[j]?=Za x):i=j:=by
 obtain⟨d,e⟩:=Ag.mp a;obtain⟨f,c⟩:=Ag.mp b;exact (List.getElem_inj h).mp (e.trans c.symm)
theorem zk6 {E:Ze->Zf->Prop}{i:Nat}{x:Str}{v:V}{u:Ze}{Q:Unit->Zf->Prop} (I:Inv X pins σ H s) (hN:X.N.Nodup) (R:X.N[i]?=Za x) (w:Loc X.env.scope x) (r:RelV v u)
  (h:∀s',Inv X pins (σ.set i (Za v)) H s'->(∃a,Heap.SameBut a s.heap s'.heap/\(a=X.env.locals\/X.env.cells.lookup x=Za a))->Q () s') (hf:X.fn x=Zd\/X.env.scope.names.lookup x=Za .local:=by first|exact .inl rfl|exact .inr rfl|assumption):wpAny M A (storeName X.env x u) Q E s:=by
 obtain⟨m,hn,hl⟩:=id I.loc;have L:(X.env.scope.kind == .class || (X.env.scope.kind == .module && X.env.locals != X.env.globals))=Zc:=by rw[I.ok.kind];rfl
 have F:i<σ.length:=by rw[I.len];exact (Ag.mp R).1
 have cne:=I.cne;have t:∀{a:Zh}{h' : Heap},(∃o,s.heap.get? a=Za o/\H a=Zb)->Heap.SameBut a s.heap h'->HOk X.prog X.w H h':=λ{a h'} ha f b ob e=>by
  obtain⟨_,_,B⟩:=ha;refine (I.hok b ob e).stay (λc T l q=>(f.2 c ?_).trans q) (λ_ q=>q) λ_ _ q=>q;rintro rfl;rcases l with rfl|l
  ·rw[B] at e;cases e
  ·rw[B] at l;cases l
 rcases w with D|D
 ·refine wpAny_storeName_local D hn (λh' hn' f => ?_) L;obtain⟨oL,_,_,hoL,_⟩:=id hn;refine h _ ⟨I.ok,I.os,I.bare,⟨λb o e n J w=>?_,λb o e n J w=>?_,I.base.free,λb o e w=>?_,I.base.tups,I.base.frzs,I.base.tbls⟩,⟨_,hn',λj y Y g C e3=>?_⟩,λy c e=>?_,I.free,I.freeC,λp hp=>?_,t ⟨oL,hoL,I.free⟩ f,by simpa using I.len⟩ ⟨_,f,.inl rfl⟩
  ·exact (f.2 b (Bc (At (Ao e) I.ok.above))).trans (I.base.keep b o e n J w)
  ·obtain⟨sl,g⟩:=I.base.slot b o e n J w;exact⟨sl,(f.2 b (Bc (At (Ao e) I.ok.above))).trans g⟩
  ·obtain⟨W, g⟩:=I.base.there b o e w;exact⟨W,(f.2 b (Bc (At (Ao e) I.ok.above))).trans g⟩
  ·by_cases G : j = i
   ·subst G;rw[R] at g;obtain rfl:=sI g;rw[Bn F] at C;cases C;exact⟨u,r,.inl ⟨D,by simp⟩⟩
   ·rw[Bt (Ne.symm G)] at C;obtain⟨Z,r',q⟩:=hl j y Y g C e3;refine⟨Z,r',?_⟩;rcases q with⟨k,e⟩|⟨k,c,e,z⟩
    ·refine .inl ⟨k, ?_⟩;have:y≠x:=λe=>G (zii hN g (e ▸ R));simp [this,e]
    ·exact .inr ⟨k,c,e,z.sameBut f (cne y c e)⟩
  ·obtain⟨T, z⟩:=I.cell y c e;exact⟨T,z.sameBut f (cne y c e)⟩
  ·obtain⟨e,n,ne,nf,d⟩:=I.pin p hp;exact⟨(f.2 p.1 ne).trans e,n,ne,nf,d⟩
 ·have K:X.fn x=Zd:=by
   rcases hf with z|z
   ·exact z
   ·rw[z] at D;cases D
  obtain⟨c,l⟩:=I.ok.has x (.inl D);obtain⟨T,z⟩:=I.cell x c l;refine wpAny_storeName_cell I.ok.kind D l z (λh' N f=>?_);obtain⟨oc,P,O⟩:=id z;refine h { s with heap:=h' } ⟨I.ok,I.os,I.bare,⟨λb o e n J w=>?_,λb o e n J w=>?_,I.base.free,λb o e w=>?_,I.base.tups,I.base.frzs,I.base.tbls⟩,⟨m,hn.sameBut f (Ne.symm (cne x c l)),λj y Y g C e3=>?_⟩,λy U e=>?_,I.free,I.freeC,λp hp=>?_,t ⟨oc,P,I.freeC x c l⟩ f,by simpa using I.len⟩ ⟨c,f,.inr l⟩
  ·exact (f.2 b (Bc (At (Ao e) (I.ok.cab x c K l)))).trans (I.base.keep b o e n J w)
  ·obtain⟨sl,g⟩:=I.base.slot b o e n J w;exact⟨sl,(f.2 b (Bc (At (Ao e) (I.ok.cab x c K l)))).trans g⟩
  ·obtain⟨W, g⟩:=I.base.there b o e w;exact⟨W,(f.2 b (Bc (At (Ao e) (I.ok.cab x c K l)))).trans g⟩
  ·by_cases G : j = i
   ·subst G;rw[R] at g;obtain rfl:=sI g;rw[Bn F] at C;cases C;exact⟨u,r,.inr ⟨.inl D,c,l,N⟩⟩
   ·rw[Bt (Ne.symm G)] at C;obtain⟨Z,r',q⟩:=hl j y Y g C e3;refine⟨Z,r',?_⟩;rcases q with q|⟨k,U,e,z'⟩
    ·exact .inl q
    ·refine .inr ⟨k,U, e,z'.sameBut f ?_⟩;rintro rfl;exact G (zii hN g (I.ok.inj _ _ _ e l ▸ R))
  ·by_cases S : U = c
   ·subst S;exact⟨_,N⟩
   ·obtain⟨w2,z2⟩:=I.cell y U e;exact⟨w2,z2.sameBut f S⟩
  ·obtain⟨e,n,ne,nf,d⟩:=I.pin p hp;refine⟨(f.2 p.1 ?_).trans e,n,ne,nf,d⟩;intro q;rw[q,P] at e;have q' : oc=p.2:=sI e;exact d T (by rw[<-q'];exact O)
theorem zec {x:Str}{v:V}{u:Ze} (I:Inv X pins σ H s) (b:X.N.Nodup) (c:X.N[i]?=Za x) (a:Loc X.env.scope x) (r:RelV v u)
  (h:∀s',Inv X pins (σ.set i (Za v)) H s'->Q () s') (e:X.fn x=Zd\/X.env.scope.names.lookup x=Za .local:=by first|exact .inl rfl|exact .inr rfl|assumption):wpAny M A (storeName X.env x u) Q E s :=
 zk6 I b c a r (λs' d _=>h s' d) e
theorem Inv.call' {s':Zf} (I:Inv X pins σ H s) (f:s'.os=s.os) (u:Un (frs X.stack) ch H H' s.heap s'.heap) (a:HOk X.prog X.w H' s'.heap) (i:AllBare s'.gens)
  (h:∀b∈ch,(b∈X.ex\/X.s₀.heap.objs.size<=b)/\b≠X.env.locals/\(∀x c,X.env.cells.lookup x=Za c->c≠b)/\∀p∈X.pn++pins,p.1≠b):Inv X pins σ H' s':=by
 obtain⟨h',g,d,t,o⟩:=s';have e:o=s.os:=f;subst e;exact I.call (g':=g) (t':=t) (d':=d) u a i h
end
noncomputable abbrev XK:=Ze->Option Zh->Hp->Prop
noncomputable abbrev St:=List (Option V)
noncomputable abbrev VK:=V->Hp->Prop
noncomputable abbrev TE:=St->Hp->VK->Prop
noncomputable abbrev TT:=St->Hp->(Bool->Hp->Prop)->Prop
noncomputable abbrev TA:=St->Hp->(List V->Hp->Prop)->Prop
structure Ends where
 nx:St->Hp->Prop
 rt:VK
 bk:St->Hp->Prop:=λ_ _=>False
 ct:St->Hp->Prop:=λ_ _=>False
noncomputable abbrev TS:=Ends->St->Hp->Prop
noncomputable def EP (X:Cx) (pins:List (Zh×Obj)) (σ:St) (Q:VK) (u:Ze) (s':Zf):Prop:=∃v H,Inv X pins σ H s'/\RelV v u/\Q v H
noncomputable def TP (X:Cx) (pins:List (Zh×Obj)) (σ:St) (Q:Bool->Hp->Prop) (b:Bool) (s':Zf):Prop:=∃H,Inv X pins σ H s'/\Q b H
noncomputable def AP (X:Cx) (pins:List (Zh×Obj)) (σ:St) (Q:List V->Hp->Prop) (u:List Ze) (s':Zf):Prop:=∃v H,Inv X pins σ H s'/\Vals v u/\Q v H
noncomputable def SP (X:Cx) (pins:List (Zh×Obj)) (D:Ends) (f:Flow) (s':Zf):Prop :=
 match f with
 |.next=>∃a H,Inv X pins a H s'/\D.nx a H
 |.brk=>∃a H,Inv X pins a H s'/\D.bk a H
 |.cont=>∃a H,Inv X pins a H s'/\D.ct a H
 |.ret u=>∃v a H,Inv X pins a H s'/\RelV v u/\D.rt v H
noncomputable def PE (X:Cx) (e:Zi) (t:TE):Prop :=
 ∀(pins:List (Zh×Obj)) (s:Zf) (σ:St) (H:Hp) (Q:VK),Inv X pins σ H s->t σ H Q->wpAny #v[1,7] X.A (eval e X.env) (EP X pins σ Q) X.xe s
noncomputable def PT (X:Cx) (e:Zi) (t:TT):Prop :=
 ∀(pins:List (Zh×Obj)) (s:Zf) (σ:St) (H:Hp) (Q:Bool->Hp->Prop),Inv X pins σ H s->t σ H Q->wpAny #v[1,7] X.A (isTrue e X.env (eval e X.env)) (TP X pins σ Q) X.xe s
noncomputable def PW (X:Cx) (e:Zi) (t:TT):Prop :=
 ∀(w:Sem Ze) (pins:List (Zh×Obj)) (s:Zf) (σ:St) (H:Hp) (Q:Bool->Hp->Prop),Inv X pins σ H s->t σ H Q->wpAny #v[1,7] X.A (isTrue e X.env w) (TP X pins σ Q) X.xe s
theorem PW.pt {t:TT}(h:PW X e t):PT X e t:=h _
noncomputable def PA (X:Cx) (es:List Zi) (t:TA):Prop :=
 ∀(pos:Pos) (pins:List (Zh×Obj)) (s:Zf) (σ:St) (H:Hp) (Q:List V->Hp->Prop),Inv X pins σ H s->t σ H Q->wpAny #v[1,7] X.A (spliced (backTo pos (starEach es X.env))) (AP X pins σ Q) X.xe s
noncomputable def PS (X:Cx) (st:Stmt) (t:TS):Prop :=
 ∀(pins:List (Zh×Obj)) (s:Zf) (σ:St) (H:Hp) (D:Ends),Inv X pins σ H s->t D σ H->wpAny #v[1,7] X.A (exec st X.env) (SP X pins D) X.xe s
noncomputable def PSs (X:Cx) (st:List Stmt) (t:TS):Prop :=
 ∀(pins:List (Zh×Obj)) (s:Zf) (σ:St) (H:Hp) (D:Ends),Inv X pins σ H s->t D σ H->wpAny #v[1,7] X.A (execs st X.env) (SP X pins D) X.xe s
theorem thn {α:Type}{t:Sem α}{Q b:α->Zf->Prop}{M:Model}{A:Around}{E:Ze->Zf->Prop}{s:Zf}(h:wpAny M A t Q E s)(c:∀a s,Q a s->b a s):wpAny M A t b E s:=Cs h c λ_ _ x=>x
section
variable {X:Cx}
theorem bin {a b:Zi}{t i:TE} (k:PE X a t) (p:PE X b i) {pins:List (Zh×Obj)}{s:Zf}{σ:St}{H:Hp}{R:V->V->Hp->Prop} (I:Inv X pins σ H s) (h:t σ H λx g=>i σ g λy c=>R x y c)
  {α:Type}{Q:α->Zf->Prop}{f:Ze->Ze->Sem α}
  (l:∀v u e x y c,Inv X pins σ c e->RelV x v->RelV y u->R x y c->wpAny #v[1,7] X.A (f v u) Q X.xe e) :
  wpAny #v[1,7] X.A (eval a X.env) (λv s₁=>wpAny #v[1,7] X.A (eval b X.env) (λu d=>wpAny #v[1,7] X.A (f v u) Q X.xe d) X.xe s₁) X.xe s:=by
 refine thn (k pins s σ H _ I h) λv m ⟨x,g,j,o,q⟩=>?_;refine thn (p pins m σ g _ j q) λu e ⟨y,c,w,r,n⟩=>?_;exact l v u e x y c w o r n
noncomputable def tVar (i:Nat):TE:=λσ H Q=>∃v,σ[i]?=Za (Za v)/\Q v H
noncomputable def tC (v:V):TE:=λ_ H Q=>Q v H
theorem zd9 {x:Str}{pos:Pos}(hN:X.N[i]?=Za x)(hv:Vis X.env.scope x)(hd:(x==("__debug__" : Str))=Zc:=by decide)(hcd:(x==("__classdict__" : Str))=Zc:=by decide):PE X (.Name x pos) (tVar i):=by
 intro pins s σ H Q I h;nofun;obtain⟨v,e,h⟩:=h;obtain⟨m,hn,hl⟩:=I.loc;obtain⟨u,r,l⟩:=hl i x v hN e hv;ac_rfl;have fin:EP X pins σ Q u s:=⟨v,H,I,r,h⟩;rcases l with⟨hk,hm⟩|⟨hk,c,hc,hcell⟩
 ·exact wpAny_Name (wpAny_loadName_local I.ok.kind hk hn hm fin) hd
 ·rcases hk with hk|hk
  ·exact wpAny_Name (wpAny_loadName_cell I.ok.kind hk hc hcell fin) hd
  ·exact wpAny_Name (wpAny_loadName_free I.ok.kind hk hc hcell fin hcd) hd
theorem z0u {i j pos}:PE X (.Constant (.int i) j pos) (tC (.int i)):=λ_ _ _ H _ I h=>wpAny_Constant_int ⟨.int i,H,I.tok _,⟨_,rfl⟩,h⟩
theorem z26 {b j pos}:PE X (.Constant (.bool b) j pos) (tC (.bl b)):=λ_ _ _ H _ I h=>Constant_bool ⟨.bl b,H,I,rfl,h⟩
theorem zsx {j pos}:PE X (.Constant .none j pos) (tC .non):=λ_ _ _ H _ I h=>Constant_none ⟨.non,H,I,rfl,h⟩
theorem zfj {x j pos}:PE X (.Constant (.str x) j pos) (tC (.str x)):=λ_ _ _ H _ I h=>Calls.Constant_str ⟨.str x,H,I.tok _,⟨_,rfl⟩,h⟩
noncomputable def Gl (X:Cx) (x:Str):Prop:=X.env.kindOf x=Za .globalImplicit
theorem zjc {pins:List (Zh×Obj)}{s:Zf}{σ:St}{x:Str}{u:Ze}{pos:Pos} (I:Inv X pins σ H s) (c:Gl X x) (a:X.mg x=Za u) (h:Q u s)
  (b:(x==("__debug__" : Str))=Zc:=by decide):wpAny #v[1,7] X.A (eval (.Name x pos) X.env) Q E s :=
 Hh I.ok.kind c (Calls.loadGlobal_global (by rw[I.ok.glob];exact I.mod.glob.keeps I.bk) a h) b
theorem zdq {pins:List (Zh×Obj)}{s:Zf}{σ:St}{x:Str}{u:Ze}{pos:Pos} (I:Inv X pins σ H s) (e:Gl X x) (b:X.mg x=Zb) (d:bootBuiltins x=Za u) (h:Q u s)
  (g:x≠"__name__" := by decide) (f:(x==("__debug__" : Str))=Zc:=by decide):wpAny #v[1,7] X.A (eval (.Name x pos) X.env) Q E s:=by
 obtain⟨m,a,c⟩:=I.mod.blt;exact Hh I.ok.kind e (Calls.loadGlobal_builtin (by rw[I.ok.glob];exact I.mod.glob.keeps I.bk) b (by rw[I.ok.blt];exact a.keeps I.bk) ((c x g).trans d) h) f
theorem zvd {x:Str}{v:V}{u:Ze}{pos:Pos}(d:Gl X x)(a:X.mg x=Zb)(b:bootBuiltins x=Za u)(r:RelV v u)(e:x≠"__name__" := by decide)(c:(x==("__debug__" : Str))=Zc:=by decide):PE X (.Name x pos) (tC v) :=
 λ_ _ _ H _ I h=>zdq I d a b ⟨v,H,I,r,h⟩ e c
noncomputable def t2I (t b:TE) (k:Int->Int->Hp->Prop):St->Hp->Prop:=λσ H=>t σ H λx a=>b σ a λy c=>∃i j,x=.int i/\y=.int j/\k i j c
variable {a b:Zi}{ta tb:TE}{pos:Pos}
noncomputable def PC (X:Cx) (op:CmpOp) (a b:Zi) (t:TE):Prop :=
 ∀(pins:List (Zh×Obj)) (s:Zf) (σ:St) (H:Hp) (Q:VK),Inv X pins σ H s->t σ H Q ->
  wpAny #v[1,7] X.A (eval a X.env) (λv s₁=>wpAny #v[1,7] X.A (eval b X.env) (λu c=>wpAny #v[1,7] X.A (compareOp op v u) (EP X pins σ Q) X.xe c) X.xe s₁) X.xe s
theorem zv0 (b:Zi){op:CmpOp}(h:op≠.In)(c:op≠.NotIn):behindInMarks op b=Zc:=by
 have e:(op==CmpOp.In)=Zc:=by cases op<;>first|rfl|exact absurd rfl h
 have a:(op==CmpOp.NotIn)=Zc:=by cases op<;>first|rfl|exact absurd rfl c
 cases b<;>simp [behindInMarks,e,a]
noncomputable def tCmp (p:Int->Int->Bool) (ta tb:TE):TE:=λσ H Q=>t2I ta tb (λi j a=>Q (.bl (p i j)) a) σ H
noncomputable abbrev tNeI:TE->TE->TE:=tCmp λi j=>!decide (i=j)
theorem z7l {op:CmpOp}{p:Int->Int->Bool} (g:PE X a ta) (d:PE X b tb)
  (rule:∀(i j:Int) (t u:Tok) (Q:Ze->Zf->Prop) (s:Zf),Q (.bool (p i j)) s->wpAny #v[1,7] X.A (compareOp op (.int i t) (.int j u)) Q X.xe s):PC X op a b (tCmp p ta tb):=by
 intro pins s σ H Q I h;refine bin g d I h λv u e x y f l r k q=>?_;obtain⟨i,j,rfl,rfl,q⟩:=q;obtain⟨t,rfl⟩:=r;obtain⟨c,rfl⟩:=k;exact rule i j t c _ e ⟨.bl _,f,l,rfl,q⟩
theorem z9e (c:PE X a ta)(d:PE X b tb):PC X .NotEq a b (tNeI ta tb):=z7l c d λ_ _ _ _ _ _ h=>ne_int (by rw[bne,Bool.beq_eq_decide_eq];exact h)
noncomputable def tIsN (ta:TE):TE:=λσ H Q=>ta σ H λx a=>Q #v[2,20] a
theorem RelV.none_iff {x:V}{v:Ze}(r:RelV x v):(v==Ze.none)=decide (x=.non):=by
 cases x with
 |non=>cases r;rfl
 |bl _=>cases r;rfl
 |int _=>obtain⟨t,rfl⟩:=r;rfl
 |str _=>obtain⟨t,rfl⟩:=r;rfl
 |byt _=>obtain⟨t,rfl⟩:=r;rfl
 |flt _=>obtain⟨t,rfl⟩:=r;rfl
 |ref _=>cases r;rfl
 |ty _=>cases r;rfl
theorem z7w {j pos'}(d:PE X a ta):PC X .Is a (.Constant .none j pos') (tIsN ta):=by
 intro pins s σ H Q I h;refine thn (d pins s σ H _ I h) λv e ⟨x,b,c,r,q⟩=>?_;exact Constant_none (is_none_gen ⟨.bl _,b,c,by rw[r.none_iff];rfl,q⟩)
noncomputable def tB (t:TE):TT:=λσ H Q=>t σ H λx a=>∃c,x=.bl c/\Q c a
theorem z0h {op:CmpOp}{t:TE}(h:PC X op a b t)(e:behindInMarks op b=Zc:=by first|exact zv0 _ (by decide) (by decide)|rfl):PT X (.Compare a [op] [b] pos) (tB t):=by
 intro pins s σ H Q I k;refine wpAny_isTrue_Compare1 (thn (h pins s σ H _ I k) λv n e=>thn e λu m i=>thn i λc l ⟨x,g,j,r,f⟩=>?_) e;obtain⟨d,rfl,q⟩:=f;cases r;exact Cu ⟨g,j,q⟩
theorem zz9 {e:Zi}{t:TE}(h:PE X e t)(f:∀w,isTrue e X.env w=(do let v <- w;standAt e.pos;holding [v] (truthy v)):=by intro _;rfl):PT X e (tB t):=by
 intro pins s σ H Q I g;refine isTrue_plain (thn (h pins s σ H _ I g) λv i ⟨x,b,c,r,a⟩=>?_) (f _);obtain⟨d,rfl,q⟩:=a;cases r;exact Cu ⟨b,c,q⟩
variable {tA tB' : TT}{rest:List Zi}
noncomputable def tAnd (t u:TT):TT:=λσ H Q=>t σ H λc a=>if c=Zd then u σ a Q else Q Zc a
noncomputable def tOr (t u:TT):TT:=λσ H Q=>t σ H λc a=>if c=Zd then Q Zd a else u σ a Q
noncomputable def tNot (t:TT):TT:=λσ H Q=>t σ H λc a=>Q (!c) a
theorem z13 (b:PT X a tA):PW X (.BoolOp .And [a] pos) tA:=by
 intro w pins s σ H Q I h;refine isTrue_and (thn (b pins s σ H Q I h) λc d e=>?_);cases c with
 |true=>exact isTrue_and_nil e
 |false=>exact e
theorem z0v (b:PT X a tA):PW X (.BoolOp .Or [a] pos) tA:=by
 intro w pins s σ H Q I h;refine isTrue_or (thn (b pins s σ H Q I h) λc d e=>?_);cases c with
 |false=>exact isTrue_or_nil e
 |true=>exact e
theorem z6h (g:PT X a tA)(f:PW X (.BoolOp .And (b::rest) pos) tB'):PW X (.BoolOp .And (a::b::rest) pos) (tAnd tA tB'):=by
 intro w pins s σ H Q I h;refine isTrue_and (thn (g pins s σ H _ I h) λc i ⟨d,e,q⟩=>?_);cases c with
 |true=>exact f w pins i σ d Q e q
 |false=>exact⟨d,e,q⟩
theorem z6n (g:PT X a tA)(f:PW X (.BoolOp .Or (b::rest) pos) tB'):PW X (.BoolOp .Or (a::b::rest) pos) (tOr tA tB'):=by
 intro w pins s σ H Q I h;refine isTrue_or (thn (g pins s σ H _ I h) λc i ⟨d,e,q⟩=>?_);cases c with
 |true=>exact⟨d,e,q⟩
 |false=>exact f w pins i σ d Q e q
theorem z0y (b:PT X a tA):PT X (.UnaryOp .Not a pos) (tNot tA):=by
 intro pins s σ H Q I h;exact isTrue_not (b pins s σ H (λc d=>Q (!c) d) I h)
noncomputable def z5n (ta tb:TE):TE:=λσ H Q=>ta σ H λx a=>∃c,x=.bl c/\if c=Zd then tb σ a Q else Q (.bl Zc) a
noncomputable def z8g (ta:TE):TE:=λσ H Q=>ta σ H λx a=>∃c,x=.bl c/\Q (.bl (!c)) a
theorem z5h {op}{t:TE}(h:PE X a t):PE X (.BoolOp op [a] pos) t:=λpins s σ H Q I b=>BoolOp_one (h pins s σ H Q I b)
theorem z8h (g:PE X a ta)(f:PE X (.BoolOp .And (b::rest) pos) tb):PE X (.BoolOp .And (a::b::rest) pos) (z5n ta tb):=by
 intro pins s σ H Q I h;refine BoolOp_and (thn (g pins s σ H _ I h) λv i ⟨x,d,e,r,q⟩=>?_);obtain⟨c,rfl,q⟩:=q;cases r;refine Cu ?_;cases c with
 |true=>exact f pins i σ d Q e q
 |false=>exact⟨.bl Zc,d,e,rfl,q⟩
theorem z8d (e:PE X a ta):PE X (.UnaryOp .Not a pos) (z8g ta):=by
 intro pins s σ H Q I h;refine UnaryOp_ (thn (e pins s σ H _ I h) λv f ⟨x,b,d,r,q⟩=>?_);obtain⟨c,rfl,q⟩:=q;cases r;exact not_of (Cu ⟨.bl (!c),b,d,rfl,q⟩)
noncomputable def tIf (t:TT) (ta tb:TE):TE:=λσ H Q=>t σ H λc a=>if c=Zd then ta σ a Q else tb σ a Q
theorem znw {c:Zi}(i:PT X c tA)(k:PE X a ta)(j:PE X b tb):PE X (.IfExp c a b pos) (tIf tA ta tb):=by
 intro pins s σ H Q I h;refine wpAny_IfExp (thn (i pins s σ H _ I h) λd g ⟨e,f,q⟩=>?_);cases d with
 |true=>exact k pins g σ e Q f q
 |false=>exact j pins g σ e Q f q
end
noncomputable def SqL (K:Zg) (H:Hp) (a:Zh) (xs:List V):Prop :=
 Rd H a (.lst xs) \/
  ∃(o:Obj) (i:Array Ze) (n:Nat),K.lookup a=Za o/\o.cls=.type "list"/\o.dict=Zb/\o.data=.seq i n/\i.size<=sizeLine/\Vals xs i.toList
noncomputable def SqT (K:Zg) (H:Hp) (a:Zh) (xs:List V):Prop :=
 Rd H a (.tup xs) \/
  ∃(o:Obj) (i:Array Ze) (n:Nat),K.lookup a=Za o/\o.cls=.type "tuple"/\o.data=.seq i n/\i.size<=sizeLine/\Vals xs i.toList
noncomputable def absV:Ze->Option V
 |.none=>Za .non
 |.bool b=>Za (.bl b)
 |.int i _=>Za (.int i)
 |.str x _=>Za (.str x)
 |.bytes b _=>Za (.byt b)
 |.float b _=>Za (.flt b)
 |.ref a=>Za (.ref a)
 |.type n=>Za (.ty n)
 |_=>Zb
theorem RelV.abs {x:V}{u:Ze}(r:RelV x u):absV u=Za x:=by
 cases x with
 |non=>cases r;rfl
 |bl _=>cases r;rfl
 |int _=>obtain⟨t,rfl⟩:=r;rfl
 |str _=>obtain⟨t,rfl⟩:=r;rfl
 |byt _=>obtain⟨t,rfl⟩:=r;rfl
 |flt _=>obtain⟨t,rfl⟩:=r;rfl
 |ref _=>cases r;rfl
 |ty _=>cases r;rfl
theorem RelV.inj {x y:V}{u:Ze}(r:RelV x u)(q:RelV y u):x=y:=sI (r.abs.symm.trans q.abs)
theorem Vals.inj:∀{xs ys:List V}{u:List Ze},Vals xs u->Vals ys u->xs=ys
 |_,_,_,.nil,.nil=>rfl
 |_,_,_,.cons r t,.cons b a=>by rw[r.inj b,Vals.inj t a]
section
variable {pins:List (Zh × Obj)}{σ:St}{s:Zf}{xs ys:List V}
theorem SqL.of {K:Zg}(h:H a=Za (.lst xs)):SqL K H a xs:=.inl (.inl h)
theorem SqT.of {K:Zg}(h:H a=Za (.tup xs)):SqT K H a xs:=.inl (.inl h)
theorem Inv.list (I:Inv X pins σ H s)(h:SqL X.K H a xs):∃i:List Ze,Vals xs i/\PlainL s.heap a i.toArray/\xs.length<=sizeLine:=by
 rcases h with h|⟨o,i,n,f,b,d,c,g,r⟩
 ·obtain⟨z,i,n,r,e⟩:=h.ok I.hok;exact⟨i,r,⟨_,n,e,rfl,rfl,rfl⟩,z⟩
 ·refine⟨i.toList,r,⟨o,n,I.kIn a o f,b,d,by simpa using c⟩, ?_⟩;have e:=r.length;simp only [Bx] at e;symm
theorem Inv.tuple (I:Inv X pins σ H s)(h:SqT X.K H a xs):∃i:List Ze,Vals xs i/\IsTup s.heap a i.toArray/\xs.length<=sizeLine:=by
 rcases h with h|⟨o,i,n,d,b,c,f,r⟩
 ·obtain⟨z,i,r,p⟩:=h.ok I.hok;exact⟨i,r,p.t,z⟩
 ·refine⟨i.toList,r,⟨o,I.kIn a o d,b,n,by simpa using c⟩, ?_⟩;have e:=r.length;simp only [Bx] at e;symm
theorem Inv.list_inj (I:Inv X pins σ H s)(h:SqL X.K H a xs)(h':SqL X.K H a ys):xs=ys:=by
 obtain⟨i,r,⟨o,n,e,_,_,d⟩,_⟩:=I.list h;obtain⟨its',f,⟨g,j,c,_,_,b⟩,_⟩:=I.list h';rw[e] at c;obtain rfl:=sI c;rw[d] at b;injection b with d1 _;have:i=its':=by simpa using congrArg Array.toList d1
 subst this;exact r.inj f
theorem Inv.tuple_inj (I:Inv X pins σ H s)(h:SqT X.K H a xs)(h':SqT X.K H a ys):xs=ys:=by
 obtain⟨i,r,⟨o,e,_,n,d⟩,_⟩:=I.tuple h;obtain⟨its',f,⟨g,c,_,j,b⟩,_⟩:=I.tuple h';rw[e] at c;obtain rfl:=sI c;rw[d] at b;injection b with d1 _;have:i=its':=by simpa using congrArg Array.toList d1
 subst this;exact r.inj f
end
noncomputable abbrev Cx.wish (X:Cx) (E:Ze->Zf->Prop):Cx:={ X with xe:=E }
noncomputable abbrev Cx.nox (X:Cx):Cx:=X.wish λ_ _=>False
theorem Cx.Ok.wish {X:Cx}(ok:X.Ok)(E:Ze->Zf->Prop):(X.wish E).Ok :=
 ⟨ok.mod,ok.kind,ok.glob,ok.blt,ok.above,ok.inj,ok.has,ok.cab,ok.hd,ok.frames,ok.stk,ok.exf,ok.bs,ok.bsz,ok.noex,ok.exfs,ok.funs,ok.frf⟩
theorem Cx.Ok.unwish {X:Cx}{E:Ze->Zf->Prop}(ok:(X.wish E).Ok):X.Ok :=
 ⟨ok.mod,ok.kind,ok.glob,ok.blt,ok.above,ok.inj,ok.has,ok.cab,ok.hd,ok.frames,ok.stk,ok.exf,ok.bs,ok.bsz,ok.noex,ok.exfs,ok.funs,ok.frf⟩
section
variable {pins:List (Zh × Obj)}{σ:St}{s:Zf}
theorem Inv.wish (I:Inv X pins σ H s)(E:Ze->Zf->Prop):Inv (X.wish E) pins σ H s:=⟨I.ok.wish E,I.os,I.bare,I.base,I.loc,I.cell,I.free,I.freeC,I.pin,I.hok,I.len⟩
theorem Inv.unwish (I:Inv (X.wish E) pins σ H s):Inv X pins σ H s:=⟨I.ok.unwish,I.os,I.bare,I.base,I.loc,I.cell,I.free,I.freeC,I.pin,I.hok,I.len⟩
theorem SP.unwish {s':Zf}(h:SP (X.wish E) pins D f s'):SP X pins D f s':=by
 cases f with
 |next=>obtain⟨a,H,I,q⟩:=h;exact⟨a,H,I.unwish,q⟩
 |brk=>obtain⟨a,H,I,q⟩:=h;exact⟨a,H,I.unwish,q⟩
 |cont=>obtain⟨a,H,I,q⟩:=h;exact⟨a,H,I.unwish,q⟩
 |ret u=>obtain⟨v,a,H,I,r,q⟩:=h;exact⟨v,a,H,I.unwish,r,q⟩
theorem PE.nox {t:TE}(h:PE X.nox e t):PE X e t:=λpins s σ H Q I b =>
 Cs (h pins s σ H Q (I.wish _) b) (λ_ _ ⟨v,a,c,r,q⟩=>⟨v,a,c.unwish,r,q⟩) λ_ _ z=>False.elim z
theorem PT.nox {t:TT}(h:PT X.nox e t):PT X e t:=λpins s σ H Q I b =>
 Cs (h pins s σ H Q (I.wish _) b) (λ_ _ ⟨a,c,q⟩=>⟨a,c.unwish,q⟩) λ_ _ z=>False.elim z
theorem PSs.nox {st:List Stmt}{t:TS}(h:PSs X.nox st t):PSs X st t:=λpins s σ H D I a =>
 Cs (h pins s σ H D (I.wish _) a) (λ_ _ q=>q.unwish) λ_ _ z=>False.elim z
end
section
variable {X:Cx}{st:Stmt}{rest:List Stmt}{t u:TS}{e:Zi}{te:TE}{pos:Pos}
noncomputable def zzb:TS:=λD σ H=>D.nx σ H
noncomputable def tSeq (t u:TS):TS:=λD σ H=>t { D with nx:=u D } σ H
theorem znf:PSs X [] zzb:=λ_ _ σ H _ I h=>Ge ⟨σ,H,I,h⟩
theorem zb1 (c:PS X st t) (d:PSs X rest u):PSs X (st::rest) (tSeq t u):=by
 intro pins s σ H D I h;refine wpAny_execs_cons (thn (c pins s σ H { D with nx:=u D } I h) λf g q=>?_);cases f with
 | next =>
  obtain⟨a,b,e,q⟩:=q;exact d pins g a b D e q
 |ret v=>exact q
 |brk=>exact q
 |cont=>exact q
theorem pss_one (a:PS X st t):PSs X [st] t:=by
 intro pins s σ H D I h;refine wpAny_execs_cons (thn (a pins s σ H D I h) λf b q=>?_);cases f with
 |next=>exact Ge q
 |ret v=>exact q
 |brk=>exact q
 |cont=>exact q
theorem z3s:PS X (.Pass pos) zzb:=λ_ _ σ H _ I h=>wpAny_Pass ⟨σ,H,I,h⟩
theorem Inv.quiet {pins:List (Zh×Obj)}{σ:St}{s:Zf}(I:Inv X pins σ H s):interactive X.env=Zc:=by simp [interactive,I.ok.kind]
noncomputable def z3p (te:TE):TS:=λD σ H=>te σ H λ_ a=>D.nx σ a
theorem zu5 (d:PE X e te)(b:swapsWith e Zb pos.line X.env=pure Zc:=by rfl):PS X (.Expr e pos) (z3p te):=by
 intro pins s σ H D I h;exact wpAny_Expr_any (thn (d pins s σ H _ I h) λv f ⟨x,a,c,r,q⟩=>⟨σ,a,c,q⟩) I.quiet b
noncomputable def tRet (te:TE):TS:=λD σ H=>te σ H D.rt
theorem zkv (c:PE X e te):PS X (.Return (Za e) pos) (tRet te):=by
 intro pins s σ H D I h;exact wpAny_Return_some (thn (c pins s σ H _ I h) λv d ⟨x,a,b,r,q⟩=>⟨x,σ,a,b,r,q⟩)
noncomputable def tIfS (c:TT) (t u:TS):TS:=λD σ H=>c σ H λb a=>if b=Zd then t D σ a else u D σ a
theorem z4j {tc:TT}(i:PT X c tc)(k:PSs X a t)(j:PSs X b u):PS X (.If c a b pos) (tIfS tc t u):=by
 intro pins s σ H D I h;refine wpAny_If (thn (i pins s σ H _ I h) λd g ⟨e,f,q⟩=>?_);cases d with
 |true=>exact k pins g σ e D f q
 |false=>exact j pins g σ e D f q
end
noncomputable abbrev TG:=V->St->Hp->(St->Hp->Prop)->Prop
noncomputable abbrev TGs:=List V->St->Hp->(St->Hp->Prop)->Prop
noncomputable def PG (X:Cx) (a:Zi) (t:TG):Prop :=
 ∀(pins:List (Zh×Obj)) (s:Zf) (σ:St) (H:Hp) (v:V) (u:Ze) (Q:St->Hp->Prop),Inv X pins σ H s->RelV v u->t v σ H Q ->
  wpAny #v[1,7] X.A (assign a X.env u) (λ_ d=>∃b c,Inv X pins b c d/\Q b c) X.xe s
noncomputable def PGs (X:Cx) (ts:List Zi) (t:TGs):Prop :=
 ∀(pins:List (Zh×Obj)) (s:Zf) (σ:St) (H:Hp) (c:List V) (u:List Ze) (Q:St->Hp->Prop),Inv X pins σ H s->Vals c u->t c σ H Q ->
  wpAny #v[1,7] X.A (assignInOrder ((assignEach ts X.env).map (·.2)) u) (λ_ d=>∃a b,Inv X pins a b d/\Q a b) X.xe s
noncomputable abbrev TSet:=V->V->V->Hp->(Hp->Prop)->Prop
noncomputable def PSet (X:Cx) (t:TSet):Prop :=
 ∀(pins:List (Zh×Obj)) (s:Zf) (σ:St) (H:Hp) (o i v:V) (b c u:Ze) (Q:Hp->Prop),Inv X pins σ H s->RelV o b->RelV i c->RelV v u->t o i v H Q ->
  wpAny #v[1,7] X.A (setItem b c u) (λ_ d=>∃a,Inv X pins σ a d/\Q a) X.xe s
noncomputable abbrev TIp:=V->V->Hp->VK->Prop
noncomputable def PIp (X:Cx) (op:Operator) (t:TIp):Prop :=
 ∀(pins:List (Zh×Obj)) (s:Zf) (σ:St) (H:Hp) (x y:V) (v u:Ze) (Q:VK),Inv X pins σ H s->RelV x v->RelV y u->t x y H Q ->
  wpAny #v[1,7] X.A (inplaceOp op v u) (EP X pins σ Q) X.xe s
section
variable {X:Cx}{pos:Pos}
noncomputable def ze9 (i:Nat):TG:=λv σ H Q=>Q (σ.set i (Za v)) H
theorem zik {x:Str}(b:X.N.Nodup)(c:X.N[i]?=Za x)(a:Loc X.env.scope x)(e:X.fn x=Zd\/X.env.scope.names.lookup x=Za .local:=by first|exact .inl rfl|exact .inr rfl|assumption):PG X (.Name x pos) (ze9 i):=by
 intro pins s σ H v u Q I r h;exact wpAny_assign_Name (zec I b c a r (λf d=>⟨_,H,d,h⟩) e)
noncomputable def gNil:TGs:=λv σ H Q=>v=[]/\Q σ H
noncomputable def zpo (t:TG) (u:TGs):TGs:=λb σ H Q=>∃v r,b=v::r/\t v σ H λa c=>u r a c Q
theorem ztk:PGs X [] gNil:=by
 intro pins s σ H v u Q I r h;obtain⟨e,h⟩:=h;subst e;cases r;exact assignInOrder_nil ⟨σ,H,I,h⟩
theorem ziw {e:Zi}{es:List Zi}{t:TG}{u:TGs} (d:PG X e t) (f:PGs X es u)
  (c:(assignEach (e::es) X.env).map (·.2)=assign e X.env::(assignEach es X.env).map (·.2):=by rfl):PGs X (e::es) (zpo t u):=by
 intro pins s σ H l m Q I r h;obtain⟨v,k,a,h⟩:=h;subst a;cases r with
 | cons r i =>
  rw[c];refine assignInOrder_cons (thn (d pins s σ H _ _ _ I r h) λ_ j ⟨σ1,b,g,q⟩=>?_);exact f pins j σ1 b _ _ Q g i q
noncomputable def gTup (K:Zg) (n:Nat) (t:TGs):TG:=λv σ H Q=>∃a x,v=.ref a/\SqT K H a x/\x.length=n/\t x σ H Q
theorem z0o {t:TGs} (i:X.calm=Zd) (h:PGs X es t)
  (z:(assignEach es X.env).length=n:=by rfl) (c:(assignEach es X.env).findIdx? (·.1)=Zb:=by rfl):PG X (.Tuple es k pos) (gTup X.K n t):=by
 intro pins s σ H v u Q I r d;nofun;obtain⟨a,x,g,y,w,d⟩:=d;ac_rfl;subst g;cases r;nofun;obtain⟨j,f,q,A⟩:=I.tuple y;ac_rfl;refine assign_Tuple_tuple (I.ok.hd i) q (by simp [z,<-w,f.length]) c λp l=>?_;have m:Inv X pins σ H { s with heap:=p }:=I.kept (t':=s.toks) λb o e=>l b o (Bc (Ao e)) e;exact h pins _ σ H x _ Q m (by simpa using f) d
noncomputable def gSub (c e:TE) (t:TSet):TG:=λv σ H Q=>c σ H λo a=>e σ a λi b=>t o i v b λd=>Q σ d
theorem z6w {d c:TE}{t:TSet} (l:PE X o d) (D:PE X i c) (m:PSet X t)
  (w:∀v,assign (.Subscript o i pos) X.env v=(do
   let a <- holding [v] (eval o X.env)
   let b <- holding [v,a] (eval i X.env)
   standAt pos
   holding [v,a,b] (setItem a b v)
   release [v,a,b] []):=by intro _;rfl):PG X (.Subscript o i pos) (gSub d c t):=by
 intro pins s σ H v u Q I r h;rw[w];refine Aa (Fc (thn (l pins s σ H _ I h) λa A ⟨x,e,f,C,z⟩=>?_));refine Aa (Fc (thn (D pins A σ e _ f z) λb g ⟨y,j,E,n,B⟩=>?_));refine Aa (wpAny_standAt (Aa (Fc (thn (m pins g σ j x y v a b u _ E C n r B) λ_ F ⟨k,p,q⟩=>?_))));exact wpAny_release ⟨σ,k,p,q⟩
noncomputable def tAsg (te:TE) (g:TG):TS:=λD σ H=>te σ H λx a=>g x σ a D.nx
theorem zt8 {t e:Zi}{te:TE} (j:PE X e te) (i:PG X t g) (c:swapsWithSole [t] e pos.line X.env=pure Zc:=by rfl) (k:swappedStores [t] e X.env=pure Zb:=by rfl)
  (d:(assignEach [t] X.env).map (·.2)=[assign t X.env]:=by rfl):PS X (.Assign [t] e pos) (tAsg te g):=by
 intro pins s σ H D I h;refine wpAny_Assign_stores (thn (j pins s σ H _ I h) λv l ⟨x,a,f,r,b⟩=>?_) c k;rw[d];exact thn (i pins l σ a x v _ f r b) λ_ m q=>q
theorem zj2 {i:Nat}{x:Str}{e:Zi}{te:TE}{pos':Pos} (d:X.N.Nodup) (j:X.N[i]?=Za x) (a:Loc X.env.scope x) (k:PE X e te) (f:swapsWith e (Za (.Name x pos')) pos.line X.env=pure Zc:=by rfl) (c:X.fn x=Zd\/X.env.scope.names.lookup x=Za .local:=by first | exact .inl rfl | exact .inr rfl | assumption) :
  PS X (.Assign [.Name x pos'] e pos) (tAsg te (ze9 i)):=by
 intro pins s σ H D I h;refine wpAny_Assign_Name (thn (k pins s σ H _ I h) λv n ⟨y,b,g,r,q⟩=>?_) f;exact zec g d j a r (λm l=>⟨_,b,l,q⟩) c
noncomputable def tAug (i:Nat) (te:TE) (t:TIp):TS:=λD σ H=>∃x,σ[i]?=Za (Za x)/\te σ H λy a=>t x y a λz b=>D.nx (σ.set i (Za z)) b
theorem z7f {x:Str}{te:TE}{op:Operator}{t:TIp}{pos':Pos} (o:X.N.Nodup) (j:X.N[i]?=Za x) (g:Loc X.env.scope x) (L:PE X e te) (B:PIp X op t) (O:X.fn x=Zd\/X.env.scope.names.lookup x=Za .local:=by first | exact .inl rfl | exact .inr rfl | assumption) :
  PS X (.AugAssign (.Name x pos') op e pos) (tAug i te t):=by
 intro pins s σ H D I h;obtain⟨v,G,h⟩:=h;obtain⟨m,F,M⟩:=I.loc;have vis:Vis X.env.scope x:=by rcases g with k|k;exact .inl k;exact .inr (.inl k)
 obtain⟨u,r,l⟩:=M i x v j G vis;refine wpAny_AugAssign_Name ?_;have go:wpAny #v[1,7] X.A (eval e X.env) (λw d=>wpAny #v[1,7] X.A (inplaceOp op u w) (λr f=>wpAny #v[1,7] X.A (storeName X.env x r) (λ_=>SP X pins D .next) X.xe f) X.xe d) X.xe s:=by
  refine thn (L pins s σ H _ I h) λw N ⟨y,n,q,Q,K⟩=>?_;refine thn (B pins N σ n v y u w _ q r Q K) λz S ⟨T,A,R,C,P⟩=>?_;exact zec R o j g C (λU E=>⟨_,A,E,P⟩) O
 rcases l with⟨a,p⟩|⟨a,c,J,b⟩
 ·exact wpAny_loadName_local I.ok.kind a F p go
 ·rcases a with a|a
  ·exact wpAny_loadName_cell I.ok.kind a J b go
  ·rcases g with k|k
   ·have:X.env.scope.names.lookup x=Za .free:=a;rw[k] at this;cases this
   ·have:X.env.scope.names.lookup x=Za .free:=a;rw[k] at this;cases this
end
section
variable {pos:Pos}
noncomputable def zzy (c:TT) (t:TS):TS:=λD σ H=>∃W:Nat->St->Hp->Prop,(∃m,W m σ H)/\∀m σ H,W m σ H ->
 c σ H λb d=>if b=Zd then ∃N:St->Hp->Prop,(∀a f,N a f->∃e,e<m/\W e a f)/\t { D with nx:=N,ct:=N,bk:=D.nx } σ d else D.nx σ d
theorem zzg {tc:TT}{t:TS} (u:PassesOwn #v[1,7] X.A X.env X.xe) (E:PT X c tc) (J:PSs X body t):PS X (.While c body [] pos) (zzy tc t):=by
 intro pins s σ H D I h;nofun;obtain⟨W,⟨C,y⟩,turn⟩:=h;ac_rfl;refine wpAny_While (codeAny_whileLoop (λn F=>∃e r,Inv X pins e r F/\W n e r) ?_ C ⟨σ,H,I,y⟩);rintro n G ⟨σ1,l,z,B⟩;refine Ey u (thn (E pins G σ1 l _ z (turn n σ1 l B)) λb A ⟨p,x,g⟩=>?_);cases b with
 | true =>
  obtain⟨N,o,g⟩:=g;rw[if_pos rfl];refine Ey u (thn (J pins A σ1 p _ x g) λf K q=>?_);cases f with
  | next =>
   nofun;obtain⟨a,d,k,j⟩:=q;obtain⟨m,i,w⟩:=o a d j;ac_rfl;exact⟨m,i,a,d,k,w⟩
  | cont =>
   nofun;obtain⟨a,d,k,j⟩:=q;obtain⟨m,i,w⟩:=o a d j;ac_rfl;exact⟨m,i,a,d,k,w⟩
  |brk=>exact q
  |ret v=>exact q
 | false =>
  rw[if_neg Av];exact Ge ⟨σ1,p,x,g⟩
end
structure It where
 go:Nat->Hp->Prop
 yld:Nat->Hp->V->Hp->Prop
 stop:Nat->Hp->Prop
noncomputable def FpOk (X:Cx) (pins:List (Zh×Obj)) (H:Hp) (b:Zh):Prop :=
 H b=Zb/\b≠X.env.locals/\b ∉ X.fs/\(b∈X.ex\/X.s₀.heap.objs.size<=b)/\(∀x c,X.env.cells.lookup x=Za c->c≠b)/\∀p∈X.pn++pins,p.1≠b
theorem Inv.fpOk {pins:List (Zh×Obj)}{σ:St}{s:Zf}(I:Inv X pins σ H s)(h:s.heap.objs.size<=b)(d:H' b=Zb):FpOk X pins H' b:=by
 refine⟨d,Nat.ne_of_gt (At I.lt h),I.nofs h,.inr (Bz I.sz h),λx c e z=>?_,λp a z=>?_⟩
 ·obtain⟨v,q⟩:=I.cell x c e;exact absurd (At q.lt (by rw[z];exact h)) (Ce _)
 ·exact absurd (At (Ao (I.pin p a).1) (by rw[z];exact h)) (Ce _)
structure Turn (P:Program) (w:World) (K:Zg) (tg:Zi) (J:It) (fp:List Zh) (it:Zh) (tn:Nat->Heap->Prop):Prop where
 mem:it∈fp
 obj:∀i h,tn i h->∀b∈fp,∃o,h.get? b=Za o/\∀v,o.data≠.cell v
 keep:∀i h h',tn i h->(∀b∈fp,∀o,h.get? b=Za o->h'.get? b=Za o)->tn i h'
 item:∀(X:Cx),X.prog=P->X.w=w->X.K=K->X.calm=Zd->∀(i:Nat) (pins:List (Zh×Obj)) (s:Zf) (σ:St) (H:Hp) (E:Ze->Zf->Prop),Inv X pins σ H s->(∀b∈fp,FpOk X pins H b)->tn i s.heap->J.go i H ->
  wpAny (model P w) X.A (pyNext (.ref it)) (λr s1=>∃u,r=Za u /\
   wpAny (model P w) X.A (letOwnedTupleGo tg (.ref it) u) (λ_ s2=>∃x H',Inv X pins σ H' s2/\RelV x u/\J.yld i H x H'/\tn (i+1) s2.heap/\∀b∈fp,H' b=Zb) E s1) E s
 done:∀(X:Cx),X.prog=P->X.w=w->X.K=K->X.calm=Zd->∀(i:Nat) (pins:List (Zh×Obj)) (s:Zf) (σ:St) (H:Hp) (E:Ze->Zf->Prop),Inv X pins σ H s->(∀b∈fp,FpOk X pins H b)->tn i s.heap->J.stop i H ->
  wpAny (model P w) X.A (pyNext (.ref it)) (λr s1=>r=Zb/\Inv X pins σ H s1) E s
 self:∀(A:Around) (i:Nat) (s:Zf) (Q:Ze->Zf->Prop) (E:Ze->Zf->Prop),tn i s.heap->Q (.ref it) s->wpAny (model P w) A (pyIter (.ref it)) Q E s
noncomputable abbrev TI:=St->Hp->(It->Hp->Prop)->Prop
noncomputable def PIE (X:Cx) (pins:List (Zh×Obj)) (σ:St) (c:Zi) (R:It->Hp->Prop) (i:Ze) (s:Zf):Prop :=
 ∃(a:Zh) (fp:List Zh) (t:Nat->Heap->Prop) (J:It) (H:Hp),i=.ref a/\Inv X pins σ H s/\Turn X.prog X.w X.K c J fp a t/\t 0 s.heap/\(∀b∈fp,FpOk X pins H b)/\R J H
noncomputable def PI (X:Cx) (t iter:Zi) (w:TI):Prop :=
 ∀(pins:List (Zh×Obj)) (s:Zf) (σ:St) (H:Hp) (R:It->Hp->Prop),Inv X pins σ H s->w σ H R ->
  wpAny #v[1,7] X.A (eval iter X.env) (λv a=>wpAny #v[1,7] X.A (pyIter v) (PIE X pins σ t R) X.xe a) X.xe s
theorem zzi {s:Zf}{t:Zi}{u:Ze}{vs:Array Ze} (b:s.heap.get? it=Za o) (c:o.cls=.type n) (d:o.data=.fields vs)
    (e:["enumerate","zip","dict_itemiterator","dict_reverseitemiterator","odict_iterator","itertools.zip_longest","itertools.pairwise"].contains n=Zc) (a:Q () s):wpAny M A (letOwnedTupleGo t (.ref it) u) Q E s:=by
  unfold letOwnedTupleGo;cases t<;>first
    |exact Ar a
    | (cases u<;>first
        |exact Ar a
        | (refine Aa (wpAny_load b ?_)
           rw[c,d];show wpAny M A (if (["enumerate","zip","dict_itemiterator","dict_reverseitemiterator","odict_iterator","itertools.zip_longest","itertools.pairwise"].contains n&&vs[0]? == Za (rawInt _))=Zd then _ else _) Q E s;rw[if_neg (by intro h;rw[e,Eh] at h;cases h)];exact Ar a))
noncomputable def Itl (K:Zg) (a:Zh):It :=
 ⟨λi H=>∃b x,SqL K H a b/\b[i]?=Za x,λi H x c=>c=H/\∀b,SqL K H a b->b[i]?=Za x,λi H=>∃b,SqL K H a b/\b.length<=i⟩
noncomputable def Itt (K:Zg) (a:Zh):It :=
 ⟨λi H=>∃b x,SqT K H a b/\b[i]?=Za x,λi H x c=>c=H/\∀b,SqT K H a b->b[i]?=Za x,λi H=>∃b,SqT K H a b/\b.length<=i⟩
noncomputable def Itr (lo:Int) (n:Nat):It:=⟨λi _=>i<n,λi H x a=>a=H/\x=.int (lo+i),λi _=>n<=i⟩
theorem ztd {w:World}{K:Zg}{R:Zi}(a it:Zh):Turn P w K R (Itl K a) [it] it (λi h=>h.IsListIter it a i) where
 mem:=by simp
 obj:=λi h f b g=>by
  have e:b=it:=by simpa using g
  subst e;nofun;obtain⟨o,e,c,d⟩:=f;ac_rfl;exact⟨o,e,λv z=>by rw[d] at z;cases z⟩
 keep:=λi h m f k=>f.at λo e=>k it (by simp) o e
 item:=by
  intro X C t y L i pins s σ H E I n f r;subst C t y;nofun;obtain⟨V,x,l,F⟩:=r;obtain⟨q,A,p,S⟩:=I.list l;obtain⟨u,M,U⟩:=A.get F;obtain⟨B,D,T,f3,G,J⟩:=n it (by simp);ac_rfl;refine wpAny_pyNext_list_item f p.isList (x:=u) (by simpa using M) λm j O=>?_;have N:Inv X pins σ H { s with heap:=m }:=I.turned (t':=s.toks) (λb o g e=>(O.2 b g).trans e) B D f3 G J;nofun;obtain⟨o,e,c,d⟩:=id j;ac_rfl;exact⟨u,rfl,zzi (s:={ s with heap:=m }) e c d (by decide) ⟨x,H,N,U,⟨rfl,λY Q=>by rw[I.list_inj Q l];exact F⟩,j,λb g=>(n b g).1⟩⟩
 done:=by
  intro X C t y L i pins s σ H E I n f r;subst C t y;nofun;obtain⟨V,l,F⟩:=r;obtain⟨q,A,p,S⟩:=I.list l;obtain⟨B,D,T,f3,G,J⟩:=n it (by simp);ac_rfl;have Z:=A.length;exact wpAny_pyNext_list_end (I.ok.hd L) f p.isList (by simp;symm) λm W=>⟨rfl,I.turned (t':=s.toks) (λb o g e=>W b o g e) B D f3 G J⟩
 self:=λ_ _ _ _ _ f h=>wpAny_pyIter_listiter f h
theorem zp2 {w:World}{K:Zg}{R:Zi}(a it:Zh):Turn P w K R (Itt K a) [it] it (λi h=>h.IsTupleIter it a i) where
 mem:=by simp
 obj:=λi h f b j=>by
  have e:b=it:=by simpa using j
  subst e;nofun;obtain⟨o,e,c,d⟩:=f;ac_rfl;exact⟨o,e,λv z=>by rw[d] at z;cases z⟩
 keep:=λi h n f k=>f.at λo e=>k it (by simp) o e
 item:=by
  intro X C t y L i pins s σ H E I q f r;subst C t y;nofun;obtain⟨V,x,m,F⟩:=r;obtain⟨g,A,p,S⟩:=I.tuple m;obtain⟨u,M,U⟩:=A.get F;obtain⟨B,D,T,f3,G,J⟩:=q it (by simp);ac_rfl;refine wpAny_pyNext_tuple_item f (show s.heap.IsTuple a g.toArray from p) (x:=u) (by simpa using M) λn l O=>?_;have N:Inv X pins σ H { s with heap:=n }:=I.turned (t':=s.toks) (λb o j e=>(O.2 b j).trans e) B D f3 G J;nofun;obtain⟨o,e,c,d⟩:=id l;ac_rfl;exact⟨u,rfl,zzi (s:={ s with heap:=n }) e c d (by decide) ⟨x,H,N,U,⟨rfl,λY Q=>by rw[I.tuple_inj Q m];exact F⟩,l,λb j=>(q b j).1⟩⟩
 done:=by
  intro X C t y L i pins s σ H E I q f r;subst C t y;nofun;obtain⟨V,m,F⟩:=r;obtain⟨g,A,p,S⟩:=I.tuple m;obtain⟨B,D,T,f3,G,J⟩:=q it (by simp);ac_rfl;have Z:=A.length;exact wpAny_pyNext_tuple_end (I.ok.hd L) f (show s.heap.IsTuple a g.toArray from p) (by simp;symm) λn W=>⟨rfl,I.turned (t':=s.toks) (λb o j e=>W b o j e) B D f3 G J⟩
 self:=λ_ _ _ _ _ f h=>wpAny_pyIter_tupleiter f h
theorem zqk {w:World}{K:Zg}{D:Zi}(it:Zh)(lo:Int)(n:Nat):Turn P w K D (Itr lo n) [it] it (λi h=>IsRangeIter h it (lo+(i:Nat)*1) ((n:Int)-(i:Nat)) 1) where
 mem:=by simp
 obj:=λi h a b c=>by
  have e:b=it:=by simpa using c
  subst e;exact⟨_,a,λv z=>by
   have C:Data.fields _=Data.cell v:=z;cases C⟩
 keep:=λi h f a k=>k it (by simp) _ a
 item:=by
  intro X r l m p i pins s σ H E I g a j;subst r l m;nofun;obtain⟨q,u,G,f3,x,y⟩:=g it (by simp);ac_rfl;have W:=Walks.range (prog:=X.prog) (w:=X.w) (I.ok.hd p) it lo 1 n;refine W.item i s _ _ j a λv f A F d J=>?_;obtain⟨t,rfl⟩:=F;have B:Inv X pins σ H { s with heap:=f,toks:=A }:=I.turned (λb o c e=>J b o (by simpa using c) e) q u f3 x y;refine⟨_,rfl,zzi (s:={ s with heap:=f,toks:=A }) (n := "range_iterator") d rfl rfl (by decide) ⟨.int (lo+i),H,B,⟨t,?_⟩,⟨rfl,rfl⟩,d,λb c=>(g b c).1⟩⟩;rw[Int.mul_one]
 done:=by
  intro X r l m p i pins s σ H E I g a j;subst r l m;nofun;obtain⟨q,u,G,f3,x,y⟩:=g it (by simp);ac_rfl;exact wpAny_pyNext_range_end (I.ok.hd p) a (by have:n<=i:=j;symm) λf L=>⟨rfl,I.turned (t':=s.toks) (λb o c e=>L b o c e) q u f3 x y⟩
 self:=λ_ _ _ _ _ a h=>wpAny_pyIter_rangeiter a h
section
variable {tg:Zi}
theorem zyh {pins:List (Zh×Obj)}{σ:St}{s:Zf}{lo h:Int}{t u v:Tok}{tk:Nat} (I:Inv X pins σ H s) (d:-(2^62)<=lo) (f:lo<2^62) (j:-(2^62)<=h) (h4:h<2^62)
  (q:R (Itr lo (h-lo).toNat) H):wpAny #v[1,7] X.A (pyIter (.ref s.heap.objs.size)) (PIE X pins σ tg R) E { s with heap:=s.heap.push { cls:=.type "range",data:=.fields #[.int lo t,.int h u,.int 1 v] },toks:=tk }:=by
 refine wpAny_pyIter_range (IsRange.new ..) (small_one d f j h4) ?_;have a:Inv X pins σ H { s with heap:=s.heap.push { cls:=.type "range",data:=.fields #[.int lo t,.int h u,.int 1 v] },toks:=tk }:=I.kept λb o e=>Ab _ e;refine⟨(s.heap.push { cls:=.type "range",data:=.fields #[.int lo t,.int h u,.int 1 v] }).objs.size,[(s.heap.push { cls:=.type "range",data:=.fields #[.int lo t,.int h u,.int 1 v] }).objs.size],_,_,H,rfl,
  a.kept (t':=tk) λb o e=>Ab _ e,zqk _ lo (h-lo).toNat,?_,λb g=>?_,q⟩
 ·have c:lo+((0:Nat):Int)*1=lo:=by simp
  have i:(((h-lo).toNat:Nat):Int)-((0:Nat):Int)=Builtin.Range.rangeSize lo h 1:=by rw[rangeSize_one];split<;>symm
  show IsRangeIter _ _ (lo+((0:Nat):Int)*1) ((((h-lo).toNat:Nat):Int)-((0:Nat):Int)) 1;rw[c,i];exact Aq _ rfl
 ·have e:b=(s.heap.push { cls:=.type "range", data:=.fields #[.int lo t,.int h u,.int 1 v] }).objs.size:=by simpa using g
  subst e;exact a.fpOk (Ae _) (a.hok.fresh (Ae _))
noncomputable def z6m (t:TA):TI:=λσ H R=>t σ H λv a=>∃j:Int,v=[.int j]/\-(2^62)<=j/\j<2^62/\R (Itr 0 j.toNat) a
theorem zs9 {c:TA}{p pos:Pos} (l:Gl X "range") (g:X.mg "range" = Zb) (m:PA X [a] c) (f:starEach [a] X.env=[(Zc,eval a X.env)]:=by rfl):PI X tg (.Call (.Name "range" p) [a] [] pos) (z6m c):=by
 intro pins s σ H R I h;refine Call_ (zdq I l g boot_range (Ck (thn (m pos pins s σ H _ I h) λw x ⟨u,o,k,i,b⟩=>?_) f rfl));nofun;obtain⟨j,e,b,d,q⟩:=b;ac_rfl;subst e;cases i with
 | cons r n =>
  cases n;obtain⟨t,rfl⟩:=r;exact call_range_1 (zyh k (by symm) (by symm) b d (by simpa using q))
noncomputable def tFor (w:TI) (g:TG) (t:TS):TS:=λD σ H=>w σ H λJ d=>∃W:Nat->Nat->St->Hp->Prop,(∃m,W 0 m σ d)/\∀i m σ H,W i m σ H ->
 (J.stop i H/\D.nx σ H)\/(J.go i H/\∃N:St->Hp->Prop,(∀b a,N b a->∃c,c<m/\W (i+1) c b a)/\∀x a,J.yld i H x a->g x σ a λσ2 e=>t { D with nx:=N,ct:=N,bk:=D.nx } σ2 e)
noncomputable def zkr (fp:List Zh) (h:Heap):List (Zh×Obj):=fp.filterMap λb=>(h.get? b).map λo=>(b,o)
theorem zdg (a:b∈fp)(e:h.get? b=Za o):(b,o)∈zkr fp h:=Cn.mpr ⟨b,a,by rw[e];rfl⟩
theorem zs2 {p:Zh×Obj} (a:p∈zkr fp h):p.1∈fp/\h.get? p.1=Za p.2:=by
 obtain⟨b,c,e⟩:=Cn.mp a;cases q:h.get? b with
 |none=>rw[q] at e;cases e
 | some o =>
  rw[q] at e;have d:(b,o)=p:=sI e;subst d;exact⟨c,q⟩
theorem Inv.pinned {pins:List (Zh×Obj)}{σ:St}{s:Zf}(I:Inv X pins σ H s)(j:∀b∈fp,FpOk X pins H b)(c:∀b∈fp,∃o,s.heap.get? b=Za o/\∀v,o.data≠.cell v):Inv X (pins++zkr fp s.heap) σ H s :=
 I.pins_of λp i=>(Cq.mp i).elim (λz=>I.pin p (Ay _ z)) λz=>by
  nofun;obtain⟨h,e⟩:=zs2 z;obtain⟨f,k,g,_⟩:=j p.1 h;obtain⟨o,a,d⟩:=c p.1 h;ac_rfl;rw[e] at a;obtain rfl:=sI a;exact⟨e,f,k,g,d⟩
theorem Inv.unpinned {pins a:List (Zh×Obj)}{σ:St}{s:Zf}(I:Inv X (pins++a) σ H s):Inv X pins σ H s:=I.pins_of λp h=>I.pin p (Ay _ (List.mem_append_left _ h))
theorem z9n {iter:Zi}{body:List Stmt}{Q:TI}{g:TG}{V:TS}{pos:Pos} (B:PassesOwn #v[1,7] X.A X.env X.xe) (S:X.calm=Zd) (hi:PI X tg iter Q) (hg:PG X tg g) (p:PSs X body V)
  (hs:∀x,foldedSetIterable iter X.env x=pure x:=by intro _;rfl):PS X (.For tg iter body [] pos) (tFor Q g V):=by
 intro pins s σ H D I h;refine wpAny_For (thn (hi pins s σ H _ I h) λv s1 h1=>thn h1 λitv s2 h2=>?_) hs;nofun;obtain⟨it,fp,tn,J,H2,e,I2,T,K,U,W,⟨m0,w0⟩,turn⟩:=h2;ac_rfl;subst e;have l:∀{t:Hp},(∀b∈fp,t b=Zb)->∀b∈fp,FpOk X pins t b:=λhn b p=>⟨hn b p,(U b p).2⟩;refine codeAny_forLoop_any (λn Y=>∃i k t,Inv X pins k t Y/\tn i Y.heap/\(∀b∈fp,t b=Zb)/\W i n k t) ?_ m0 ⟨0,σ,H2,I2,K,λb p=>(U b p).1,w0⟩;rintro n Z ⟨i,q,E,R,z,C,w3⟩;rcases turn i n q E w3 with⟨stop,qn⟩|⟨go,N,hN,step⟩
 ·refine Ey B (thn (T.done X rfl rfl rfl S i pins Z q E X.xe R (l C) z stop) λr s4 ⟨L,I4⟩ => ?_);subst L;exact Ge ⟨q,E,I4,qn⟩
 ·refine Ey B (thn (T.item X rfl rfl rfl S i pins Z q E X.xe R (l C) z go) λr s4 ⟨u,L,h4⟩ => ?_);subst L;refine Ey B (thn h4 λ_ s5 ⟨x,P,I5,r5,y5,y,M⟩=>?_);have F:=I5.pinned (l M) (T.obj _ _ y);refine Ey B (thn (hg _ s5 q P x u _ F r5 (step x P y5)) λ_ s6 ⟨O,H6,I6,q6⟩=>?_);refine Ey B (thn (p _ s6 O H6 _ I6 q6) λf G w=>?_);have again:∀{a:St}{j:Hp},Inv X (pins++zkr fp s5.heap) a j G->N a j->∃m,m<n/\∃i k t,Inv X pins k t G/\tn i G.heap/\(∀b∈fp,t b=Zb)/\W i m k t:=λ{a j} c A=>by
   obtain⟨m',hm,w7⟩:=hN a j A;refine⟨m',hm,i+1,a,j,c.unpinned,T.keep _ _ _ y λb p o e=>(c.pin (b,o) (Ay _ (Ay _ (zdg p e)))).1,λb p=>?_,w7⟩;obtain⟨o,e,d⟩:=T.obj _ _ y b p;exact (c.pin (b,o) (Ay _ (Ay _ (zdg p e)))).2.1
  cases f with
  |next=>obtain⟨a,j,c,A⟩:=w;exact again c A
  |cont=>obtain⟨a,j,c,A⟩:=w;exact again c A
  |brk=>obtain⟨a,j,c,w⟩:=w;exact⟨a,j,c.unpinned,w⟩
  |ret v=>obtain⟨x7,a,j,c,r7,w⟩:=w;exact⟨x7,a,j,c.unpinned,r7,w⟩
end
noncomputable abbrev R2:=V->V->Hp->VK->Prop
noncomputable def OpR (X:Cx) (f:Ze->Ze->Sem Ze) (r:R2):Prop :=
 ∀(pins:List (Zh×Obj)) (s:Zf) (σ:St) (H:Hp) (x y:V) (v u:Ze) (Q:VK),Inv X pins σ H s->RelV x v->RelV y u->r x y H Q ->
  wpAny #v[1,7] X.A (f v u) (EP X pins σ Q) X.xe s
noncomputable def UnR (X:Cx) (f:Ze->Sem Ze) (r:V->Hp->VK->Prop):Prop :=
 ∀(pins:List (Zh×Obj)) (s:Zf) (σ:St) (H:Hp) (x:V) (v:Ze) (Q:VK),Inv X pins σ H s->RelV x v->r x H Q ->
  wpAny #v[1,7] X.A (f v) (EP X pins σ Q) X.xe s
noncomputable def zdo (X:Cx) (f:Ze) (r:List V->Hp->VK->Prop):Prop :=
 ∀(pins:List (Zh×Obj)) (s:Zf) (σ:St) (H:Hp) (x:List V) (u:List Ze) (Q:VK),Inv X pins σ H s->Vals x u->r x H Q ->
  wpAny #v[1,7] X.A (call f u) (EP X pins σ Q) X.xe s
noncomputable def TruR (X:Cx) (r:V->Hp->(Bool->Hp->Prop)->Prop):Prop :=
 ∀(pins:List (Zh×Obj)) (s:Zf) (σ:St) (H:Hp) (x:V) (v:Ze) (Q:Bool->Hp->Prop),Inv X pins σ H s->RelV x v->r x H Q ->
  wpAny #v[1,7] X.A (truthy v) (TP X pins σ Q) X.xe s
noncomputable def tOp (r:R2) (t b:TE):TE:=λσ H Q=>t σ H λx a=>b σ a λy c=>r x y c Q
noncomputable def tUn (r:V->Hp->VK->Prop) (t:TE):TE:=λσ H Q=>t σ H λx a=>r x a Q
noncomputable def rI (C:Int->Int->Prop) (g:Int->Int->V):R2:=λx y H Q=>∃i j,x=.int i/\y=.int j/\C i j/\Q (g i j) H
noncomputable def rI0 (g:Int->Int->V):R2:=λx y H Q=>∃i j,x=.int i/\y=.int j/\Q (g i j) H
noncomputable def rU (g:Int->V):V->Hp->VK->Prop:=λx H Q=>∃i,x=.int i/\Q (g i) H
section
variable {X:Cx}{a b c:Zi}{ta tb tc:TE}{pos:Pos}
theorem binT (n:PE X a ta) (l:PE X b tb) {pins:List (Zh×Obj)}{s:Zf}{σ:St}{H:Hp}{R:V->V->Hp->Prop} (I:Inv X pins σ H s)
  (h:ta σ H λx g=>tb σ g λy c=>R x y c) {Q:Ze->Zf->Prop}{f:Ze->Ze->Sem Ze}
  (j:∀v u e x y c,Inv X pins σ c e->RelV x v->RelV y u->R x y c->wpAny #v[1,7] X.A (f v u) Q X.xe e) :
  wpAny #v[1,7] X.A (eval a X.env) (λv s₁=>wpAny #v[1,7] X.A (eval b X.env) (λu d=>wpAny #v[1,7] X.A (f v u) Q X.xe d) X.xe s₁) X.xe s:=by
 refine thn (n pins s σ H _ I h) λv p ⟨x,g,m,r,i⟩=>?_;refine thn (l pins p σ g _ m i) λu e ⟨y,c,o,k,q⟩=>?_;exact j v u e x y c o r k q
theorem z9a {op:Operator}{r:R2}(c:OpR X (binaryOp op) r)(i:PE X a ta)(e:PE X b tb):PE X (.BinOp a op b pos) (tOp r ta tb):=by
 intro pins s σ H Q I h;exact wpAny_BinOp (binT i e I h λv u f x y g k d j q=>c pins f σ g x y v u Q k d j q)
theorem ya4 {op:UnaryOp}{r:V->Hp->VK->Prop}(b:UnR X (unaryOp op) r)(f:PE X a ta):PE X (.UnaryOp op a pos) (tUn r ta):=by
 intro pins s σ H Q I h;exact UnaryOp_ (thn (f pins s σ H _ I h) λv g ⟨x,c,e,d,q⟩=>b pins g σ c x v Q e d q)
theorem opI {C:Int->Int->Prop}{g:Int->Int->Int}
  (rule:∀(i j:Int) (t u:Tok) (s:Zf) (Q:Ze->Zf->Prop) (E:Ze->Zf->Prop),C i j->Q (.int (g i j) s.toks) { s with toks:=s.toks+1 }->wpAny #v[1,7] X.A (f (.int i t) (.int j u)) Q E s) :
  OpR X f (rI C λi j=>.int (g i j)):=by
 intro pins s σ H x y v u Q I r c h;obtain⟨i,j,rfl,rfl,a,q⟩:=h;obtain⟨t,rfl⟩:=r;obtain⟨b,rfl⟩:=c;exact rule i j t b s _ _ a ⟨.int (g i j),H,I.tok _,⟨_,rfl⟩,q⟩
theorem opI0 {f:Ze->Ze->Sem Ze}{g:Int->Int->Int}
  (rule:∀(i j:Int) (t u:Tok) (s:Zf) (Q:Ze->Zf->Prop) (E:Ze->Zf->Prop),Q (.int (g i j) s.toks) { s with toks:=s.toks+1 }->wpAny #v[1,7] X.A (f (.int i t) (.int j u)) Q E s) :
  OpR X f (rI0 λi j=>.int (g i j)):=by
 intro pins s σ H x y v u Q I r b h;obtain⟨i,j,rfl,rfl,q⟩:=h;obtain⟨t,rfl⟩:=r;obtain⟨a,rfl⟩:=b;exact rule i j t a s _ _ ⟨.int (g i j),H,I.tok _,⟨_,rfl⟩,q⟩
theorem opB0 {f:Ze->Ze->Sem Ze}{g:Int->Int->Bool}
  (rule:∀(i j:Int) (t u:Tok) (s:Zf) (Q:Ze->Zf->Prop) (E:Ze->Zf->Prop),Q (.bool (g i j)) s->wpAny #v[1,7] X.A (f (.int i t) (.int j u)) Q E s) :
  OpR X f (rI0 λi j=>.bl (g i j)):=by
 intro pins s σ H x y v u Q I r b h;obtain⟨i,j,rfl,rfl,q⟩:=h;obtain⟨t,rfl⟩:=r;obtain⟨a,rfl⟩:=b;exact rule i j t a s _ _ ⟨.bl (g i j),H,I,rfl,q⟩
noncomputable def CPow (i j:Int):Prop:=0<=j/\j<=1000000/\i.natAbs<2^64
noncomputable def CMul (i j:Int):Prop:=(-(2^64)<i/\i<2^64)\/(-(2^64)<j/\j<2^64)
theorem CMul.ok (h:CMul i j):IntMulOk i j:=by
 rcases h with⟨a,b⟩|⟨a,b⟩
 ·exact .of_left (intBits_le_64 a b)
 ·exact .of_right (intBits_le_64 a b)
theorem zqi (k:Nat):(0:Int)<=2^k:=by
 rw[two_pow_cast];exact El _
theorem z8w:OpR X (binaryOp .Add) (rI0 λi j=>.int (i+j)):=opI0 λ_ _ _ _ _ _ _ q=>add_int q
theorem z5p:OpR X (binaryOp .Sub) (rI0 λi j=>.int (i-j)):=opI0 λ_ _ _ _ _ _ _ q=>sub_int q
theorem z6d:OpR X (binaryOp .Mult) (rI CMul λi j=>.int (i*j)):=opI λ_ _ _ _ _ _ _ h q=>mul_int q h.ok
theorem z6a:OpR X (binaryOp .Mod) (rI (λ_ j=>0<j) λi j=>.int (i%j)):=opI λi j _ _ _ _ _ h q=>by
 have a:(0:Int)<j:=h;exact mod_int' (by symm) (by rw[Int.fmod_eq_emod_of_nonneg i (by symm)];exact q)
theorem z6u:OpR X (binaryOp .Pow) (rI CPow λi j=>.int (i^j.toNat)):=opI λ_ _ _ _ _ _ _ h q=>pow_int_small h.1 h.2.1 h.2.2 q
theorem z9m:OpR X (binaryOp .LShift) (rI CPow λi j=>.int (i*2^j.toNat)):=opI λ_ _ _ _ _ _ _ h q=>lshift_int_small h.1 h.2.1 h.2.2 q
theorem z50:OpR X (binaryOp .RShift) (rI (λ_ j=>0<=j) λi j=>.int (i/2^j.toNat)):=opI λi j _ _ _ _ _ h q =>
 rshift_int h (by rw[Int.fdiv_eq_ediv_of_nonneg i (zqi _)];exact q)
theorem z7z:OpR X (binaryOp .BitAnd) (rI0 λi j=>.int (Builtin.bitAnd i j)):=opI0 λ_ _ _ _ _ _ _ q=>and_int q
theorem yaf:OpR X (binaryOp .BitOr) (rI0 λi j=>.int (Builtin.bitOr i j)):=opI0 λ_ _ _ _ _ _ _ q=>or_int q
theorem z8v:OpR X (binaryOp .BitXor) (rI0 λi j=>.int (Builtin.bitXor i j)):=opI0 λ_ _ _ _ _ _ _ q=>xor_int q
theorem z1j:OpR X (inplaceOp .Add) (rI0 λi j=>.int (i+j)):=opI0 λ_ _ _ _ _ _ _ q=>iadd_int q
theorem z1t:OpR X (inplaceOp .Sub) (rI0 λi j=>.int (i-j)):=opI0 λ_ _ _ _ _ _ _ q=>isub_int q
theorem z1b:OpR X (inplaceOp .Mult) (rI CMul λi j=>.int (i*j)):=opI λ_ _ _ _ _ _ _ h q=>imul_int q h.ok
theorem z2g:OpR X (inplaceOp .BitAnd) (rI0 λi j=>.int (Builtin.bitAnd i j)):=opI0 λ_ _ _ _ _ _ _ q=>iand_int q
theorem z8p:OpR X (inplaceOp .BitOr) (rI0 λi j=>.int (Builtin.bitOr i j)):=opI0 λ_ _ _ _ _ _ _ q=>ior_int q
theorem z33:OpR X (inplaceOp .BitXor) (rI0 λi j=>.int (Builtin.bitXor i j)):=opI0 λ_ _ _ _ _ _ _ q=>ixor_int q
theorem unI {f:Ze->Sem Ze}{g:Int->Int}
  (rule:∀(i:Int) (t:Tok) (s:Zf) (Q:Ze->Zf->Prop) (E:Ze->Zf->Prop),Q (.int (g i) s.toks) { s with toks:=s.toks+1 }->wpAny #v[1,7] X.A (f (.int i t)) Q E s) :
  UnR X f (rU λi=>.int (g i)):=by
 intro pins s σ H x v Q I r h;obtain⟨i,rfl,q⟩:=h;obtain⟨t,rfl⟩:=r;exact rule i t s _ _ ⟨.int (g i),H,I.tok _,⟨_,rfl⟩,q⟩
theorem z8i:UnR X (unaryOp .USub) (rU λi=>.int (-i)):=unI λ_ _ _ _ _ q=>neg_int q
end
noncomputable def scal:V->V->Bool
 |.non,.non=>Zd|.non,.int _=>Zd|.int _,.non=>Zd|.non,.bl _=>Zd|.bl _,.non=>Zd|.non,.str _=>Zd|.str _,.non=>Zd
 |.int _,.int _=>Zd|.bl _,.bl _=>Zd|.str _,.str _=>Zd|.byt _,.byt _=>Zd
 |.int _,.str _=>Zd|.str _,.int _=>Zd|.bl _,.str _=>Zd|.str _,.bl _=>Zd
 |_,_=>Zc
noncomputable def rEq:R2:=λx y H Q=>scal x y=Zd/\Q (.bl (decide (x=y))) H
noncomputable def rNe:R2:=λx y H Q=>scal x y=Zd/\Q (.bl (!decide (x=y))) H
theorem ztw:decide (V.int i=V.int j)=(i==j):=by
 rw[Fq];simp
theorem z0k:decide (V.bl i=V.bl j)=(i==j):=by
 rw[Fq];simp
theorem zq8:decide (V.str i=V.str j)=(i==j):=by
 rw[Fq];simp
theorem zsb:decide (V.byt i=V.byt j)=(i.toList==j.toList):=by
 rw[Fq];cases i;cases j;simp
section
variable {X:Cx}{a b c:Zi}{ta tb tc:TE}{pos:Pos}
theorem zae {pins:List (Zh×Obj)}{σ:St}{s:Zf}(I:Inv X pins σ H s)(q:Q (.bl k) H)(e:k=k'):EP X pins σ Q (.bool k') s:=by
 subst e;exact⟨.bl k,H,I,rfl,q⟩
theorem z9u:OpR X (compareOp .Eq) rEq:=by
 intro pins s σ H x y v u Q I c r h;obtain⟨b,q⟩:=h;cases x with
 | non =>
  cases c;cases y with
  |non=>cases r;exact PySem.EqNone.eq_none_none (zae I q (by simp))
  |bl j=>cases r;exact PySem.EqNone.eq_none_bool (zae I q (by simp))
  |int j=>obtain⟨a,rfl⟩:=r;exact PySem.EqNone.eq_none_int (zae I q (by simp))
  |str j=>obtain⟨a,rfl⟩:=r;exact PySem.EqNone.eq_none_str (zae I q (by simp))
  |_=>exact absurd (show Zc=Zd from b) Av
 | bl i =>
  cases c;cases y with
  |non=>cases r;exact PySem.EqNone.eq_bool_none (zae I q (by simp))
  |bl j=>cases r;exact eq_bool (zae I q z0k)
  |str j=>obtain⟨a,rfl⟩:=r;exact PySem.EqMixed.eq_bool_str (zae I q (by simp))
  |_=>exact absurd (show Zc=Zd from b) Av
 | int i =>
  obtain⟨t,rfl⟩:=c;cases y with
  |non=>cases r;exact PySem.EqNone.eq_int_none (zae I q (by simp))
  |int j=>obtain⟨a,rfl⟩:=r;exact eq_int (zae I q ztw)
  |str j=>obtain⟨a,rfl⟩:=r;exact PySem.EqMixed.eq_int_str (zae I q (by simp))
  |_=>exact absurd (show Zc=Zd from b) Av
 | str i =>
  obtain⟨t,rfl⟩:=c;cases y with
  |non=>cases r;exact PySem.EqNone.eq_str_none (zae I q (by simp))
  |bl j=>cases r;exact PySem.EqMixed.eq_str_bool (zae I q (by simp))
  |int j=>obtain⟨a,rfl⟩:=r;exact PySem.EqMixed.eq_str_int (zae I q (by simp))
  |str j=>obtain⟨a,rfl⟩:=r;exact eq_str (zae I q zq8)
  |_=>exact absurd (show Zc=Zd from b) Av
 | byt i =>
  obtain⟨t,rfl⟩:=c;cases y with
  |byt j=>obtain⟨a,rfl⟩:=r;exact PySem.W.eq_bytes (zae I q zsb)
  |_=>exact absurd (show Zc=Zd from b) Av
 |_=>cases y<;>exact absurd (show Zc=Zd from b) Av
theorem yab:OpR X (compareOp .NotEq) rNe:=by
 intro pins s σ H x y v u Q I c r h;obtain⟨b,q⟩:=h;cases x with
 | non =>
  cases c;cases y with
  |non=>cases r;exact PySem.EqNone.ne_none_none (zae I q (by simp))
  |bl j=>cases r;exact PySem.EqNone.ne_none_bool (zae I q (by simp))
  |int j=>obtain⟨a,rfl⟩:=r;exact PySem.EqNone.ne_none_int (zae I q (by simp))
  |str j=>obtain⟨a,rfl⟩:=r;exact PySem.EqNone.ne_none_str (zae I q (by simp))
  |_=>exact absurd (show Zc=Zd from b) Av
 | bl i =>
  cases c;cases y with
  |non=>cases r;exact PySem.EqNone.ne_bool_none (zae I q (by simp))
  |bl j=>cases r;exact ne_bool (zae I q (congrArg not z0k))
  |str j=>obtain⟨a,rfl⟩:=r;exact PySem.EqMixed.ne_bool_str (zae I q (by simp))
  |_=>exact absurd (show Zc=Zd from b) Av
 | int i =>
  obtain⟨t,rfl⟩:=c;cases y with
  |non=>cases r;exact PySem.EqNone.ne_int_none (zae I q (by simp))
  |int j=>obtain⟨a,rfl⟩:=r;exact ne_int (zae I q (congrArg not ztw))
  |str j=>obtain⟨a,rfl⟩:=r;exact PySem.EqMixed.ne_int_str (zae I q (by simp))
  |_=>exact absurd (show Zc=Zd from b) Av
 | str i =>
  obtain⟨t,rfl⟩:=c;cases y with
  |non=>cases r;exact PySem.EqNone.ne_str_none (zae I q (by simp))
  |bl j=>cases r;exact PySem.EqMixed.ne_str_bool (zae I q (by simp))
  |int j=>obtain⟨a,rfl⟩:=r;exact PySem.EqMixed.ne_str_int (zae I q (by simp))
  |str j=>obtain⟨a,rfl⟩:=r;exact ne_str (zae I q (congrArg not zq8))
  |_=>exact absurd (show Zc=Zd from b) Av
 | byt i =>
  obtain⟨t,rfl⟩:=c;cases y with
  |byt j=>obtain⟨a,rfl⟩:=r;exact PySem.W.ne_bytes (zae I q (congrArg not zsb))
  |_=>exact absurd (show Zc=Zd from b) Av
 |_=>cases y<;>exact absurd (show Zc=Zd from b) Av
theorem ybd:OpR X (compareOp .Lt) (rI0 λi j=>.bl (decide (i<j))):=opB0 λ_ _ _ _ _ _ _ q=>lt_int q
theorem z9t:OpR X (compareOp .LtE) (rI0 λi j=>.bl (decide (i<=j))):=opB0 λ_ _ _ _ _ _ _ q=>le_int q
theorem z9x:OpR X (compareOp .Gt) (rI0 λi j=>.bl (decide (j<i))):=opB0 λ_ _ _ _ _ _ _ q=>gt_int q
theorem yaa:OpR X (compareOp .GtE) (rI0 λi j=>.bl (decide (j<=i))):=opB0 λ_ _ _ _ _ _ _ q=>ge_int q
theorem z8j:OpR X (compareOp .Is) (λx y H Q=>y=.non/\Q #v[2,20] H):=by
 intro pins s σ H x y v u Q I r a h;obtain⟨rfl,q⟩:=h;cases a;refine is_none_gen (zae I q ?_);cases x<;>first
  |(cases r;rfl)
  |(obtain⟨t,rfl⟩:=r;rfl)
theorem z4u:OpR X (compareOp .IsNot) (λx y H Q=>y=.non/\Q (.bl (!decide (x=.non))) H):=by
 intro pins s σ H x y v u Q I r a h;obtain⟨rfl,q⟩:=h;cases a;refine isnot_none_gen (zae I q ?_);cases x<;>first
  |(cases r;rfl)
  |(obtain⟨t,rfl⟩:=r;rfl)
theorem OpR.or {r c:R2}(h:OpR X f r)(h':OpR X f c):OpR X f (λx y H Q=>r x y H Q\/c x y H Q):=by
 intro pins s σ H x y v u Q I a b q;rcases q with q|q
 ·exact h pins s σ H x y v u Q I a b q
 ·exact h' pins s σ H x y v u Q I a b q
theorem z46 {op:CmpOp}{r:R2}(c:OpR X (compareOp op) r)(j:PE X a ta)(f:PE X b tb)(e:behindInMarks op b=Zc):PE X (.Compare a [op] [b] pos) (tOp r ta tb):=by
 intro pins s σ H Q I h;exact wpAny_Compare1 (binT j f I h λv u g x y i l d k q=>c pins g σ i x y v u Q l d k q) e
noncomputable def z37 (t:TE):TT:=λσ H Q=>t σ H λx a=>∃k,x=.bl k/\Q k a
theorem z47 {op:CmpOp}{r:R2}(m:OpR X (compareOp op) r)(p:PE X a ta)(D:PE X b tb)(f:behindInMarks op b=Zc):PT X (.Compare a [op] [b] pos) (z37 (tOp r ta tb)):=by
 intro pins s σ H Q I h;refine wpAny_isTrue_Compare1 (thn (p pins s σ H _ I h) λv A ⟨x,d,g,C,t⟩=>thn (D pins A σ d _ g t) λu i ⟨y,j,E,n,B⟩ =>
  thn (m pins i σ j x y v u _ E C n B) λc F ⟨z,l,o,w,k,e,q⟩=>?_) f
 subst e;cases w;exact Cu ⟨l,o,q⟩
noncomputable def zt7 (r d:R2) (ta tb tc:TE):TE:=λσ H Q=>ta σ H λx b=>tb σ b λy c=>r x y c λz a=>∃k,z=.bl k /\
 (if k=Zd then tc σ a λw e=>d y w e Q else Q (.bl Zc) a)
theorem zyp {op o:CmpOp}{r l:R2} (D:OpR X (compareOp op) r) (f:OpR X (compareOp o) l) (F:PE X a ta) (O:PE X b tb) (G:PE X c tc)
  (n:lastMarks [op,o] [b,c]=Zc:=by with_unfolding_all rfl):PE X (.Compare a [op,o] [b,c] pos) (zt7 r l ta tb tc):=by
 intro pins s σ H Q I h;refine Compare_chain (thn (F pins s σ H _ I h) λv L ⟨x,m,p,P,J⟩=>chain_link (thn (O pins L σ m _ p J) λu t ⟨y,w,U,i,N⟩ =>
  thn (D pins t σ w x y v u _ U P i N) λd M ⟨z,g,j,K,k,e,q⟩=>?_)) n
 subst e;cases K;refine Cu ?_;cases k with
 |false=>exact ite_ff ⟨.bl Zc,g,j,rfl,q⟩
 |true=>exact ite_tt (chain_last (thn (G pins M σ g _ j q) λR E ⟨C,B,T,S,A⟩=>f pins E σ B y C u R Q T i S A))
theorem zxw {op o:CmpOp}{r l:R2} (G:OpR X (compareOp op) r) (f:OpR X (compareOp o) l) (M:PE X a ta) (Y:PE X b tb) (P:PE X c tc)
  (p:lastMarks [op,o] [b,c]=Zc:=by with_unfolding_all rfl):PT X (.Compare a [op,o] [b,c] pos) (z37 (zt7 r l ta tb tc)):=by
 intro pins s σ H Q I h;refine isTrue_chain (thn (M pins s σ H _ I h) λv T ⟨x,m,t,W,R⟩=>test_link (thn (Y pins T σ m _ t R) λu w ⟨y,A,I2,i,V⟩ =>
  thn (G pins w σ A x y v u _ I2 W i V) λd U ⟨z,g,j,S,k,e,q⟩=>?_)) p
 subst e;cases S;refine Cu ?_;cases k with
 | false =>
  obtain⟨k',C,n⟩:=q;cases C;exact ite_ff ⟨g,j,n⟩
 | true =>
  refine ite_tt (test_last (thn (P pins U σ g _ j q) λZ J ⟨F,E,I4,r4,D⟩=>thn (f pins J σ E y F u Z _ I4 i r4 D) λd' s5 ⟨z2,B,N,O,k2,L,K⟩=>?_));subst L;cases O;exact Cu ⟨B,N,K⟩
noncomputable def TruV (K:Zg) (x:V) (H:Hp) (k:Bool):Prop :=
 match x with
 |.non=>k=Zc
 |.bl b=>k=b
 |.int i=>k=(i != 0)
 |.str y=>y.length<=sizeLine/\k=((y.length:Int) != 0)
 |.byt y=>y.size<=sizeLine/\k=((y.size:Int) != 0)
 |.ref p=>(∃a,SqL K H p a/\k=!a.isEmpty)\/(∃a,SqT K H p a/\k=!a.isEmpty)\/∃kvs,H p=Za (.dK kvs)/\k=!kvs.isEmpty
 |_=>False
theorem zp8 {κ:Type}{kvs:List (κ×V)}{vs:List (κ×Ze)}(r:KV kvs vs):(!vs.isEmpty)=!kvs.isEmpty:=by
 cases r<;>rfl
theorem zh7 {xs:List V}(r:Vals xs its):(!its.toArray.isEmpty)=!xs.isEmpty:=by
 cases r<;>simp
theorem zkk:(sizeLine:Nat)<2^63:=by rw[Hj];decide
theorem z84:TruR X (fun x H Q=>∃k,TruV X.K x H k/\Q k H):=by
 intro pins s σ H x v Q I f h;obtain⟨k,e,q⟩:=h;have A:=zkk;have z:sizeLine=16777216:=Hj;cases x with
 | non =>
  cases f;have a : k=Zc:=e;subst a;exact truthy_none ⟨H,I,q⟩
 | bl b =>
  cases f;have a : k=b:=e;subst a;exact Cu ⟨H,I,q⟩
 | int i =>
  obtain⟨t,rfl⟩:=f;have a : k=(i != 0):=e;subst a;exact PySem.P.truthy_int ⟨H,I,q⟩
 | str y =>
  obtain⟨t,rfl⟩:=f;obtain⟨u,a⟩ : y.length<=sizeLine/\k=((y.length:Int) != 0):=e;subst a;exact PySem.P.truthy_str (by symm) ⟨H,I.tok _,q⟩
 | byt y =>
  obtain⟨t,rfl⟩:=f;obtain⟨u,a⟩ : y.size<=sizeLine/\k=((y.size:Int) != 0):=e;subst a;exact PySem.W.truthy_bytes (by symm) ⟨H,I.tok _,q⟩
 | ref p =>
  cases f;have a : (∃d,SqL X.K H p d/\k=!d.isEmpty)\/(∃d,SqT X.K H p d/\k=!d.isEmpty)\/∃kvs,H p=Za (.dK kvs)/\k=!kvs.isEmpty:=e;rcases a with⟨d,g,a⟩|⟨d,g,a⟩|⟨kvs,g,a⟩
  ·subst a
   obtain⟨l,r,n,o⟩:=I.list g;have c:=r.length;exact wpAny_truthy_list n.isList (by simp only [Aj];symm) ⟨H,I.tok _,by rw[zh7 r];exact q⟩
  ·subst a
   obtain⟨l,r,n,o⟩:=I.tuple g;have c:=r.length;exact truthy_tuple n (by simp only [Aj];symm) ⟨H,I.tok _,by rw[zh7 r];exact q⟩
  ·subst a
   obtain⟨o,w,j,r,m⟩ : kvs.length<=sizeLine/\(p == sysModules)=Zc/\∃j,KV kvs j/\s.heap.DictOf (zmd X.prog X.w) p j:=I.hok p _ g;have c:kvs.length=j.length:=Paired.length r;exact wpAny_truthy_dict w m (by symm) ⟨H,I.tok _,by rw[zp8 r];exact q⟩
 |_=>exact (show False from e).elim
theorem zxn (d:PE X a ta) (e:∀w,isTrue a X.env w=(do let v <- w;standAt a.pos;holding [v] (truthy v))) :
  PT X a (λσ H Q=>ta σ H λx H'=>∃k,TruV X.K x H' k/\Q k H'):=by
 intro pins s σ H Q I h;exact isTrue_plain (thn (d pins s σ H _ I h) λv f ⟨x,b,c,r,q⟩=>z84 pins f σ b x v Q c r q) (e _)
theorem vals1 {x:V}{a:List Ze}(r:Vals [x] a):∃u,a=[u]/\RelV x u:=by
 cases r with
 |cons c b=>cases b;exact⟨_,rfl,c⟩
theorem z5k {x y:V}{a:List Ze} (r:Vals [x,y] a):∃u w,a=[u,w]/\RelV x u/\RelV y w:=by
 cases r with
 | cons b c =>
  cases c with
  |cons e d=>cases d;exact⟨_,_,rfl,b,e⟩
theorem zyf:zdo X (.builtin "abs") (λxs H Q=>∃i,xs=[.int i]/\Q (.int (if i<0 then -i else i)) H):=by
 intro pins s σ H xs a Q I r h;obtain⟨i,rfl,q⟩:=h;obtain⟨u,rfl,t,rfl⟩:=vals1 r;exact call_abs_int λu b=>⟨.int (if i<0 then -i else i),H,I.tok _,⟨_,rfl⟩,q⟩
theorem zsk (b:X.calm=Zd):zdo X (.builtin "max") (λxs H Q=>∃i j,xs=#v[2,17]/\Q (.int (if j > i then j else i)) H):=by
 intro pins s σ H xs e Q I r h;nofun;obtain⟨i,j,rfl,q⟩:=h;obtain⟨u,w,rfl,⟨t,rfl⟩,⟨c,rfl⟩⟩:=z5k r;ac_rfl;refine max_two_ints (I.ok.hd b) λd f k=>⟨_,H,I.kept k,?_,q⟩;by_cases a:j > i
 ·rw[if_pos a,if_pos a];exact⟨_,rfl⟩
 ·rw[if_neg a,if_neg a];exact⟨_,rfl⟩
theorem ztl (b:X.calm=Zd):zdo X (.builtin "min") (λxs H Q=>∃i j,xs=#v[2,17]/\Q (.int (if j<i then j else i)) H):=by
 intro pins s σ H xs e Q I r h;obtain⟨i,j,rfl,q⟩:=h;obtain⟨u,w,rfl,⟨t,rfl⟩,⟨c,rfl⟩⟩:=z5k r;refine min_two_ints (I.ok.hd b) λd f k=>⟨_,H,I.kept k,?_,q⟩;by_cases a:j<i
 ·rw[if_pos a,if_pos a];exact⟨_,rfl⟩
 ·rw[if_neg a,if_neg a];exact⟨_,rfl⟩
theorem zuw:zdo X (.type "int") (λxs H Q=>(∃i,xs=[.int i]/\Q (.int i) H)\/∃k,xs=[.bl k]/\Q (.int (if k then 1 else 0)) H):=by
 intro pins s σ H xs b Q I r h;rcases h with⟨i,rfl,q⟩|⟨k,rfl,q⟩
 ·obtain⟨u,rfl,t,rfl⟩:=vals1 r;exact call_int_int ⟨.int i,H,I,⟨_,rfl⟩,q⟩
 ·obtain⟨u,rfl,a⟩:=vals1 r;cases a;exact call_int_bool ⟨.int (if k then 1 else 0),H,I.tok _,⟨_,rfl⟩,q⟩
end
structure ObjM (h:Heap) (x dx C:Zh) (mA:Str->Option Ze):Prop where
 obj:h.get? x=Za (PySem.W.instObj C dx)
 ns:h.Ns1 dx mA
 ne:dx≠x
theorem zru {h:Heap}{d:Zh}{mA:Str->Option Ze}(n:h.Ns1 d mA):∃c,h.get? d=Za c/\∀name,PySem.W.lookIn name c=Za (mA name):=by
 nofun;obtain⟨o,f,p,g,k,l,_,j⟩:=n;ac_rfl;refine⟨o,g,λname=>?_⟩;have e:=j name;unfold nsFind findBy at e;rw[<-Array.find?_toList] at e;unfold PySem.W.lookIn;rw[k];dsimp only;split
 ·rename_i y q;rw[q] at e;exact congrArg Za e
 ·rename_i q;rw [q] at e;have a:f.toList.any (·.refKey)=Zc:=by
   rw[List.any_eq_false];intro y i;obtain⟨z,t,b⟩:=l y (Array.mem_toList_iff.mp i);simp [DictEntry.refKey,b]
  have m : ¬ f.toList.any (·.refKey)=Zd:=by rw[a];exact Av
  rw[if_neg m];exact congrArg Za e
theorem ObjM.look {x d C:Zh}(I:ObjM h x d C mA):∃o,PySem.W.InstAt h x (PySem.W.instObj C d) C (Za o)/\∀name,PySem.W.lookIn name o=Za (mA name) :=
 let ⟨o,a,b⟩:=zru I.ns
 ⟨o,⟨I.obj,rfl,rfl,a⟩,b⟩
section
variable {prog:Program}{w:World}{s:Zf}{K:Zg}{x dx C f:Zh}{v:Ze}
end
section
variable {w:World}
theorem z3a (b:HOk P w H h)(e:H a=Za (.ins C dx fs)):∃mA,ObjM h a dx C mA/\(∀f,RelO (fs.lookup f) (mA f))/\PySem.Within mA (fs.map (·.1))/\fs.length<=1000/\H dx=Za (.own a):=by
 nofun;obtain⟨d,z,ne,o,mA,n,r,q⟩:=(show zbh P w H h a (.ins C dx fs) from b a _ e);ac_rfl;exact⟨mA,⟨o,n,ne⟩,r,q,z,d⟩
end
structure Cls (K:Zg) (C:Zh):Prop where
 pg:PySem.W.plainGet K C Str.empty=Zd
 hd:PySem.W.hasDictIn K C=Zd
 po:PySem.W.plainOver K C=Zd
 sa:PySem.W.findIn K (.ref C) "__setattr__" = Za (Za (.builtin "object.__setattr__"))
theorem Cls.get {K:Zg}(c:Cls K C)(f:Str):PySem.W.plainGet K C f=Zd:=c.pg
section
variable {pins:List (Zh × Obj)}{σ:St}{s:Zf}{v:V}
end
section
variable {o e value:Zi}{pos pos' tpos:Pos}{ta tv:TE}
end
section
variable {pins:List (Zh × Obj)}{σ:St}{s:Zf}
inductive TyOf (K:Zg) (H:Hp):V->Ze->Prop where
 |non:TyOf K H .non (.type "NoneType")
 |bl (x:Bool):TyOf K H (.bl x) (.type "bool")
 |int (i:Int):TyOf K H (.int i) (.type "int")
 |str (x:Str):TyOf K H (.str x) (.type "str")
 |flt (x:UInt64):TyOf K H (.flt x) (.type "float")
 |lst {a:Zh}{xs:List V} (e:H a=Za (.lst xs)):TyOf K H (.ref a) (.type "list")
 |frz {a:Zh}{o:Obj}{xs:List V} (e:H a=Za (.frz o (.lst xs))):TyOf K H (.ref a) (.type "list")
 |tup {a:Zh}{xs:List V} (e:H a=Za (.tup xs)):TyOf K H (.ref a) (.type "tuple")
 |dK {a:Zh}{kvs:List (Key×V)} (e:H a=Za (.dK kvs)):TyOf K H (.ref a) (.type "dict")
 |dT {a:Zh}{kvs:List (List Key×V)} (e:H a=Za (.dT kvs)):TyOf K H (.ref a) (.type "dict")
 | ins {a C dx:Zh}{fs:List (Str×V)} (e:H a=Za (.ins C dx fs)) (cl:Cls K C) (ha:PySem.W.findIn K (.ref C) "__class__" = Za (Za (.builtin "object.__class__")))
  (hn:PySem.W.specialIn K (.builtin "object.__class__") "__get__" = Za (Za (.builtin "getset_descriptor.__get__"))) (htk:PySem.W.takesIn K (.builtin "object.__class__")=Za Zd)
  (hm:PySem.W.mroIn K C (.type "object")=Za Zd):TyOf K H (.ref a) (.ref C)
theorem zrw {x:V}{u t:Ze} (I:Inv X pins σ H s) (r:RelV x u) (D:TyOf X.K H x t) (e:PySem.W.kitOne X.K t c=Za b) (h:∀tk,Q (.bool b) { s with toks:=tk }) :
  wpAny #v[1,7] A (call (.builtin "isinstance") [u,c]) Q E s:=by
 cases D with
 |non=>cases (show u=Ze.none from r);exact Co PySem.W.kitx_none I.kIn True.intro e (λz=>nomatch z) h
 |bl y=>cases (show u=Ze.bool y from r);exact Co PySem.W.kitx_bool I.kIn True.intro e (λz=>nomatch z) h
 |int i=>obtain⟨t,q⟩:=(show ∃t,u=Ze.int i t from r);cases q;exact Co PySem.W.kitx_int I.kIn True.intro e (λz=>nomatch z) h
 |str y=>obtain⟨t,q⟩:=(show ∃t,u=Ze.str y t from r);cases q;exact Co PySem.W.kitx_str I.kIn True.intro e (λz=>nomatch z) h
 |flt y=>obtain⟨t,q⟩:=(show ∃t,u=Ze.float y t from r);cases q;exact Co PySem.W.kitx_float I.kIn True.intro e (λz=>nomatch z) h
 | @lst a g d =>
  cases (show u=Ze.ref a from r);obtain⟨_,_,n,_,f⟩:=(show zbh X.prog X.w H s.heap a (.lst g) from I.hok a _ d);exact Co PySem.W.kitx_list I.kIn ⟨_,f,rfl⟩ e (λz=>nomatch z) h
 | @frz a F g d =>
  cases (show u=Ze.ref a from r);obtain⟨_,_,_,n,_,f⟩:=(show zbh X.prog X.w H s.heap a (.frz F (.lst g)) from I.hok a _ d);exact Co PySem.W.kitx_list I.kIn ⟨_,f,rfl⟩ e (λz=>nomatch z) h
 | @tup a g d =>
  cases (show u=Ze.ref a from r);obtain⟨_,_,_,p⟩:=(show zbh X.prog X.w H s.heap a (.tup g) from I.hok a _ d);obtain⟨o,f,j,_⟩:=p;exact Co PySem.W.kitx_tuple I.kIn ⟨o,f,j.1⟩ e (λz=>nomatch z) h
 | @dK a kvs d =>
  cases (show u=Ze.ref a from r);obtain⟨_,_,N,_,p⟩:=(show zbh X.prog X.w H s.heap a (.dK kvs) from I.hok a _ d);obtain⟨o,G,K,f,j,_⟩:=p;exact Co PySem.W.kitx_dict I.kIn ⟨o,f,j.1⟩ e (λz=>nomatch z) h
 | @dT a kvs d =>
  cases (show u=Ze.ref a from r);obtain⟨_,_,g,_,o,G,K,f,j,_⟩:=(show zbh X.prog X.w H s.heap a (.dT kvs) from I.hok a _ d);exact Co PySem.W.kitx_dict I.kIn ⟨o,f,j.1⟩ e (λz=>nomatch z) h
 | @ins a C M fs d l w B k m =>
  cases (show u=Ze.ref a from r);obtain⟨mA,O,_⟩:=z3a I.hok d;obtain⟨L,J,_⟩:=O.look;exact Co (PySem.W.kitx_own (l.get _) l.hd w B k m) I.kIn J e (λz=>nomatch z) h
end
structure Room (k:Nat) (A:Around):Prop where
 hd:A.handled=Zb
 dp:A.depth+3*k+5<recursionLimit
 un:A.units+16*k+200<cLine
 gd:A.guards=Za []
theorem Room.mono (r:Room k A)(h:j<=k):Room j A:=⟨r.hd,by have:=r.dp;symm,by have:=r.un;symm,r.gd⟩
theorem Room.deeper (r:Room (k+1) A)(env:Env):Room k (A.deeper env) :=
 ⟨r.hd,by have:=r.dp;show A.depth+1+3*k+5<_;symm,by have:=r.un;show A.units+3+16*k+200<_;symm,r.gd⟩
theorem Room.depth (r:Room k A):A.depth<recursionLimit:=by have:=r.dp;symm
noncomputable def tNil:TA:=λ_ H Q=>Q [] H
noncomputable def zaw (t:TE) (tr:TA):TA:=λσ H Q=>t σ H λx a=>tr σ a λc b=>Q (x::c) b
section
variable {te:TE}{t:TA}{pos:Pos}
theorem zbb:PA X [] tNil:=λ_ _ _ _ H Q I h=>Calls.spliced_nil ⟨[],H,I,.nil,h⟩
theorem zal (j:PE X e te)(f:PA X es t)(c:starEach (e::es) X.env=(Zc,eval e X.env)::starEach es X.env:=by rfl):PA X (e::es) (zaw te t):=by
 intro pos pins s σ H Q I h;rw[c];show wpAny _ _ (spliced ((Zc,eval e X.env)::backTo pos (starEach es X.env))) _ _ s;refine Calls.spliced_cons (thn (j pins s σ H _ I h) λu m ⟨x,b,g,r,a⟩=>?_);exact thn (f pos pins m σ b _ g a) λo n ⟨k,i,l,d,q⟩=>⟨x::k,i,l,.cons r d,q⟩
noncomputable def tTup (t:TA):TE:=λσ H Q=>t σ H λx a=>x.length<=sizeLine/\∀p,a p=Zb->Q (.ref p) (upd a p (.tup x))
noncomputable def tLst (t:TA):TE:=λσ H Q=>t σ H λx a=>x.length<=sizeLine/\∀p,a p=Zb->Q (.ref p) (upd a p (.lst x))
theorem z02 {g}(h:PA X es t):PE X (.Tuple es g pos) (tTup t):=by
 intro pins s σ H Q I i;refine wpAny_Tuple_spliced (thn (h pos pins s σ H _ I i) λf a ⟨x,c,d,r,z,q⟩=>⟨by rw[<-r.length];exact z,?_⟩);have j:c a.heap.objs.size=Zb:=d.hok.fresh (Ae _);refine⟨.ref a.heap.objs.size,upd c a.heap.objs.size (.tup x),d.laid (t':=a.toks) (λb u e=>Ab _ e) (Ae _) ?_,rfl,q _ j⟩;exact⟨z,f,r,⟨_,Aq _ rfl,⟨rfl,_,rfl⟩,rfl⟩⟩
theorem zpi (h:PA X es t):PE X (.List es pos) (tLst t):=by
 intro pins s σ H Q I g;refine wpAny_List_spliced (thn (h pos pins s σ H _ I g) λf a ⟨x,c,d,r,z,q⟩=>⟨by rw[<-r.length];exact z,?_⟩);have i:c a.heap.objs.size=Zb:=d.hok.fresh (Ae _);refine⟨.ref a.heap.objs.size,upd c a.heap.objs.size (.lst x),d.laid (t':=a.toks) (λb u e=>Ab _ e) (Ae _) ?_,rfl,q _ i⟩;exact⟨z,f,0,r,Aq _ rfl⟩
end
noncomputable abbrev Sp:=List V->Hp->VK->XK->Prop
noncomputable abbrev CXT:=List Env->Hp->Zf->XK->Ze->Zf->Prop
structure Env0 (P:Program) (w:World) (K:Zg) (mg:Str->Option Ze) (base:Heap) (A:Around) (outer:List Env) (s:Zf) (H:Hp):Prop where
 frames:A.frames=Za outer
 mod:Mod K mg base
 bs:∀b o,base.get? b=Za o->s.heap.get? b=Za o/\H b=Zb
 bsz:base.objs.size<=s.heap.objs.size
 funs:s.heap.FunFrames base outer
 frf:∀b∈frs outer,H b=Zb
 hok:HOk P w H s.heap
 bare:AllBare s.gens
noncomputable def CE (outer:List Env) (P:Program) (w:World) (H:Hp) (s:Zf) (Q:VK) (u:Ze) (s':Zf):Prop :=
 ∃v a,s'.os=s.os/\AllBare s'.gens/\Un (frs outer) [] H a s.heap s'.heap/\HOk P w a s'.heap/\RelV v u/\Q v a
noncomputable def CR (CX:CXT) (outer:List Env) (P:Program) (w:World) (H:Hp) (s:Zf) (Q:VK) (E:XK) (r:Result) (s':Zf):Prop :=
 match r with
 |.ok (.ret u)=>CE outer P w H s Q u s'
 |.ok _=>False
 |.error e=>CX outer H s E e s'
structure FnOk (P:Program) (w:World) (K:Zg) (mg:Str->Option Ze) (base:Heap) (CX:CXT) (k:Nat) (f:Zh) (fd:FuncData) (ps:List Str) (sp:Sp):Prop where
 len:∀vs H Q E,sp vs H Q E->vs.length=ps.length
 run:∀(A:Around) (outer:List Env) (s:Zf) (H:Hp) (args:Args) (us:List Ze) (vs:List V) (Q:VK) (E:XK),Room k A->Env0 P w K mg base A outer s H->BindsTo s fd args (ps.zip us)->Vals vs us->sp vs H Q E ->
  codeAny (model P w) A (.call (.ref f) args) (CR CX outer P w H s Q E) s
theorem FnOk.mono {w:World}{K:Zg}{ps:List Str}{sp:Sp} (F:FnOk P w K mg base CX j f fd ps sp) (h:j<=k) :
 FnOk P w K mg base CX k f fd ps sp:=⟨F.len,λA outer s H args u v Q E a=>F.run A outer s H args u v Q E (a.mono h)⟩
section
variable {pins:List (Zh × Obj)}{σ:St}{s s' : Zf}
theorem Inv.env0 (I:Inv X pins σ H s):Env0 X.prog X.w X.K X.mg X.base X.A X.stack s H :=
 ⟨I.ok.frames,I.ok.mod,I.bs,Bz I.ok.bsz I.sz,I.stack,I.stkFree,I.hok,I.bare⟩
theorem Inv.after {u:Ze}(I:Inv X pins σ H s)(h:CE X.stack X.prog X.w H s Q u s'):EP X pins σ Q u s':=by
 nofun;obtain⟨v,e,f,bare,un,a,r,q⟩:=h;obtain⟨c,g,d,t,o⟩:=s';ac_rfl;obtain rfl:o=s.os:=f;exact⟨v,e,I.call (h':=c) (g':=g) (d':=d) (t':=t) (ch:=[]) un a bare (λb z=>absurd z (by simp)),r,q⟩
end
noncomputable def zni (sp:Sp) (dvs:List V) (E:XK) (t:TA):TE:=λσ H Q=>t σ H λv a=>sp (v++dvs) a Q E
noncomputable def zfq (K:Zg) (f:FuncData) (ps:List Str) (ds:List Ze):Prop :=
 ∀(s:Zf) (u:List Ze),K.In s.heap->(u++ds).length=ps.length->BindsTo s f ⟨u,[]⟩ (ps.zip (u++ds))
theorem zfq.all {K:Zg}{ps:List Str}(h:∀u:List Ze,u.length=ps.length->bindArgs fd ⟨u,[]⟩=pure (ps.zip u)):zfq K fd ps []:=λs u _ a=>by
 rw[Bm] at a ⊢;exact .of_eq (h u a)
noncomputable def zoi (CX:CXT) (X:Cx) (E:XK):Prop:=∀(pins:List (Zh×Obj)) (σ:St) (H:Hp) (s:Zf) (e:Ze) (a:Zf),Inv X pins σ H s->CX X.stack H s E e a->X.xe e a
section
variable {ps:List Str}{sp:Sp}{x m:Str}{p pos apos:Pos}{ta:TE}{t:TA}
theorem z8o {pins:List (Zh×Obj)}{σ:St}{s:Zf}{a:List Ze}{vs:List V} (F:FnOk X.prog X.w X.K X.mg X.base CX k f fd ps sp) (g:Room k X.A) (j:zfq X.K fd ps ds) (i:Vals dvs ds) (d:zoi CX X E)
  (I:Inv X pins σ H s) (r:Vals vs a) (h:sp (vs++dvs) H Q E):wpAny #v[1,7] X.A (call (.ref f) a) (EP X pins σ Q) X.xe s:=by
 have c:Vals (vs++dvs) (a++ds):=r.append i;have m:(a++ds).length=ps.length:=by rw[<-c.length];exact F.len _ _ _ _ h
 refine wpAny_call (codeAny_mono (F.run X.A X.stack s H ⟨a,[]⟩ (a++ds) (vs++dvs) Q E g I.env0 (j s a I.kIn m) c h) λr l b=>?_);cases r with
 |error e=>exact d pins σ H s e l I b
 | ok fl =>
  cases fl with
  |ret u=>exact I.after b
  |next=>exact False.elim b
  |brk=>exact False.elim b
  |cont=>exact False.elim b
theorem zry (F:FnOk X.prog X.w X.K X.mg X.base CX k f fd ps sp) (o:Room k X.A) (l:Gl X x) (g:X.mg x=Za (.ref f)) (m:PySem.W.keepIn X.K (.ref f)=Zd) (i:zfq X.K fd ps ds) (j:Vals dvs ds) (d:zoi CX X E)
  (n:PA X (e::es) t) (a:(x==("__debug__" : Str))=Zc:=by decide) (u:starEach (e::es) X.env=(Zc,eval e X.env)::starEach es X.env:=by rfl) (b:(backTo pos (starEach es X.env)).any (·.1)=Zc:=by rfl) :
  PE X (.Call (.Name x p) (e::es) [] pos) (zni sp dvs E t):=by
 intro pins s σ H Q I h;refine Gf (zjc I l g ?_ a);refine PySem.W.callWith_K (h₀:=X.base) I.ok.mod.kin m (thn (n pos pins s σ H _ I h) λy z ⟨w,v,c,r,q⟩=>⟨c.kIn,?_⟩) u b;exact z8o F o i j d c r q
end
section
variable {ps ks:List Str}{sp:Sp}{x m:Str}{p pos apos kpos:Pos}{te ta:TE}{t tk:TA}
end
structure FnScope (N P:List Str) (sc:Scope):Prop where
 kind:sc.kind=.function
 co:sc.isCoroutine=Zc
 gen:sc.isGenerator=Zc
 nd:N.Nodup
 pre:N.take P.length=P
 par:∀x∈P,sc.names.lookup x=Za .local\/sc.names.lookup x=Za .cell
 nofree:∀y∈sc.names,y.2≠.free
theorem zk5 {kindOf:Str->Option NameKind}{x:Str}:∀{binds:List (Str×Ze)}{m:Str->Option Ze},(∀v,(x,v) ∉ binds)->bindL kindOf binds m x=m x
 |[],_,_=>rfl
 | (n,v)::r,m,h=>by
  unfold bindL;rw[zk5 λw a=>h w (Ai _ a)];split
  ·have:x≠n:=by rintro rfl;exact h v Au
   simp [this]
  ·rfl
theorem zkg {kindOf:Str->Option NameKind}{x:Str}:∀{binds:List (Str×Ze)}{m:Str->Option Ze},(∀v,(x,v) ∉ binds)->bindC kindOf binds m x=m x
 |[],_,_=>rfl
 | (n,v)::r,m,h=>by
  unfold bindC;rw[zkg λw a=>h w (Ai _ a)];split
  ·rfl
  ·have:x≠n:=by rintro rfl;exact h v Au
   simp [this]
theorem zkz {kindOf:Str->Option NameKind}{x:Str}{v:Ze}:∀{P:List Str}{vs:List Ze}{i:Nat}{m:Str->Option Ze},P.Nodup->P[i]?=Za x->vs[i]?=Za v->kindOf x=Za .local ->
  bindL kindOf (P.zip vs) m x=Za v
 |[],_,_,_,_,h,_,_=>by simp at h
 |_::_,[],_,_,_,_,h,_=>by simp at h
 | p::P,w::vs,0,m,n,a,b,c=>by
  simp at a b;subst a;subst b;show bindL kindOf ((p,w)::P.zip vs) m p=_;unfold bindL;rw[zk5 λv d=>(Cp.mp n).1 (Es d).1,if_pos c];simp
 | p::P,w::vs,i+1,m,n,a,b,c=>by
  show bindL kindOf ((p,w)::P.zip vs) m x=_;unfold bindL;exact zkz (i:=i) (Cp.mp n).2 (by simpa using a) (by simpa using b) c
theorem zkw {kindOf:Str->Option NameKind}{x:Str}{v:Ze}:∀{P:List Str}{vs:List Ze}{i:Nat}{m:Str->Option Ze},P.Nodup->P[i]?=Za x->vs[i]?=Za v->kindOf x≠Za .local ->
  bindC kindOf (P.zip vs) m x=Za v
 |[],_,_,_,_,h,_,_=>by simp at h
 |_::_,[],_,_,_,_,h,_=>by simp at h
 | p::P,w::vs,0,m,n,a,b,c=>by
  simp at a b;subst a;subst b;show bindC kindOf ((p,w)::P.zip vs) m p=_;unfold bindC;rw[zkg λv d=>(Cp.mp n).1 (Es d).1,if_neg c];simp
 | p::P,w::vs,i+1,m,n,a,b,c=>by
  show bindC kindOf ((p,w)::P.zip vs) m x=_;unfold bindC;exact zkw (i:=i) (Cp.mp n).2 (by simpa using a) (by simpa using b) c
noncomputable def start (N:List Str) (vs:List V):St:=vs.map Za++List.replicate (N.length-vs.length) Zb
noncomputable def cxOf (CX:CXT) (P:Program) (w:World) (K:Zg) (mg:Str->Option Ze) (base:Heap) (N:List Str) (qual:Str) (scope:Scope) (f:Zh) (c:Ze) (A:Around) (outer:List Env) (s:Zf) (H:Hp) (E:XK):Cx where
 prog:=P
 w:=w
 K:=K
 mg:=mg
 base:=base
 A:=A.deeper (envOfC qual scope s.heap.objs.size f c)
 N:=N
 s₀:=s
 H₀:=H
 env:=envOfC qual scope s.heap.objs.size f c
 outer:=outer
 stack:=envOfC qual scope s.heap.objs.size f c::outer
 ex:=[]
 calm:=Zd
 fn:=λ_=>Zd
 pn:=[]
 xe:=λe b=>wpAny (model P w) (A.deeper (envOfC qual scope s.heap.objs.size f c)) (leaving (envOfC qual scope s.heap.objs.size f c) e) (λ_ a=>CX outer H s E e a) (λd a=>CX outer H s E d a) b
theorem cell_has {s:Scope}{x:Str}(h:s.names.lookup x=Za .cell):∃c,(cellsFrom n s.names []).lookup x=Za c:=by
 have q:=Fy s.names n [] (.inl h);exact Fo.mp q
theorem zjr {w:World}{K:Zg}{N ps:List Str}{qual:Str}{scope:Scope}{outer:List Env}{s F:Zf}{B:List Ze}{vs:List V}
  (S:FnScope N ps scope) (G:A.handled=Zb) (e0:Env0 P w K mg base A outer s H) (Q:vs.length=ps.length) (r:Vals vs B)
  (x:InCallC s s.heap.objs.size (bindL (envOfC qual scope s.heap.objs.size f cd).kindOf (ps.zip B) λ_=>Zb) (cellsFrom #v[5,10] scope.names []) (bindC (envOfC qual scope s.heap.objs.size f cd).kindOf (ps.zip B) λ_=>Zb) F) :
  Inv (cxOf CX P w K mg base N qual scope f cd A outer s H E) [] (start N vs) H F:=by
 have L:ps.length<=N.length:=by have:=congrArg List.length S.pre;rw[Ds] at this;symm
 obtain⟨o,M,rfl,D⟩:=x.done;have j:∀b:Zh,b ∉ (cxOf CX P w K mg base N qual scope f cd A outer s H E).ex:=λb z=>absurd (show b∈([]:List Zh) from z) (by simp);refine⟨⟨e0.mod,S.kind,rfl,rfl,Ae _,λy z c o d=>?_,λy g=>?_,λy c _ h=>?_,λ_=>G,Around.frames_deeper e0.frames,.inr ⟨rfl,rfl⟩,λb z=>absurd z (j b),e0.bs,e0.bsz,λb _ _=>j b,λb z=>absurd z (j b),e0.funs,e0.frf⟩,
  rfl,e0.bare,Un.kept D,⟨_,x.toInCall.ns,λi y v o d O=>?_⟩,λy c h=>⟨_,x.cell y c h⟩,e0.hok.fresh (Ae _),λy c h=>?_,λp l=>absurd (show p∈([]:List (Zh×Obj)) from l) (by simp),e0.hok.kept D,?_⟩
 ·exact name_of_addr x.apart (Br o) (Br d)
 ·have g:scope.names.lookup y=Za .cell \/ scope.names.lookup y=Za .free:=g;rcases g with g|g
  ·exact cell_has g
  ·exact absurd rfl (S.nofree _ (Br g))
 ·exact Nat.le_of_lt (x.above y c (Br h))
 ·have t:i<vs.length:=by
   unfold start at d;by_cases t:i<vs.length
   ·exact t
   ·rw[Ez (by simpa using t)] at d;rw[List.getElem?_replicate] at d;split at d<;>cases d
  have I:vs[i]?=Za v:=by
   unfold start at d;rw[Dg (by simpa using t),Am] at d;cases e:vs[i]? with
   |none=>rw[e] at d;cases d
   |some a=>rw[e] at d;cases d;rfl
  obtain⟨u,C,J⟩:=r.get I;have l:ps[i]?=Za y:=by
   rw[<-S.pre,List.getElem?_take_of_lt (by symm)];exact o
  have m:ps.Nodup:=by rw[<-S.pre];exact S.nd.sublist (Ew _ _)
  refine⟨u,J,?_⟩;rcases S.par y (Bp l) with k|k
  ·exact .inl ⟨k,zkz m l C k⟩
  ·obtain⟨c,e⟩:=cell_has (n:=s.heap.objs.size+1) k;refine .inr ⟨.inl k,c,e,?_⟩;have q:=x.cell y c e;rw[zkw m l C (by show scope.names.lookup y≠_;rw[k];decide)] at q;exact q
 ·exact e0.hok.fresh (Nat.le_of_lt (x.above y c (Br h)))
 ·unfold start;show _=N.length;rw[Bf,Ad,Gh];symm
theorem z5w {w:World}{K:Zg}{name qual:Str}{params:Arguments}{scope:Scope}{G kV doc pm cdv D T:Ze}{B O:Option Zh}
  {osl:Array (Option Ze)}{N ps:List Str}{sp:Sp} (U:K.lookup f=Za ⟨T,O,.func (PySem.W.fnOf name qual params body scope G kV doc pm B cdv D),osl⟩) (l:PySem.W.codeIn K cdv qual=Zd) (S:FnScope N ps scope)
  (len:∀vs H Q E,sp vs H Q E->vs.length=ps.length)
  (c:∀(A:Around) (outer:List Env) (s:Zf) (H:Hp) (vs:List V) (Q:VK) (E:XK),(Room k (A.deeper (envOfC qual scope s.heap.objs.size f cdv))/\Room (k+1) A)->sp vs H Q E ->
   ∃t,PSs (cxOf CX P w K mg base N qual scope f cdv A outer s H E) body t/\t { nx:=λ_ H'=>Q .non H',rt:=Q } (start N vs) H) :
  FnOk P w K mg base CX (k+1) f (PySem.W.fnOf name qual params body scope G kV doc pm B cdv D) ps sp:=by
 refine ⟨len,λA outer s H args Z vs Q E j i Y r g=>?_⟩;have X:=len _ _ _ _ g;have C:K.In s.heap:=i.mod.kin.keeps λb o e=>(i.bs b o e).1;have p:s.heap.NoLimit:=i.mod.nolimit.keeps λb o e=>(i.bs b o e).1;have h:∀y∈ps.zip Z,scope.names.lookup y.1=Za .local\/(scope.names.lookup y.1=some .cell/\((cellsFrom #v[5,10] scope.names []).lookup y.1).isSome=true):=λ⟨n,v⟩ M=>by
  rcases S.par n (Es M).1 with q|q
  ·exact .inl q
  ·exact .inr ⟨q,Fy _ _ _ (.inl q)⟩
 refine codeAny_call_function j.depth (C _ _ U) rfl S.co S.gen rfl (PySem.W.codeRec_of C l) (Y _ _ _ _ ?_);refine wpAny_newFunctionEnv_cells S.kind h λenv W F x=>?_;subst W;refine ⟨p.keeps x.toInCall.keep,codeAny_func ?_⟩;obtain ⟨t,R,L⟩:=c A outer s H vs Q E ⟨j.deeper _,j⟩ g;have I:Inv (cxOf CX P w K mg base N qual scope f cdv A outer s H E) [] (start N vs) H F:=zjr S j.hd i X r x;refine Cs (R [] F (start N vs) H _ I L) (λfl z d=>?_) λe z d=>d;have fin:∀{a:St}{H':Hp}{v:V}{u:Ze},Inv (cxOf CX P w K mg base N qual scope f cdv A outer s H E) [] a H' z->RelV v u->Q v H'->CE outer P w H s Q u z :=
  λ{a H' v u} J m q=>⟨v,H',J.os,J.bare,J.base,J.hok,m,q⟩
 cases fl with
 | ret u =>
  obtain⟨v,a,H',J,m,q⟩:=d;exact fin J m q
 | next =>
  obtain⟨a,H',J,q⟩:=d;exact fin (v:=V.non) (u:=Ze.none) J rfl q
 | brk =>
  obtain⟨_,_,_,q⟩:=d;exact False.elim q
 | cont =>
  obtain⟨_,_,_,q⟩:=d;exact False.elim q
section
variable {x:Str}{p pos:Pos}{t:TA}{id T:String}{r:List V->Hp->VK->Prop}
noncomputable def tCB (r:List V->Hp->VK->Prop) (t:TA):TE:=λσ H Q=>t σ H λv a=>r v a Q
theorem zbm (c:zdo X (.builtin id) r) (k:Gl X x) (f:X.mg x=Zb) (g:bootBuiltins x=Za (.builtin id)) (l:PA X (e::es) t) (o:x≠"__name__" := by decide) (a:(x==("__debug__" : Str))=Zc:=by decide)
  (m:starEach (e::es) X.env=(Zc,eval e X.env)::starEach es X.env:=by rfl) (b:(backTo pos (starEach es X.env)).any (·.1)=Zc:=by rfl):PE X (.Call (.Name x p) (e::es) [] pos) (tCB r t):=by
 intro pins s σ H Q I h;refine Gf (zdq I k f g ?_ o a);exact PyProof.Rows.callWith_builtin1 (thn (l pos pins s σ H _ I h) λu n ⟨v,d,j,i,q⟩=>c pins n σ d v u Q j i q) m b
theorem zg9 (c:zdo X (.type T) r) (k:Gl X x) (f:X.mg x=Zb) (g:bootBuiltins x=Za (.type T)) (l:PA X (e::es) t) (o:x≠"__name__" := by decide) (a:(x==("__debug__" : Str))=Zc:=by decide)
  (m:starEach (e::es) X.env=(Zc,eval e X.env)::starEach es X.env:=by rfl) (b:(backTo pos (starEach es X.env)).any (·.1)=Zc:=by rfl):PE X (.Call (.Name x p) (e::es) [] pos) (tCB r t):=by
 intro pins s σ H Q I h;refine Gf (zdq I k f g ?_ o a);exact Ck (thn (l pos pins s σ H _ I h) λu n ⟨v,d,j,i,q⟩=>c pins n σ d v u Q j i q) m b
end
end L2
namespace HT
open PySem PyProof.Rows
section
open PySem.SeqAt
open PySem.AutoSeq1 (wpAny_loadPart')
open PySem.MeetsSeq PySem.MeetsSeq2 PySem.MeetsSeq3
end
section
variable {prog:Program}{w:World}{s:Zf}
theorem cat_tup {t b:Zh}{vs ws:List Ze} (x:IsTup s.heap t vs.toArray) (z:IsTup s.heap b ws.toArray) (m:vs≠[])
  (v:ws=[]->Q (.ref t) s) (y:ws≠[]->Q (.ref s.heap.objs.size) { s with heap:=s.heap.push { cls:=.type "tuple",data:=.seq (vs++ws).toArray } })
  (k:vs.length+ws.length<=sizeLine):wpAny (model prog w) A (binaryOp .Add (.ref t) (.ref b)) Q E s:=by
 obtain⟨⟨cls,q,data,r⟩,i,p,n,l⟩:=id x;obtain⟨⟨u,f,j,a⟩,h,c,o,d⟩:=id z;simp only at p l c d;subst p l c d;have e:vs.toArray++ws.toArray=(vs++ws).toArray:=by simp
 by_cases g:ws=[]
 ·exact concat_meets ⟨_,i,rfl⟩ ⟨_,h,rfl⟩ noFill_tuple_add seq_tuple_add PySem.F.slot_tuple_add PySem.F.entry_tuple_add (He _ _)
   (tuple_addW1 t b vs.toArray ws.toArray n o q f r a (by simpa using m) (by simp [g])) ⟨i,h,v g⟩
 ·refine concat_meets ⟨_,i,rfl⟩ ⟨_,h,rfl⟩ noFill_tuple_add seq_tuple_add PySem.F.slot_tuple_add PySem.F.entry_tuple_add (He _ _)
   (tuple_addW2 t b vs.toArray ws.toArray n o q f r a (by simpa using m) (by simpa using g) (by rw[Aj,Aj];exact k)) ⟨i,h,?_⟩
  rw[e];exact y g
noncomputable def sIx (n d:Nat):Option Int->Nat
 |none=>d
 |some v=>if v<0 then (v+(n:Int)).toNat else min v.toNat n
theorem sIx_nat (n d k:Nat):sIx n d (Za (k:Int))=min k n:=by
 show (if (k:Int)<0 then ((k:Int)+(n:Int)).toNat else min (k:Int).toNat n)=min k n;rw[if_neg (by symm),Dl]
theorem z7e (n d:Nat) (a:d<=n) (o:Option Int):sIx n d o<=n:=by
 cases o with
 |none=>exact a
 | some v =>
  show (if v<0 then (v+(n:Int)).toNat else min v.toNat n)<=n;by_cases h:v<0
  ·rw[if_pos h];symm
  ·rw[if_neg h];exact Nat.min_le_right _ _
theorem zqz (v:Int)(n d:Nat):(if v<0 then max (v+(n:Int)) 0 else min v (n:Int))=((sIx n d (Za v):Nat):Int):=by
 show (if v<0 then max (v+(n:Int)) 0 else min v (n:Int))=(((if v<0 then (v+(n:Int)).toNat else min v.toNat n):Nat):Int);by_cases h:v<0
 ·simp only [if_pos h];symm
 ·simp only [if_neg h];symm
theorem zp3 (lo h:Option Int)(n:Nat):Builtin.Slice.sliceAdjust lo h 1 (n:Int)=(((sIx n 0 lo:Nat):Int),((sIx n n h:Nat):Int)):=by
 have a:¬ ((1:Int)<0):=by symm
 unfold Builtin.Slice.sliceAdjust;simp only [a,Fx];refine Prod.ext ?_ ?_
 ·cases lo with
  |none=>rfl
  |some v=>exact zqz v n 0
 ·cases h with
  |none=>rfl
  |some v=>exact zqz v n n
theorem zpu (i j:Nat):Builtin.Slice.slicePlaces (i:Int) (j:Int) 1=j-i:=by
 unfold Builtin.Slice.slicePlaces;have h:(1:Int) > 0:=by symm
 simp only [h,Fe,Int.ediv_one];split<;>symm
theorem zhn {v:Ze}(p:IsPart v o)(h:Q o s):wpAny (model prog w) A (Builtin.Slice.slicePartIndex v) Q E s:=by
 cases p with
 |none=>exact slicePart_none h
 |int i t=>exact slicePart_int h
theorem zcx {f:Zh}{d e:Ze}{lo b:Option Int}{n:Nat}{Q:Int×Int×Nat->Zf->Prop} (g:s.heap.IsSliceOf f d e .none) (j:IsPart d lo) (p:IsPart e b)
  (h:Q (((sIx n 0 lo:Nat):Int),1,sIx n n b-sIx n 0 lo) s):wpAny (model prog w) A (Builtin.Slice.sliceApplied (.ref f) (pure (n:Int))) Q E s:=by
 obtain⟨o,a,i,c⟩:=id g;unfold Builtin.Slice.sliceApplied Builtin.Slice.sliceFields;refine Aa (Aa (Cv a c (x:=d) rfl (Aa (Cv a c (x:=e) rfl (Aa (Cv a c (x:=.none) rfl (Ar ?_)))))));refine Aa (slicePart_none ?_);show wpAny _ _ (if ((1:Int)==0)=Zd then _ else _) _ _ s;rw[if_neg (by decide)];refine Aa (zhn j (Aa (zhn p (Aa (Ar ?_)))));show wpAny _ _ (match Builtin.Slice.sliceAdjust lo b 1 (n:Int) with|(lo,b)=>pure (lo,(1:Int),Builtin.Slice.slicePlaces lo b 1)) _ _ s;rw[zp3 lo b n];show wpAny _ _ (pure (((sIx n 0 lo:Nat):Int),(1:Int),Builtin.Slice.slicePlaces ((sIx n 0 lo:Nat):Int) ((sIx n n b:Nat):Int) 1)) _ _ s;rw[zpu];exact Ar h
theorem zyc (xs:Array Ze)(i k:Nat):((List.range k).filterMap λ(m:Nat)=>xs[((i:Int)+(m:Int)*1).toNat]?).toArray=((xs.toList.drop i).take k).toArray:=by
 have e:(λ(m:Nat)=>xs[((i:Int)+(m:Int)*1).toNat]?)=λm=>xs[i+m]?:=by
  funext m
  have:((i:Int)+(m:Int)*1).toNat=i+m:=by symm
  rw[this]
 rw[e];have:=pick_run xs i k;rw[List.filterMap_map] at this;have a:((λx=>xs[x]?) ∘ λx=>i+x)=λm=>xs[i+m]?:=rfl;rw[a] at this;rw[this]
theorem getItem_tuple_cut {t g:Zh}{k l:Ze}{lo b:Option Int} (c:IsTup s.heap t items) (j:s.heap.IsSliceOf g k l .none) (p:IsPart k lo) (u:IsPart l b)
  (n:¬ (sIx items.size 0 lo=0/\sIx items.size items.size b=items.size))
  (h:Q (.ref s.heap.objs.size) { s with heap:=s.heap.push { cls:=.type "tuple",data:=.seq ((items.toList.drop (sIx items.size 0 lo)).take (sIx items.size items.size b-sIx items.size 0 lo)).toArray } })
  (x:items.size<=sizeLine):wpAny (model prog w) A (getItem (.ref t) (.ref g)) Q E s:=by
 have a:sizeOk (.seq ((items.toList.drop (sIx items.size 0 lo)).take (sIx items.size items.size b-sIx items.size 0 lo)).toArray):=by
  show ((items.toList.drop (sIx items.size 0 lo)).take (sIx items.size items.size b-sIx items.size 0 lo)).toArray.size<=sizeLine;rw[Aj,Ds,Gi,Bx];symm
 have z:sIx items.size items.size b<=items.size:=z7e _ _ (Ae _) b;obtain⟨o,f,d,r⟩:=id j;have i:s.TypeIs (.ref g) "slice" := ⟨o,f,d⟩;unfold getItem
 try with_reducible refine Fc ?_
 first|refine Aa (Ar ?_)|skip
 refine Aa (wpAny_sequenceKey c.typeIs (by decide) ?_);refine Aa (De (name:=Str.ofString "__getitem__") c.typeIs Eb
  (Er Eb c.typeIs entry_tuple_getitem ?_ (args_tuple_getitem _ _)))
 show wpAny _ _ (Builtin.Tuple.tupleItemsOf (.ref t)>>=_) _ _ s;refine Aa (tupleItemsOf_ c ?_);refine Aa (wpAny_typeOf i ?_);rw[if_pos (by decide)];refine Aa (zcx j p u ?_);have e:¬ ((((sIx items.size 0 lo:Nat):Int)==0&&(1:Int)==1&&(sIx items.size items.size b-sIx items.size 0 lo)==items.size)=Zd):=by
  intro q;rw[Af,Af] at q;have y:((sIx items.size 0 lo:Nat):Int)=0:=Bl q.1.1;have B:sIx items.size items.size b-sIx items.size 0 lo=items.size:=Bl q.2;exact n ⟨by symm,by symm⟩
 show wpAny _ _ (if (((sIx items.size 0 lo:Nat):Int)==0&&(1:Int)==1&&(sIx items.size items.size b-sIx items.size 0 lo)==items.size)=Zd then _ else _) _ _ s;rw[if_neg e,zyc]
 first
  |exact Aa (m:=Builtin.Tuple.tupleExact _) (Ed (Ar ⟨_,rfl,Ar h⟩) a)
  |exact Aa (m:=Builtin.Tuple.tupleExact _) (Ed (Aa (Ar (Ar ⟨_,rfl,Ar h⟩))) a)
  |exact Aa (Aa (m:=Builtin.Tuple.tupleExact _) (Ed (Ar (Ar ⟨_,rfl,Ar h⟩)) a))
  |exact Aa (Aa (m:=Builtin.Tuple.tupleExact _) (Ed (Ar ⟨_,rfl,Ar h⟩) a))
end
end HT
namespace L2
open PySem PySem.Spec PyProof.Rows
noncomputable abbrev TO:=St->Hp->(Option Int->Hp->Prop)->Prop
noncomputable def PO (X:Cx) (e:Option Zi) (t:TO):Prop :=
 ∀(pins:List (Zh×Obj)) (s:Zf) (σ:St) (H:Hp) (Q:Option Int->Hp->Prop),Inv X pins σ H s->t σ H Q ->
  wpAny #v[1,7] X.A (evalPart e X.env) (λu b=>∃o a,Inv X pins σ a b/\IsPart u o/\Q o a) X.xe s
noncomputable def ztf:TO:=λ_ H Q=>Q Zb H
noncomputable def z7d (t:TE):TO:=λσ H Q=>t σ H λx a=>∃i,x=.int i/\Q (Za i) a
theorem zh3:∀{u:List Ze},Vals (ns.map V.int) u->IntsAre u ns:=by
 induction ns with
 |nil=>intro u r;rw[List.map_nil] at r;cases r;exact .nil
 | cons n ns i =>
  intro u r;rw[Aw] at r;cases r with
  | cons b a =>
   obtain⟨t,e⟩:=b;subst e;exact .cons n t (i a)
section
variable {te:TE}{lo hi:Option Zi}{tl th:TO}{pos p2:Pos}
theorem z3d:PO X Zb ztf:=by
 intro pins s σ H Q I h;rw[evalPart_none];exact Ar ⟨Zb,H,I,.none,h⟩
theorem z2v (h:PE X e te):PO X (Za e) (z7d te):=by
 intro pins s σ H Q I d;rw[evalPart_some];refine thn (h pins s σ H _ I d) λu f ⟨x,b,c,r,a⟩=>?_;obtain⟨i,rfl,q⟩:=a;obtain⟨t,rfl⟩:=r;exact⟨Za i,b,c,.int i t,q⟩
noncomputable def SlR (X:Cx) (r:V->Option Int->Option Int->Hp->VK->Prop):Prop :=
 ∀(pins:List (Zh×Obj)) (s:Zf) (σ:St) (H:Hp) (x:V) (v a b:Ze) (lo hi:Option Int) (c:Zh) (Q:VK),Inv X pins σ H s->RelV x v->s.heap.IsSliceOf c a b .none->IsPart a lo->IsPart b hi->r x lo hi H Q ->
  ∃T id,typeLookup (.type T) "__getitem__" = pure (Za (.builtin id))/\s.TypeIs v T/\wpAny #v[1,7] X.A (getItem v (.ref c)) (EP X pins σ Q) X.xe s
theorem SlR.or {r g:V->Option Int->Option Int->Hp->VK->Prop}(h:SlR X r)(h':SlR X g):SlR X (λx lo hi H Q=>r x lo hi H Q\/g x lo hi H Q):=by
 intro pins s σ H x v c d lo hi e Q I a b f p q;rcases q with q|q
 ·exact h pins s σ H x v c d lo hi e Q I a b f p q
 ·exact h' pins s σ H x v c d lo hi e Q I a b f p q
noncomputable def tSl (r:V->Option Int->Option Int->Hp->VK->Prop) (te:TE) (tl th:TO):TE:=λσ H Q=>te σ H λx a=>tl σ a λl b=>th σ b λu c=>r x l u c Q
theorem zwc {r:V->Option Int->Option Int->Hp->VK->Prop}(F:SlR X r)(y:PE X e te)(A:PO X lo tl)(i:PO X hi th):PE X (.Subscript e (.Slice lo hi Zb p2) pos) (tSl r te tl th):=by
 intro pins s σ H Q I h;refine Subscript_ (thn (y pins s σ H _ I h) λv C ⟨x,g,j,G,w⟩=>?_);refine wpAny_Slice (thn (A pins C σ g _ j w) λc k ⟨l,m,K,z,D⟩=>thn (i pins k σ m _ K D) λd a ⟨u,f,p,E,o⟩=>?_);rw[evalPart_none];refine Ar ?_;have J:Inv X pins σ f { a with heap:=a.heap.push { cls:=.type "slice",data:=.fields #[c,d,.none] } }:=p.kept (t':=a.toks) λb L q=>Ab _ q;obtain⟨T,id,B,t,n⟩:=F pins { a with heap:=a.heap.push { cls:=.type "slice",data:=.fields #[c,d,.none] } } σ f x v c d l u a.heap.objs.size Q J G (Heap.IsSliceOf.new ..) z E o;show wpAny #v[1,7] X.A (subscriptTail e (.Slice lo hi Zb p2) v (.ref a.heap.objs.size)) (EP X pins σ Q) X.xe { a with heap:=a.heap.push { cls:=.type "slice",data:=.fields #[c,d,.none] } };exact tail_any (ops:=[.ref a.heap.objs.size,v]) t B n (by with_unfolding_all rfl)
noncomputable def cutV (xs:List V) (lo hi:Option Int):List V:=(xs.drop (HT.sIx xs.length 0 lo)).take (HT.sIx xs.length xs.length hi-HT.sIx xs.length 0 lo)
theorem zf6 (xs:List V)(lo hi:Option Int):(cutV xs lo hi).length<=xs.length:=by
 unfold cutV;rw[Ds,Gi];symm
noncomputable def rSlT (K:Zg):V->Option Int->Option Int->Hp->VK->Prop:=λx lo hi H Q=>∃a b,x=.ref a/\SqT K H a b /\
 ¬ (HT.sIx b.length 0 lo=0/\HT.sIx b.length b.length hi=b.length)/\∀p,H p=Zb->Q (.ref p) (upd H p (.tup (cutV b lo hi)))
theorem z6x:SlR X (rSlT X.K):=by
 intro pins s σ H x v n t lo hi w Q I k j p m h;obtain⟨a,d,rfl,l,g,q⟩:=h;cases k;obtain⟨i,r,e,f⟩:=I.tuple l;have c:i.toArray.size=d.length:=by rw[Aj];exact r.length.symm
 refine⟨"tuple",_,PyProof.Rows.slot_tuple_getitem.lookup,e.typeIs,?_⟩;refine HT.getItem_tuple_cut e j p m (by rw[c];exact g) ?_ (by rw[c];exact f);rw[c];refine⟨.ref s.heap.objs.size,_,I.laid (t':=s.toks) (o:=.tup (cutV d lo hi)) (λb u q=>Ab _ q) (Ae _) ?_,rfl,q _ (I.hok.fresh (Ae _))⟩;exact⟨Bz (zf6 d lo hi) f,_,(r.drop (HT.sIx d.length 0 lo)).take (HT.sIx d.length d.length hi-HT.sIx d.length 0 lo),zj7.new _ _⟩
noncomputable def z7m (K:Zg):R2:=λx y H Q=>∃a b d c,x=.ref a/\y=.ref b/\SqT K H a d/\SqT K H b c/\d≠[]/\d.length+c.length<=sizeLine /\
 (c=[]->Q (.ref a) H)/\(c≠[]->∀p,H p=Zb->Q (.ref p) (upd H p (.tup (d++c))))
theorem Vals.nil_iff {xs:List V}{u:List Ze}(r:Vals xs u):u=[]↔xs=[]:=by
 cases r with
 |nil=>simp
 |cons _ _=>simp
theorem z3u:OpR X (binaryOp .Add) (z7m X.K):=by
 intro pins s σ H x y v u Q I g A h;obtain⟨a,b,l,k,rfl,rfl,f,t,m,d,j,n⟩:=h;cases g;cases A;obtain⟨e,c,p,_⟩:=I.tuple f;obtain⟨i,r,p2,_⟩:=I.tuple t;refine HT.cat_tup p p2 (λz=>m (c.nil_iff.mp z)) (λz=>⟨.ref a,H,I,rfl,j (r.nil_iff.mp z)⟩) (λz=>?_) (by rw[<-c.length,<-r.length];exact d);refine⟨.ref s.heap.objs.size,_,I.laid (t':=s.toks) (o:=.tup (l++k)) (λb B q=>Ab _ q) (Ae _) ?_,rfl,n (λw=>z (r.nil_iff.mpr w)) _ (I.hok.fresh (Ae _))⟩;exact⟨by rw[Bf];exact d,_,c.append r,zj7.new _ _⟩
end
noncomputable def ixN (n:Nat) (i:Int):Option Nat:=if 0<=i then (if i<n then Za i.toNat else Zb) else if -(n:Int)<=i then Za (i+n).toNat else Zb
noncomputable def atI {α:Type} (xs:List α) (i:Int):Option α:=(ixN xs.length i).bind λj=>xs[j]?
theorem znk (h:ixN n i=Za j):seqIndex? i n=Za j/\j<n/\-(n:Int)<=i/\i<n:=by
 unfold ixN at h;by_cases b:0<=i
 ·rw[if_pos b] at h;by_cases a:i<n
  ·rw[if_pos a] at h;have e:i.toNat=j:=sI h;exact⟨by rw[seqIndex_of b a,e],by symm,by symm,a⟩
  ·rw[if_neg a] at h;cases h
 ·rw[if_neg b] at h;by_cases a:-(n:Int)<=i
  ·rw[if_pos a] at h;have e:(i+n).toNat=j:=sI h;exact⟨by rw[seqIndex_neg (by symm) a,e],by symm,a,by symm⟩
  ·rw[if_neg a] at h;cases h
theorem ztu {α:Type}{xs:List α}{v:α} (h:atI xs i=Za v):∃j,seqIndex? i xs.length=Za j/\xs[j]?=Za v/\j<xs.length/\-(xs.length:Int)<=i/\i<xs.length:=by
 unfold atI at h;cases e:ixN xs.length i with
 |none=>rw[e] at h;cases h
 | some j =>
  rw[e] at h;obtain⟨a,b,d,c⟩:=znk e;exact⟨j,a,h,b,d,c⟩
theorem z34 {α:Type}{xs:List α}{j:Nat}{v:α}(h:xs[j]?=Za v):atI xs (j:Int)=Za v:=by
 have a:j<xs.length:=(Ag.mp h).1;have e:ixN xs.length (j:Int)=Za j:=by
  unfold ixN;rw[if_pos (by symm),if_pos (by symm)];simp
 unfold atI;rw[e];exact h
noncomputable def zrb (b:Zi):Prop:=∀o i,subscripted b Zc o i=operate [o,i] (getItem o i)
noncomputable def IxR (X:Cx) (r:R2):Prop :=
 ∀(value a:Zi) (pins:List (Zh×Obj)) (s:Zf) (σ:St) (H:Hp) (x y:V) (v u:Ze) (Q:VK),Inv X pins σ H s->RelV x v->RelV y u->r x y H Q ->
  subscripted a Zc v u=operate [v,u] (getItem v u)->wpAny #v[1,7] X.A (subscriptTail value a v u) (EP X pins σ Q) X.xe s
noncomputable def MtR (X:Cx) (id:String) (r:V->List V->Hp->VK->Prop):Prop :=
 ∀(pins:List (Zh×Obj)) (s:Zf) (σ:St) (H:Hp) (x:V) (a:List V) (v:Ze) (u:List Ze) (Q:VK),Inv X pins σ H s->RelV x v->Vals a u->r x a H Q ->
  wpAny #v[1,7] X.A (call (.builtin id) (v::u)) (EP X pins σ Q) X.xe s
section
variable {ta tb:TE}{pos:Pos}
theorem IxR.or {r e:R2}(h:IxR X r)(h':IxR X e):IxR X (λx y H Q=>r x y H Q\/e x y H Q):=by
 intro value a pins s σ H x y v u Q I b d q c;rcases q with q|q
 ·exact h value a pins s σ H x y v u Q I b d q c
 ·exact h' value a pins s σ H x y v u Q I b d q c
theorem z5u {r:R2}(f:IxR X r)(j:PE X a ta)(e:PE X b tb)(d:zrb b):PE X (.Subscript a b pos) (tOp r ta tb):=by
 intro pins s σ H Q I h;exact Subscript_ (binT j e I h λv u g x y i l c k q=>f a b pins g σ i x y v u Q l c k q (d _ _))
noncomputable def rIxL (K:Zg):R2:=λx y H Q=>∃p a i v,x=.ref p/\y=.int i/\SqL K H p a/\atI a i=Za v/\Q v H
noncomputable def rIxT (K:Zg):R2:=λx y H Q=>∃p a i v,x=.ref p/\y=.int i/\SqT K H p a/\atI a i=Za v/\Q v H
theorem zq5:IxR X (rIxL X.K):=by
 intro value f pins s σ H x y v u Q I A F h k;nofun;obtain⟨p,L,i,z,rfl,rfl,o,D,q⟩:=h;ac_rfl;cases A;nofun;obtain⟨t,rfl⟩:=F;obtain⟨b,r,e,G⟩:=I.list o;obtain⟨j,a,B,J,n,m⟩:=ztu D;obtain⟨w,g,c⟩:=r.get B;ac_rfl;have E:=r.length;have K:=zkk;have fin:EP X pins σ Q w s:=⟨z,H,I,c,q⟩;by_cases l:0<=i
 ·have d:i.toNat=j:=by
   rw[seqIndex_of l m] at a;exact sI a
  exact item_listR e.isList l (by symm) (by rw[d];simpa using g) fin k
 ·have d:(i+(b.toArray.size:Int)).toNat=j:=by
   rw[seqIndex_neg (by symm) n] at a;rw[Aj,<-E];exact sI a
  exact subscriptTail_builtinR (x:=w) e.isList.typeIs slot_list_getitem.lookup
   (wpAny_getItem_list_neg (Q:=λr C=>r=w/\EP X pins σ Q r C) e.isList (by symm) (by rw[Aj]<;>symm) (by symm) (by rw[d];simpa using g) ⟨rfl,fin⟩) k
theorem z78:IxR X (rIxT X.K):=by
 intro value b pins s σ H x y v u Q I l B h k;obtain⟨p,J,i,z,rfl,rfl,g,o,q⟩:=h;cases l;obtain⟨t,rfl⟩:=B;obtain⟨d,r,c,E⟩:=I.tuple g;obtain⟨j,f,m,F,D,C⟩:=ztu o;obtain⟨w,e,a⟩:=r.get m;have A:=r.length;have G:=zkk;have fin:EP X pins σ Q w s:=⟨z,H,I,a,q⟩;exact subscriptTail_builtinR (x:=w) c.typeIs slot_tuple_getitem.lookup
  (getItem_tuple (j:=j) (Q:=λr n=>r=w/\EP X pins σ Q r n) c (by symm) (by symm) (by rw[Aj,<-A];exact f) (by simpa using e) ⟨rfl,fin⟩) k
theorem zp7 (i:List Ze)(n j:Nat)(u:Ze):Obj.mapSeq (·.setIfInBounds j u) { cls:=.type "list",data:=.seq i.toArray n }={ cls:=.type "list",data:=.seq (i.set j u).toArray n }:=by
 simp [Obj.mapSeq]
theorem Inv.lst {pins:List (Zh×Obj)}{σ:St}{H:Hp}{s:Zf}{p:Zh}{xs:List V} (I:Inv X pins σ H s) (h:H p=Za (.lst xs)) :
  ∃(i:List Ze) (n:Nat),Vals xs i/\s.heap.get? p=Za { cls:=.type "list",data:=.seq i.toArray n }/\xs.length<=sizeLine:=by
 nofun;obtain⟨z,i,n,r,e⟩:=I.hok p _ h;ac_rfl;exact⟨i,n,r,e,z⟩
theorem Inv.lstUpd {pins:List (Zh×Obj)}{σ:St}{H:Hp}{s:Zf}{p:Zh}{xs ys:List V}{i its':List Ze}{n a:Nat}{f:Obj->Obj} (I:Inv X pins σ H s) (h:H p=Za (.lst xs))
  (d:s.heap.get? p=Za { cls:=.type "list",data:=.seq i.toArray n }) (c:f { cls:=.type "list",data:=.seq i.toArray n }={ cls:=.type "list",data:=.seq its'.toArray a }) (r:Vals ys its') (j:ys.length<=sizeLine) (t:Nat) :
  Inv X pins σ (upd H p (.lst ys)) { s with heap:=s.heap.update p f,toks:=t }:=by
 have e:(s.heap.update p f).get? p=Za { cls:=.type "list",data:=.seq its'.toArray a }:=by
  rw[Heap.get?_update_self f d (by rw[c]<;>rfl),c]
 refine I.write (x:=p) (e:=p) (by rw[h];trivial) (.inl rfl) (λb u g q=>(Heap.get?_update_other _ _ (Ne.symm g)).trans q) ⟨_,e⟩ ?_;exact⟨j,its',a,r,e⟩
noncomputable def z7y:V->V->V->Hp->(Hp->Prop)->Prop:=λo i v H Q=>∃p x k j,o=.ref p/\i=.int k/\H p=Za (.lst x)/\ixN x.length k=Za j/\Q (upd H p (.lst (x.set j v)))
theorem zxp:PSet X z7y:=by
 intro pins s σ H o i v D E u Q I C z y h;nofun;obtain⟨p,B,k,j,rfl,rfl,m,A,q⟩:=h;ac_rfl;cases C;nofun;obtain⟨t,rfl⟩:=z;obtain⟨a,n,r,c,x⟩:=I.lst m;obtain⟨b,G,g,f⟩:=znk A;ac_rfl;have e:=r.length;have F:=zkk;have l:Inv X pins σ (upd H p (.lst (B.set j v))) { s with heap:=s.heap.update p (Obj.mapSeq (·.setIfInBounds j u)) } :=
  I.lstUpd m c (zp7 a n j u) (r.set y j) (by rw[Bq];exact x) s.toks
 by_cases w:0<=k
 ·have d:k.toNat=j:=by
   rw[seqIndex_of w f] at b;exact sI b
  exact PySem.W.ki_setAt c w (by symm) (by rw[Aj,<-e];exact f) (by rw[d];exact⟨_,l,q⟩)
 ·have d:(k+(a.toArray.size:Int)).toNat=j:=by
   rw[seqIndex_neg (by symm) g] at b;rw[Aj,<-e];exact sI b
  exact PySem.W.ki_setBack c (by symm) (by rw[Aj,<-e];exact g) (by symm) (by rw[d];exact⟨_,l,q⟩)
theorem zk1 (lo a:Option Int) (n:Nat):(sliceBounds lo a Zb n).1=((HT.sIx n 0 lo:Nat):Int)/\(sliceBounds lo a Zb n).2.1=((HT.sIx n n a:Nat):Int)/\(sliceBounds lo a Zb n).2.2=1:=by
 refine⟨?_,?_,rfl⟩
 ·cases lo with
  |none=>simp [sliceBounds,HT.sIx]
  | some i =>
   simp only [sliceBounds,HT.sIx,Option.getD_none,show (1:Int) > 0 by decide,Fe];by_cases h:i<0
   ·simp only [h,Fe]<;>symm
   ·simp only [h,Fx]<;>symm
 ·cases a with
  |none=>simp [sliceBounds,HT.sIx]
  | some i =>
   simp only [sliceBounds,HT.sIx,Option.getD_none,show (1:Int) > 0 by decide,Fe];by_cases h:i<0
   ·simp only [h,Fe]<;>symm
   ·simp only [h,Fx]<;>symm
theorem zir (i:List Ze)(lo h:Option Int):slicePick i.toArray lo h Zb=((i.drop (HT.sIx i.length 0 lo)).take (HT.sIx i.length i.length h-HT.sIx i.length 0 lo)).toArray:=by
 obtain⟨a,b,c⟩:=zk1 lo h i.toArray.size;unfold slicePick;rw[a,b,c];simp only [sliceRange_one,pick_run,Aj]<;>rfl
noncomputable def rSlL (K:Zg):V->Option Int->Option Int->Hp->VK->Prop:=λx l h H Q=>∃a b,x=.ref a/\SqL K H a b/\∀p,H p=Zb->Q (.ref p) (upd H p (.lst (cutV b l h)))
theorem z2u:SlR X (rSlL X.K):=by
 intro pins s σ H x v t u l e w Q I i k n p h;obtain⟨a,c,rfl,g,q⟩:=h;cases i;obtain⟨j,r,f,m⟩:=I.list g;have d:=r.length;refine⟨"list",_,slot_list_getitem.lookup,f.isList.typeIs,?_⟩;refine wpAny_getItem_list_slice f.isList k n p .none (by simp) ?_ (by rw[Aj]<;>symm);rw[zir,<-d];refine⟨.ref s.heap.objs.size,_,I.laid (t':=s.toks) (o:=.lst (cutV c l e)) (λb y q=>Ab _ q) (Ae _) ?_,rfl,q _ (I.hok.fresh (Ae _))⟩;exact⟨Bz (zf6 c l e) m,_,0,(r.drop (HT.sIx c.length 0 l)).take (HT.sIx c.length c.length e-HT.sIx c.length 0 l),Aq _ rfl⟩
theorem zjv:zdo X (.builtin "len") (λxs H Q=>∃p ys,xs=[.ref p]/\(SqL X.K H p ys\/SqT X.K H p ys)/\Q (.int ys.length) H):=by
 intro pins s σ H xs g Q I r h;obtain⟨p,ys,rfl,b,q⟩:=h;obtain⟨u,rfl,e⟩:=vals1 r;cases e;have j:=zkk;rcases b with b|b
 ·obtain⟨i,c, d,f⟩:=I.list b;have a:=c.length;exact Calls.call_len_list d.isList (by simp only [Aj]<;>symm) ⟨.int ys.length,H,I.tok _,⟨s.toks+1,by rw[Aj,a]⟩,q⟩
 ·obtain⟨i,c, d,f⟩:=I.tuple b;have a:=c.length;exact len_tuple d (by simp only [Aj]<;>symm) ⟨.int ys.length,H,I.tok _,⟨s.toks+1,by rw[Aj,a]⟩,q⟩
theorem zln:zdo X (.type "list") (λxs H Q=>∃p ys,xs=[.ref p]/\(SqL X.K H p ys\/SqT X.K H p ys)/\∀l,H l=Zb->Q (.ref l) (upd H l (.lst ys))):=by
 intro pins s σ H xs z Q I r h;obtain ⟨p,ys,rfl,f,q⟩:=h;obtain ⟨u,rfl,y⟩:=vals1 r;cases y;have fin:∀(i:List Ze),Vals ys i->ys.length<=sizeLine->∀(a:Heap) (c:Nat),(∀b x,s.heap.get? b=Za x->a.get? b=Za x) ->
   a.get? s.heap.objs.size=Za { cls:=.type "list",dict:=Zb,data:=.seq i.toArray c,slots:=#[] }->EP X pins σ Q (.ref s.heap.objs.size) { s with heap:=a }:=λi d g a c k e =>
  ⟨.ref s.heap.objs.size,_,I.laid (t':=s.toks) k (Ae _) (show zbh X.prog X.w _ a _ (.lst ys) from ⟨g,i,c,d,e⟩),rfl,q _ (I.hok.fresh (Ae _))⟩
 rcases f with f|f
 ·obtain⟨i,d, w,g⟩:=I.list f;have j:=d.length;obtain⟨o,t,v,n,m⟩:=w.isList;exact call_list_seq p (.inl rfl) t v m (λa c k e=>fin i d g a c k e) (by simp only [Aj]<;>symm)
 ·obtain⟨i,d, w,g⟩:=I.tuple f;have j:=d.length;obtain⟨o,t,v,n,m⟩:=w;exact call_list_seq p (.inr rfl) t v m (λa c k e=>fin i d g a c k e) (by simp only [Aj]<;>symm)
theorem zje:zdo X (.type "tuple") (λxs H Q=>∃p ys,xs=[.ref p]/\((SqL X.K H p ys/\∀l,H l=Zb->Q (.ref l) (upd H l (.tup ys)))\/(SqT X.K H p ys/\Q (.ref p) H))):=by
 intro pins s σ H xs v Q I r h;obtain⟨p,ys,rfl,h⟩:=h;obtain⟨u,rfl,m⟩:=vals1 r;cases m;rcases h with⟨f,q⟩|⟨f,q⟩
 ·obtain ⟨i,c, d,j⟩:=I.list f;have k:=c.length;refine call_tuple_list d.isList (λa n=>?_) (by simp only [Aj]<;>symm);have g:Inv X pins σ H { s with heap:=a }:=I.kept (t':=s.toks) n;have t:Inv X pins σ (upd H a.objs.size (.tup ys)) { s with heap:=a.push { cls:=.type "tuple",data:=.seq i.toArray } } :=
   g.laid (t':=s.toks) (λb o e=>Ab _ e) (Ae _) (show zbh X.prog X.w _ _ _ (.tup ys) from ⟨j,i,c,zj7.new _ _⟩)
  exact⟨.ref a.objs.size,_,t,rfl,q _ (g.hok.fresh (Ae _))⟩
 ·obtain⟨i,c, d,j⟩:=I.tuple f;exact call_tuple_same d ⟨.ref p,H,I,rfl,q⟩
noncomputable def tyV (K:Zg) (T:String) (x:V) (H:Hp):Prop:=match x with
 |.str _=>T = "str"
 |.int _=>T = "int"
 | .ref p=>(T = "list"/\∃a,SqL K H p a)\/(T = "tuple"/\∃o,K.lookup p=Za o/\o.cls=.type "tuple"/\o.dict=Zb) \/
  (T = "dict"/\((∃kvs,H p=Za (.dK kvs))\/∃kvs,H p=Za (.dT kvs)))\/(T = "set"/\∃S n,H p=Za (.set S n))
 |_=>False
theorem z5s {pins:List (Zh×Obj)}{σ:St}{s:Zf}{x:V}{v:Ze} (I:Inv X pins σ H s) (r:RelV x v) (d:tyV X.K T x H) :
  s.TypeIs v T/\∀a,v=.ref a->∃ob,s.heap.get? a=Za ob/\ob.dict=Zb:=by
 cases x with
 | str z =>
  obtain⟨t,rfl⟩:=r;cases (show T = "str" from d);exact⟨typeIs_str s z t,λ_ e=>nomatch e⟩
 | int i =>
  obtain⟨t,rfl⟩:=r;cases (show T = "int" from d);exact⟨typeIs_int s i t,λ_ e=>nomatch e⟩
 | ref p =>
  cases r;rcases d with⟨rfl,q,m⟩|⟨rfl,o,h,k,f⟩|⟨rfl,h⟩|⟨rfl,S,n,h⟩
  ·obtain ⟨l,_,j,_⟩:=I.list m
   refine⟨j.isList.typeIs,λa e=>?_⟩;cases e;obtain⟨o,n,e,c,f,_⟩:=j;exact⟨o,e,f⟩
  ·refine ⟨⟨o,I.kIn p o h,k⟩,λa e => ?_⟩
   cases e;exact⟨o,I.kIn _ o h,f⟩
  ·have z:∃o,s.heap.get? p=Za o/\o.ExactDict:=by
    rcases h with⟨kvs,h⟩|⟨kvs,h⟩
    ·obtain ⟨_,_,_,_,o,_,_,e,b,_⟩:=I.hok p _ h
     exact⟨o,e,b⟩
    ·obtain ⟨_,_,_,_,o,_,_,e,b,_⟩:=I.hok p _ h
     exact⟨o,e,b⟩
   obtain⟨o,e,b⟩:=z;refine⟨⟨o,e,b.1⟩,λa g=>?_⟩;cases g;exact⟨o,e,b.2.1⟩
  ·obtain ⟨o,_,_,_,e,b,_⟩:=I.hok p _ h
   refine⟨⟨o,e,b.1⟩,λa g=>?_⟩;cases g;exact⟨o,e,b.2.1⟩
 |_=>exact False.elim d
noncomputable def tBM (K:Zg) (T:String) (r:V->List V->Hp->VK->Prop) (c:TE) (t:TA):TE:=λσ H Q=>c σ H λx a=>tyV K T x a/\t σ a λd b=>r x d b Q
variable {to:TE}{t:TA}{T id:String}{r:V->List V->Hp->VK->Prop}
theorem zl6 (p:PlainAttrs T) (slot:Slot T name id) (f:typeOf (.builtin id)=pure (.type "method_descriptor")) (m:MtR X id r) (u:PE X o to) (z:PA X (e::es) t)
  (b:attributeBase o name X.env (eval o X.env)=eval o X.env:=by rfl)
  (d:((backTo cpos (starEach (e::es) X.env)).all (λx=>!x.1)&&(backToKw cpos (keywordEach [] X.env)).all (λx=>x.1.isSome)
   && decide ((e::es).length+([]:List Keyword).length+(if ([]:List Keyword).isEmpty then 0 else 1)<30))=Zd:=by rfl)
  (c:(apos.endLine==cpos.line)=Zd:=by rfl) (w:starEach (e::es) X.env=(Zc,eval e X.env)::starEach es X.env:=by rfl) (a:(backTo cpos (starEach es X.env)).any (·.1)=Zc:=by rfl) :
  PE X (.Call (.Attribute o name apos) (e::es) [] cpos) (tBM X.K T r to t):=by
 intro pins s σ H Q I h;refine wpAny_Call_method_late b d c rfl (thn (u pins s σ H _ I h) λv D ⟨x,k,g,j,C,A⟩=>?_);obtain⟨l,B⟩:=z5s g j C;refine⟨T,id,p,slot,f,l,B,?_⟩;have i:=z cpos pins D σ k _ g A;rw[w] at i ⊢;refine Calls.callWith_builtin (by show (Zc||(backTo cpos (starEach es X.env)).any (·.1))=Zc;rw[a]<;>rfl) (Calls.evalArgs_plain ?_);exact thn i λJ n ⟨G,q,F,y,E⟩=>m pins n σ q x G v J Q F j y E
end
noncomputable def MtM (X:Cx) (id:String) (r:V->List V->Hp->VK->Prop):Prop :=
 ∀(pins:List (Zh×Obj)) (s:Zf) (σ:St) (H:Hp) (x:V) (a:List V) (v:Ze) (u:List Ze) (Q:VK),Inv X pins σ H s->RelV x v->Vals a u->r x a H Q ->
  wpAny #v[1,7] X.A (call (.builtin id) (v::u)) (EP X pins σ Q) X.xe s
theorem Vals.one:∀{x:V}{a:List Ze},Vals [x] a->∃u,a=[u]/\RelV x u
 |_,_,.cons r .nil=>⟨_,rfl,r⟩
theorem Vals.eraseIdx:∀{xs:List V}{u:List Ze} (i:Nat),Vals xs u->Vals (xs.eraseIdx i) (u.eraseIdx i)
 |_,_,_,.nil=>.nil
 |_,_,0,.cons _ t=>t
 |_,_,i+1,.cons r t=>.cons r (Vals.eraseIdx i t)
theorem Vals.rep {xs:List V}{u:List Ze} (h:Vals xs u):∀k:Nat,Vals (List.replicate k xs).flatten (List.replicate k u).flatten
 |0=>.nil
 | k+1=>by
  rw[Df,Df,Ea,Ea];exact Vals.append h (Vals.rep h k)
theorem len_erase {α:Type}:∀(l:List α) (i:Nat),(l.eraseIdx i).length<=l.length
 |[],_=>Ae _
 |_::_,0=>Nat.le_succ _
 |_::r,i+1=>Nat.succ_le_succ (len_erase r i)
theorem zlv (i:List Ze):∀(k:Nat) (a:List Ze),
  List.foldl (λx c=>x++c) a.toArray (List.replicate k i.toArray)=(a++(List.replicate k i).flatten).toArray
 |0,a=>by simp
 | k+1,a=>by
  have e:a.toArray++i.toArray=(a++i).toArray:=by simp
  have b:(a++i)++(List.replicate k i).flatten=a++(List.replicate (k+1) i).flatten:=by
   rw[Df,Ea,Bb]
  rw[<-b,<-zlv i k (a++i),<-e,Df,List.foldl_cons]
section
variable {pins:List (Zh × Obj)}{σ:St}{s:Zf}{xs ys zs:List V}
theorem Inv.lset {i its':List Ze}{n:Nat}{f:Array Ze->Array Ze}{t':Nat} (I:Inv X pins σ H s) (a:H l=Za (.lst xs))
  (e:s.heap.get? l=Za { cls:=.type "list",data:=.seq i.toArray n }) (g:f i.toArray=its'.toArray) (c:Vals ys its') (d:ys.length<=sizeLine) :
  Inv X pins σ (upd H l (.lst ys)) { s with heap:=s.heap.update l (Obj.mapSeq f),toks:=t' }:=by
 have q:=PySem.IsL.update e f;rw[g] at q;refine I.write (x:=l) (e:=l) (by rw[a];exact trivial) (.inl rfl) (λj u b h=>(Heap.get?_update_other s.heap (Obj.mapSeq f) (Ne.symm b)).trans h) ⟨_,q⟩ ?_;exact⟨d,its',_,c,q⟩
theorem Inv.lnew {t':Nat} (I:Inv X pins σ H s) (a:Vals ys its) (h:ys.length<=sizeLine) :
  Inv X pins σ (upd H s.heap.objs.size (.lst ys)) { s with heap:=s.heap.push { cls:=.type "list",data:=.seq its.toArray },toks:=t' } :=
 I.laid (λ_ _ q=>Ab _ q) (Ae _) ⟨h,its,0,a,Aq _ rfl⟩
theorem Inv.fresh (I:Inv X pins σ H s):H s.heap.objs.size=Zb:=I.hok.fresh (Ae _)
theorem Inv.lstM (I:Inv X pins σ H s)(h:H l=Za (.lst xs)):xs.length<=sizeLine/\∃(i:List Ze) (n:Nat),Vals xs i/\xs.length=i.length/\s.heap.get? l=Za { cls:=.type "list",data:=.seq i.toArray n }:=by
 nofun;obtain⟨z,i,n,r,e⟩:=I.hok l _ h;ac_rfl;exact⟨z,i,n,r,r.length,e⟩
theorem zox (h:n<=sizeLine):Builtin.List.listTooLong n=Zc:=by
 unfold Builtin.List.listTooLong;exact Az (by symm)
end
section
variable {X:Cx}
noncomputable def zme:V->List V->Hp->VK->Prop:=λx v H Q=>∃l a y,x=.ref l/\v=[y]/\H l=Za (.lst a)/\a.length<sizeLine/\Q .non (upd H l (.lst (a++[y])))
theorem zgh:MtM X "list.append" zme:=by
 intro pins s σ H x k v m Q I b d h;obtain⟨l,g,y,rfl,rfl,a,f,q⟩:=h;cases b;obtain⟨u,rfl,c⟩:=d.one;obtain⟨z,i,n,r,j,e⟩:=I.lstM a;refine Gu F.slot_list_append ⟨_,e,rfl⟩ F.entry_list_append (F.args_list_append_2 _ _) (PySem.list_append l i.toArray n u (by rw[Aj];symm)) ⟨e,?_⟩;refine⟨.non,_,I.lset (its':=i++[u]) a e (by simp) (r.append (.cons c .nil)) ?_,rfl,q⟩;rw[Bf,List.length_singleton];symm
noncomputable def z2h:V->List V->Hp->VK->Prop:=λx v H Q=>∃l b a z,x=.ref l/\v=[.ref b]/\H l=Za (.lst a)/\H b=Za (.lst z)/\a.length+z.length<=sizeLine/\Q .non (upd H l (.lst (a++z)))
theorem z9k:MtM X "list.extend" z2h:=by
 intro pins s σ H x E v G Q I o m h;nofun;obtain⟨l,b,C,B,rfl,rfl,f,p,A,q⟩:=h;ac_rfl;cases o;obtain⟨u,rfl,t⟩:=m.one;cases t;nofun;obtain⟨z,a,n,r,D,e⟩:=I.lstM f;obtain⟨y,i,k,g,w,j⟩:=I.lstM p;ac_rfl;have d:a.toArray.size+i.toArray.size<=sizeLine:=by rw[Aj,Aj];symm
 have c:¬ (!a.toArray.isEmpty&&Builtin.List.listTooLong (a.toArray.size+i.toArray.size))=Zd:=by
  rw[zox d,Bool.and_false];exact Av
 refine Gu F.slot_list_extend ⟨_,e,rfl⟩ F.entry_list_extend (F.args_list_extend_2 _ _)
  (AutoSeq1.list_extend_list_list_0 l a.toArray n b i.toArray k c (by rw[Aj];symm) (by symm)) ⟨e,j,?_⟩
 refine⟨.non,_,I.lset (its':=a++i) f e (by simp) (r.append g) ?_,rfl,q⟩;rw[Bf];symm
noncomputable def z0r:V->List V->Hp->VK->Prop:=λx v H Q=>∃l a i k y,x=.ref l/\v=[.int i]/\H l=Za (.lst a)/\-(2^63)<=i/\i<2^63/\seqIndex? i a.length=Za k/\a[k]?=Za y/\Q y (upd H l (.lst (a.eraseIdx k)))
theorem zwh:MtM X "list.pop" z0r:=by
 intro pins s σ H x D v E Q I d C h;nofun;obtain⟨l,p,i,k,y,rfl,rfl,c,g,j,o,f,q⟩:=h;ac_rfl;cases d;nofun;obtain⟨u,rfl,m⟩:=C.one;obtain⟨t,rfl⟩:=m;obtain⟨z,a,n,r,A,e⟩:=I.lstM c;obtain⟨w,B,b⟩:=r.get f;ac_rfl;refine Gu F.slot_list_pop ⟨_,e,rfl⟩ F.entry_list_pop (F.args_list_pop_2 _ _)
  (MeetsSeq.list_pop_at l a.toArray n i t k w (fitsIndex_both g j) (by rw[Aj,<-A];exact o) (by rw[<-Et];exact B) (by rw[Aj];symm)) ⟨e,?_⟩
 refine⟨y,_,I.lset (its':=a.eraseIdx k) c e ?_ (r.eraseIdx k) ?_,b,q⟩
 ·show a.toArray.eraseIdxIfInBounds k=(a.eraseIdx k).toArray;rw[List.eraseIdxIfInBounds_toArray]
 ·have:=len_erase p k;symm
noncomputable def rCat:R2:=λx y H Q=>∃l b a z,x=.ref l/\y=.ref b/\H l=Za (.lst a)/\H b=Za (.lst z)/\a.length+z.length<=sizeLine/\∀p,H p=Zb->Q (.ref p) (upd H p (.lst (a++z)))
theorem z0l:OpR X (binaryOp .Add) rCat:=by
 intro pins s σ H x y v u Q I c o h;nofun;obtain⟨l,b,w,C,rfl,rfl,f,d,t,q⟩:=h;ac_rfl;cases c;cases o;nofun;obtain⟨z,a,n,r,A,e⟩:=I.lstM f;obtain⟨p,i,B,g,j,m⟩:=I.lstM d;ac_rfl;refine PySem.P.add_list e m ?_ (by rw[Aj,Aj];symm);have k:a.toArray++i.toArray=(a++i).toArray:=by simp
 rw[k];exact⟨.ref _,_,I.lnew (t':=s.toks) (r.append g) (by rw[Bf];symm),rfl,q _ I.fresh⟩
noncomputable def rRep:R2:=λx y H Q=>∃l k a,x=.ref l/\y=.int k/\H l=Za (.lst a)/\-(2^63)<=k/\k<2^63/\a.length*k.toNat<=sizeLine /\
 ∀p,H p=Zb->Q (.ref p) (upd H p (.lst (List.replicate k.toNat a).flatten))
theorem z2c {α:Type}(xs:List α)(k:Nat):(List.replicate k xs).flatten.length=k*xs.length:=by
 induction k with
 |zero=>simp
 |succ k i=>rw[Df,Ea,Bf,i,Nat.succ_mul,Nat.add_comm]
theorem z8s:OpR X (binaryOp .Mult) rRep:=by
 intro pins s σ H x y v u Q I A J h;nofun;obtain⟨l,k,K,rfl,rfl,B,w,C,p,q⟩:=h;ac_rfl;cases A;nofun;obtain⟨t,rfl⟩:=J;obtain⟨z,i,n,r,G,e⟩:=I.lstM B;ac_rfl;have g:i.toArray.size*k.toNat<=sizeLine:=by rw[Aj,<-G];exact p
 have f:¬ i.toArray.size*k.toNat > (2^63-1)/8:=by
  have:(sizeLine:Nat)<=(2^63-1)/8:=by decide
  symm
 have c:¬ (!Builtin.List.listFitsIndex k)=Zd:=by
  rw[fitsIndex_both w C];exact Av
 have b:¬ Builtin.List.listTooLong (i.toArray.size*k.toNat)=Zd:=by
  rw[zox g];exact Av
 have d:List.foldl (λj o=>j++o) #[] (List.replicate (if i.toArray.isEmpty=Zd then 0 else k.toNat) i.toArray)=(List.replicate k.toNat i).flatten.toArray:=by
  have E:∀m:Nat,List.foldl (λj o=>j++o) #[] (List.replicate m i.toArray)=(List.replicate m i).flatten.toArray:=λm=>by
   have:=zlv i m [];rw[List.nil_append] at this;exact this
  rw[E];cases i with
  |nil=>simp
  |cons a L=>rw[if_neg (by simp)]
 refine wpAny_binaryOp_repeat_ref (T := "list") (U := "int") (by decide) ⟨_,e,rfl⟩ (λD=>typeIs_int D k t) noFill_list_mul F.fills_int_mul F.slot_int_rmul repeat_list F.slot_int_index.lookup
  (Gu F.slot_int_rmul (typeIs_int s k t) F.entry_int_rmul (F.args_int_rmul_2 _ _) (int___rmul___int_list k t l i.toArray n)
   ⟨e,rfl,⟨_,e,rfl⟩,Gu F.slot_list_mul ⟨_,e,rfl⟩ F.entry_list_mul (F.args_list_mul_2 _ _) (AutoListH.list___mul___list_int_3 l i.toArray n k t c f b) ⟨e,?_⟩⟩)
 rw[d];exact⟨.ref _,_,I.lnew (t':=s.toks) (r.rep k.toNat) (by rw[z2c,Nat.mul_comm];exact p),rfl,q _ I.fresh⟩
end
section
variable {prog:Program}{w:World}{s:Zf}
end
section
end
end L2
namespace Att
open PySem PySem.W PySem.Calls PyProof.Rows
theorem zgc:∀(ns:List Int) (vs:List Ze),WellAll P h vs (ns.map WData.int)->IntsAre vs ns:=by
 intro ns
 induction ns with
 | nil =>
  intro vs w;rw[List.map_nil] at w;cases w;exact .nil
 | cons n ns i =>
  intro vs w;rw[Aw] at w;cases w with
  | cons a b =>
   cases a;exact .cons _ _ (i _ b)
theorem zu2 {l:OpenLaw}{n:Nat} (x:l.most=Za n) {P:Params}{h:Heap}{args:List WData}{b:List Ze}
  (c:l.row.toRowW.claim.pre args=Zd) (j:WellAll P h b args) :
  ∃a vs ns,b=[Ze.ref a]/\args=[WData.list (ns.map WData.int)]/\h.get? a=Za { cls:=.type "list",data:=.seq vs.toArray }/\IntsAre vs ns/\ns.length<=n:=by
 have k:WShape.hasAll [] args [.list .int]=Zd:=(pre_splitW c).1;have m:l.pre.holds [] { args:=args }=Zd:=(pre_splitW c).2;obtain ⟨d,r,rfl,p,y⟩:=hasAllW_cons k;obtain rfl:=hasAllW_nil y;obtain ⟨z,rfl,u⟩:=hasW_list p;obtain ⟨ns,rfl⟩:=items_int u;have f:ns.length<=n:=by
  unfold OpenLaw.pre at m;have i:(WTm.not (.lt (.lit (.int (n:Int))) (.len (.arg 0)))).holds [] { args:=[.list (ns.map .int)] }=Zd:=by
   have i:=(holds_andW m).1;rw[x] at i;exact i
  have g:=condW_of i (w_not (w_lt w_lit (w_len_list (w_arg rfl))));rw[Ad] at g;refine Nat.le_of_not_lt λq=>?_;have o:(n:Int)<((ns.length:Nat):Int):=by symm
  first
   |(rw[Ah o] at g;exact absurd g (by decide))
   |(simp at g;symm)
 cases j with
 | cons t w =>
  cases w;cases t with
  |list s e=>exact⟨_,_,ns,rfl,rfl,s,zgc ns _ e,f⟩
theorem zt1 (l:OpenLaw)(args:List WData):l.row.toRowW.claim.post args (.bool Zd) args=Zd :=
 postW_of (r:=l.row.toRowW) (X:=(Zd==Zd))
  (show WShape.has [] (.bool Zd) .bool=Zd by first|rfl|decide|simp [WShape.has,WShape.arms,WShape.armsAll])
  (show (WTm.eq .res (.lit (.bool Zd))).value [] { args:=args,res:=Za (.bool Zd),after:=args }=Za (.bool (Zd==Zd)) from w_eq_bool (w_res rfl) w_lit) rfl
theorem attach_call {l:OpenLaw}{n:Nat}{q:Program}{b:List Str}{X:(Str->Option Ze)->Heap->Prop}{y:World->Heap->Prop}{d:DefRec}
  (I:l.most=Za n) (p:d.params.defaults=[])
  (call:∀(w:World) (s₀ s₁:Zf) (m k:Str->Option Ze) (g:Zh) (o:Obj) (pm j doc:Ze) (a:Zh) (vs:List Ze) (ns:List Int),
   Ground q b [] X w s₀ m k s₁.heap->y w s₁.heap ->
   s₁.heap.get? g=Za o->o.data=.func (docDef d.name d.params d.body d.scope pm j doc)->s₁.heap.CodeRec j d.name->m d.name=Za (.ref g) ->
   s₁.heap.get? a=Za { cls:=.type "list",data:=.seq vs.toArray }->IntsAre vs ns->ns.length<=n->s₁.gens=#[] ->
   codeAny (model l.prog w) callerA (.call (.ref g) ⟨[.ref a],[]⟩) (λr s'=>r=.ok (.ret (.bool Zd))/\OldK s₁.heap s'.heap/\s'.os=s₁.os/\AllBare s'.gens) s₁) :
  WalkO q b X y l.row.toRowW d [] (λf vs=>PySem.call f vs):=by
 intro w s₀ s₁ m k G Y g o pm j doc M kV F B s x u C args v N i z J t K;obtain rfl:M=.none:=Dflts.none x p;obtain rfl:kV=.none:=Dflts.noKw x;obtain⟨a,vs,ns,rfl,rfl,c,h,e⟩:=zu2 I i t;refine enter_call (codeAny_mono (call w s₀ s₁ m k g o pm j doc a vs ns G Y F (fd_plain B) s u c h e C) λr s' E=>?_);obtain⟨rfl,L,H,D⟩:=E;exact⟨.inl ⟨.bool Zd,.bool Zd,[],rfl,λ_=>rfl,.bool Zd,zt1 l _,λ_=>⟨List.Pairwise.nil,λ_ A=>(nomatch A)⟩⟩,L,H,D⟩
section
variable {prog:Program}{w:World}{s:Zf}{K:Frag}
end
end Att
namespace L2
open PySem PySem.Spec PyProof.Rows
theorem zkb:∀{vs:List Ze}{ns:List Int},IntsAre vs ns->Vals (ns.map V.int) vs
 |_,_,.nil=>.nil
 |_,_,.cons n t h=>.cons ⟨t,rfl⟩ (zkb h)
noncomputable def zez (s:Stmt):Arguments:=match s with
 |.FunctionDef _ a _ _ _ _ _ _ _ _=>a
 |_=>{ posonlyargs:=[],args:=[],vararg:=Zb,kwonlyargs:=[],kw_defaults:=[],kwarg:=Zb,defaults:=[] }
noncomputable def zbi (s:Stmt):List Stmt:=match s with
 |.FunctionDef _ _ b _ _ _ _ _ _ _=>b
 |_=>[]
noncomputable def zab (s:Stmt):Scope:=match s with
 |.FunctionDef _ _ _ _ _ _ a _ _ _=>a
 |_=>{ kind:=.function,names:=[],isGenerator:=Zc,isCoroutine:=Zc }
noncomputable abbrev CX0:CXT:=λ_ _ _ _ _ _=>False
noncomputable abbrev E0:XK:=λ_ _ _=>False
theorem z51:zoi CX0 X E0:=λ_ _ _ _ _ _ _ h=>h.elim
structure Fun (K:Zg) (x qual:Str) (st:Stmt) (f:Zh) (fd:FuncData):Prop where
 ex:∃(oc:Ze) (od:Option Zh) (kV doc pm:Ze) (an:Option Zh) (cdv ct:Ze) (osl:Array (Option Ze)),
  fd=PySem.W.fnOf x qual (zez st) (zbi st) (zab st) .none kV doc pm an cdv ct/\K.lookup f=Za ⟨oc,od,.func fd,osl⟩/\PySem.W.codeIn K cdv qual=Zd
 kp:PySem.W.keepIn K (.ref f)=Zd
section
variable {w:World}{K:Zg}
theorem Fun.binds {x qual:Str}{st:Stmt}{ps:List Str} (F:Fun K x qual st f fd)
  (h:∀(kV doc pm:Ze) (a:Option Zh) (cdv c:Ze) (u:List Ze),u.length=ps.length->bindArgs (PySem.W.fnOf x qual (zez st) (zbi st) (zab st) .none kV doc pm a cdv c) ⟨u,[]⟩=pure (ps.zip u)):zfq K fd ps []:=by
 obtain⟨o,d,kV,doc,pm,a,cdv,c,osl,rfl,l,b⟩:=F.ex;exact .all (h kV doc pm a cdv c)
theorem zz7 {x qual:Str}{st:Stmt}{o:Ze}{d b:Option Zh}{osl:Array (Option Ze)}{kV doc pm cdv a:Ze} (l:K.lookup f=Za ⟨o,d,.func (PySem.W.fnOf x qual (zez st) (zbi st) (zab st) .none kV doc pm b cdv a),osl⟩)
 (c:PySem.W.codeIn K cdv qual=Zd) (k:PySem.W.keepIn K (.ref f)=Zd):Fun K x qual st f (PySem.W.fnOf x qual (zez st) (zbi st) (zab st) .none kV doc pm b cdv a):=⟨⟨o,d,kV,doc,pm,b,cdv,a,osl,rfl,l,c⟩,k⟩
end
section
end
theorem iteF {A B:Prop}(h:B):if Zc=Zd then A else B:=by
 rw[if_neg Av];exact h
theorem iteT {A B:Prop}(h:A):if Zd=Zd then A else B:=by
 rw[if_pos rfl];exact h
noncomputable def Same (H H':Hp):Prop:=∀b o,H b=Za o->H' b=Za o
theorem Same.refl (H:Hp):Same H H:=λ_ _ h=>h
theorem Same.trans (a:Same H H1)(b:Same H1 H2):Same H H2:=λc o h=>b c o (a c o h)
theorem Same.free (e:Same H H') (h:H' l=Option.none):H l=Option.none:=by
 cases q:H l with
 |none=>rfl
 | some o =>
  rw[e l o q] at h;cases h
theorem Same.seq {K:Zg}{xs:List V}(e:Same H H')(h:SqL K H a xs):SqL K H' a xs:=by
 rcases h with (h|⟨o,h⟩)|h
 ·exact .inl (.inl (e _ _ h))
 ·exact .inl (.inr ⟨o,e _ _ h⟩)
 ·exact .inr h
noncomputable def capSt (cap:List (Option Nat)) (σ:St):St:=cap.map λo=>match o with
 |some i=>(σ[i]?).getD Zb
 |none=>Zb
noncomputable def zhf (cap:List (Option Nat)) (Nc N:List Str) (scope:Scope):Bool :=
 decide (cap.length=Nc.length)&&(cap.zip Nc).all λp=>match p.1 with
  |some i=>decide (N[i]?=Za p.2)&&decide (scope.names.lookup p.2=Za NameKind.free)
  |none=>Zd
theorem zs3 {cap Nc N scope}(h:zhf cap Nc N scope=Zd):cap.length=Nc.length:=by
 unfold zhf at h;rw[Af] at h;exact Ap h.1
theorem ztp {scope:Scope}(h:zhf cap Nc N scope=Zd){j i:Nat}{x:Str}(a:cap[j]?=Za (Za i))(b:Nc[j]?=Za x):N[i]?=Za x/\scope.names.lookup x=Za .free:=by
 unfold zhf at h;rw[Af] at h;have c:(Za i,x)∈cap.zip Nc:=by
  refine Bp (i:=j) ?_;rw[List.getElem?_zip_eq_some];exact⟨a,b⟩
 have q:=Be.mp h.2 _ c;simp only [Af,Eu] at q;exact q
noncomputable def zgs (scope:Scope) (out:Scope):Bool:=scope.names.all λp=>!(p.2==NameKind.free)||decide (out.names.lookup p.1=Za .cell)||decide (out.names.lookup p.1=Za .free)
theorem ze2:∀(names:List (Str × NameKind)) (f:List (Str × Zh)),(∀x,(x,NameKind.free)∈names->∃c,env.cells.lookup x=Za c)->(∀x c,f.lookup x=Za c->env.cells.lookup x=Za c) ->
    ∃i,(forIn names f fun (p:Str × NameKind) t=>if p.2 == NameKind.free then do let c <- cellOf env p.1;pure (ForInStep.yield ((p.1,c)::t)) else pure (ForInStep.yield t):Sem (List (Str × Zh)))=pure i /\
      (∀x c,i.lookup x=Za c->env.cells.lookup x=Za c)/\(∀x,(x,NameKind.free)∈names\/(∃c,f.lookup x=Za c)->∃c,i.lookup x=Za c)
  | [],f,_,l=>⟨f,by rw [Fb],l,fun x h=>by
      rcases h with h|h
      · cases h
      · exact h⟩
  | (n,k)::r,f,m,l=>by
    rw[Gn];by_cases s:(k == NameKind.free)=Zd
    · have w : k = .free := by simpa using s
      subst w;obtain ⟨c,q⟩:=m n Au;have o : ∀x d,((n,c)::f).lookup x=Za d->env.cells.lookup x=Za d:=fun x d h=>by
        rw[Bh] at h;cases e:x == n with
        | true => rw [e] at h; obtain rfl := sI h; have : x = n := by simpa using e
                  rw[this];exact q
        |false=>rw[e] at h;exact l x d h
      obtain⟨i,e,a,b⟩:=ze2 r ((n,c)::f) (λx h=>m x (Ai _ h)) o;refine⟨i,?_,a,λx h=>b x ?_⟩
      · rw [<- e]
        have g:cellOf env n=pure c:=by unfold cellOf;rw[q]
        simp only [beq_self_eq_true,Fe,g]
        rfl
      · have gen:∀y d,f.lookup y=Za d->∃u,((n,c)::f).lookup y=Za u:=fun y d v=>by
          rw[Bh];cases e:y == n with
          |true=>exact⟨_,rfl⟩
          |false=>exact⟨d,v⟩
        rcases h with h|⟨d,h⟩
        · rcases Ak.mp h with h | h
          · injection h with h _
            subst h;exact .inr ⟨c,by rw[Bh];simp⟩
          · exact .inl h
        · exact .inr (gen x d h)
    · have j : (k == NameKind.free) = Zc := by simpa using s
      obtain⟨i,e,a,b⟩:=ze2 r f (λx h=>m x (Ai _ h)) l;refine⟨i,?_,a,λx h=>b x ?_⟩
      · rw [<- e]
        simp only [j,Cz,Fx]
        rfl
      · rcases h with h | h
        · rcases Ak.mp h with h | h
          · injection h with _ h
            subst h;simp at j
          · exact .inl h
        · exact .inr h
theorem zc1 (h:∀x,(x,NameKind.free)∈scope.names->∃c,env.cells.lookup x=Za c) :
  ∃d,closureFor scope env=pure d/\(∀x c,d.lookup x=Za c->env.cells.lookup x=Za c)/\(∀x,(x,NameKind.free)∈scope.names->∃c,d.lookup x=Za c):=by
 nofun;obtain⟨d,e,a,b⟩:=ze2 (env:=env) scope.names [] h (λx c f=>by simp at f);ac_rfl;refine⟨d,?_,a,λx f=>b x (.inl f)⟩;rw[closureFor];have g:=e;simp only [bind_assoc,pure_bind] at g ⊢;exact congrArg (λm=>m>>=λr=>pure r) e |>.trans (by rw[pure_bind])
noncomputable def zbd (X:Cx) (Nc:List Str) (scope:Scope) (c:List (Str×Zh)) (C:Zh) (s:Zf) (H:Hp) (fp:List Zh):Cx where
 prog:=X.prog
 w:=X.w
 K:=X.K
 mg:=X.mg
 base:=X.base
 A:=X.A
 N:=Nc
 s₀:=s
 H₀:=H
 env:=compEnvC scope c C X.env
 outer:=X.stack
 stack:=X.stack
 ex:=fp
 fn:=λx=>decide (scope.names.lookup x=Za NameKind.cell)
 calm:=X.calm
 pn:=[]
 xe:=λ_ _=>False
noncomputable def zz8:TT:=λσ H Q=>Q Zd H
noncomputable def PTs (X:Cx) (ifs:List Zi) (t:TT):Prop :=
 ∀(pins:List (Zh×Obj)) (s:Zf) (σ:St) (H:Hp) (Q:Bool->Hp->Prop),Inv X pins σ H s->t σ H Q ->
  wpAny #v[1,7] X.A (forIn ifs Zd λc r=>if r=Zd then do let ok <- isTrue c X.env (eval c X.env);pure (ForInStep.yield ok) else pure (ForInStep.yield r)) (TP X pins σ Q) X.xe s
theorem z3e:PTs X [] zz8:=λpins s σ H Q I h=>by
 rw[Fb];exact Ar ⟨H,I,h⟩
theorem z3x (h:PT X c t):PTs X [c] t:=λpins s σ H Q I q=>by
 rw[Gn];simp only [Fe];refine Aa (Aa (thn (h pins s σ H Q I q) λb d a=>?_));refine Ar ?_;dsimp only;rw[Fb];exact Ar a
section
theorem za9 {env:Env}:∀{names:List (Str×NameKind)}{x:Str},names.lookup x=Za .free ->
  (names.map λ(n,k)=>if (k == NameKind.free && env.scope.kind == .function && env.kindOf n == some .cell) then (n,NameKind.cell) else (n,k)).lookup x=Za .cell \/
  (names.map λ(n,k)=>if (k == NameKind.free && env.scope.kind == .function && env.kindOf n == some .cell) then (n,NameKind.cell) else (n,k)).lookup x=Za .free
 |[],_,h=>by simp at h
 | (n,k)::r,x,h=>by
  have i:=@za9 env r x;rw[Aw];rw[Bh] at h;cases hx:x==n with
  | true =>
   rw[hx] at h;obtain rfl:=sI h;dsimp only;split
   ·rw[Bh,hx];exact .inl rfl
   ·rw[Bh,hx];exact .inr rfl
  | false =>
   rw[hx] at h;dsimp only;split
   ·rw[Bh,hx];exact i h
   ·rw[Bh,hx];exact i h
theorem zbk {env:Env}:∀{names:List (Str×NameKind)}{x:Str}{k:NameKind},(k=.cell\/k=.free) ->
  (names.map λ(n,k)=>if (k == NameKind.free && env.scope.kind == .function && env.kindOf n == some .cell) then (n,NameKind.cell) else (n,k)).lookup x=Za k->names.lookup x=Za .free\/names.lookup x=Za .cell
 |[],_,_,_,h=>by simp at h
 | (n,c)::r,x,k,a,h=>by
  rw[Aw] at h;rw[Bh];cases hx:x==n with
  | true =>
   dsimp only at h;split at h
   ·rename_i b
    rw[Bh,hx] at h;simp only [Af,Fs] at b;rw[b.1.1];exact .inl rfl
   ·rw [Bh,hx] at h
    obtain rfl:=sI h;rcases a with rfl|rfl
    ·exact .inr rfl
    ·exact .inl rfl
  | false =>
   dsimp only at h;split at h
   ·rw[Bh,hx] at h;exact zbk a h
   ·rw[Bh,hx] at h;exact zbk a h
theorem zdj (h:zgs scope out=Zd)(a:(x,NameKind.free)∈scope.names):out.names.lookup x=Za .cell\/out.names.lookup x=Za .free:=by
 have q:=Be.mp h _ a;simpa using q
theorem capSt_get {j:Nat}{v:V} (h:(capSt cap σ)[j]?=Za (Za v)):∃i,cap[j]?=Za (Za i)/\σ[i]?=Za (Za v):=by
 unfold capSt at h;rw[Am] at h;cases e:cap[j]? with
 |none=>rw[e] at h;cases h
 | some o =>
  rw[e] at h;cases o with
  |none=>cases h
  | some i =>
   refine⟨i,rfl,?_⟩;have a:(σ[i]?).getD Zb=Za v:=sI h;cases e2:σ[i]? with
   |none=>rw[e2] at a;cases a
   |some z=>rw[e2] at a;exact congrArg Za a
theorem zbc {env:Env}:∀{names:List (Str×NameKind)}{x:Str}{k:NameKind},k≠.free->names.lookup x=Za k ->
  (names.map λ(n,k)=>if (k == NameKind.free && env.scope.kind == .function && env.kindOf n == some .cell) then (n,NameKind.cell) else (n,k)).lookup x=Za k
 |[],_,_,_,h=>by simp at h
 | (n,a)::r,x,k,b,h=>by
  have i:=@zbc env r x k b;rw[Aw];rw[Bh] at h;cases hx:x==n with
  | true =>
   rw[hx] at h;obtain rfl:=sI h;have:(a==NameKind.free)=Zc:=by cases a<;>first|rfl|exact absurd rfl b
   dsimp only;rw[this,Eh,Eh,if_neg Av,Bh,hx]
  | false =>
   rw[hx] at h;dsimp only;split
   ·rw[Bh,hx];exact i h
   ·rw[Bh,hx];exact i h
noncomputable def zfn (scope:Scope):Bool:=scope.names.all λp=>!(p.2==NameKind.cell)||decide (scope.names.lookup p.1=Za .cell)
theorem zpm (h:zfn scope=Zd)(a:(x,NameKind.cell)∈scope.names):scope.names.lookup x=Za .cell:=by
 have q:=Be.mp h _ a;simpa using q
theorem zcf:∀(names:List (Str×NameKind)) (n:Nat) (a:List (Str×Zh)),cellsFrom n names a=cellsFrom n names []++a
 |[],_,_=>rfl
 | (x,k)::r,n,a=>by
  unfold cellsFrom;split
  ·rw[zcf r (n+1) ((x,n)::a),zcf r (n+1) [(x,n)],Bb];rfl
  ·exact zcf r n a
theorem zg0:∀(names:List (Str×NameKind)) (n:Nat) {x:Str}{c:Zh},(x,c)∈cellsFrom n names []->(x,NameKind.cell)∈names
 |[],_,_,_,h=>by cases h
 | (y,k)::r,n,x,c,h=>by
  unfold cellsFrom at h;split at h
  ·rename_i a
   rw[zcf] at h;rcases Cq.mp h with h|h
   ·exact Ai _ (zg0 r _ h)
   ·have e:=Ax.mp h
    cases e;have:k=NameKind.cell:=by simpa using a
    rw[this];exact Au
  ·exact Ai _ (zg0 r _ h)
theorem cells_of (h:(cellsFrom n names cl).lookup x=Za c):(cellsFrom n names []).lookup x=Za c\/((cellsFrom n names []).lookup x=Zb/\cl.lookup x=Za c):=by
 rw[zcf,List.lookup_append] at h;cases e:(cellsFrom n names []).lookup x with
 |some d=>rw[e] at h;exact .inl h
 |none=>rw[e] at h;exact .inr ⟨rfl,h⟩
theorem zhz (h:zfn scope=Zd) (a:scope.names.lookup x=Za .free) (b:cl.lookup x=Za c):(cellsFrom n scope.names cl).lookup x=Za c:=by
 rw[zcf,List.lookup_append];cases e:(cellsFrom n scope.names []).lookup x with
 |none=>exact b
 | some d =>
  have:=zpm h (zg0 _ _ (Br e));rw[a] at this;cases this
theorem zxb {scope:Scope}{K:List (Str×Zh)}{cap:List (Option Nat)}{fp:List Zh}{h4:Heap}{tk:Nat}
  (I:Inv X pins σ H3 s3) (W:scope.kind=.function) (s:zhf cap Nc X.N scope=Zd) (G:zgs scope X.env.scope=Zd) (M:zfn scope=Zd)
  (t:∀x c,K.lookup x=Za c->X.env.cells.lookup x=Za c) (U:∀x,(x,NameKind.free)∈scope.names->∃c,K.lookup x=Za c)
  (R:∀b∈fp,FpOk X pins H3 b) (V:∀b∈fp,b<s3.heap.objs.size)
  (S:h4.Ns s3.heap.objs.size (λ_=>Zb)) (f:∀b o,s3.heap.get? b=Za o->h4.get? b=Za o) (J:CellsOk h4 (s3.heap.objs.size+1) (cellsFrom (s3.heap.objs.size+1) scope.names [])) :
  Inv (zbd X Nc scope (cellsFrom (s3.heap.objs.size+1) scope.names K) s3.heap.objs.size s3 H3 fp) [] (capSt cap σ) H3 { s3 with heap:=h4,toks:=tk }:=by
 have B:∀b∈fp,b ∉ frs X.stack:=λb D z=>by
  obtain⟨_,g1,Z,_⟩:=R b D;rcases Ak.mp (I.stkSub b z) with e|e
  ·exact g1 e
  ·exact Z e
 have own:∀x c,(cellsFrom (s3.heap.objs.size+1) scope.names []).lookup x=Za c->h4.IsCell c Zb/\s3.heap.objs.size+1<=c:=λx c h=>J.empty x c (Br h);have E:∀x c,K.lookup x=Za c->c<s3.heap.objs.size:=λx c h=>by
  obtain⟨v,q⟩:=I.cell x c (t x c h);exact q.lt
 refine⟨⟨I.mod,W,I.ok.glob,I.ok.blt,Ae _,λx y c F N=>?_,λx C=>?_,λx c h h'=>?_,I.ok.hd,I.ok.frames,.inl rfl,λb D=>⟨Bc (V b D),λx c h=>?_⟩,
  λb o e=>I.bs b o e,Bz I.ok.bsz I.sz,λb o e D=>?_,B,I.stack,I.stkFree⟩,rfl,I.bare,Un.kept f,⟨_,S,λj x v F N h3=>?_⟩,λx c h=>?_,I.hok.fresh (Ae _),λx c h=>?_,λp hp=>absurd (show p∈([]:List (Zh×Obj)) from hp) (by simp),I.hok.kept f,?_⟩
 ·rcases cells_of F with H|⟨_,H⟩
  ·rcases cells_of N with w|⟨_,w⟩
   ·exact name_of_addr J.apart (Br H) (Br w)
   ·have a:=(own x c H).2;have b:=E y c w;exact absurd (At b (Ga a)) (Ce _)
  ·rcases cells_of N with w|⟨_,w⟩
   ·have a:=(own y c w).2;have b:=E x c H;exact absurd (At b (Ga a)) (Ce _)
   ·exact I.ok.inj x y c (t x c H) (t y c w)
 ·have g:scope.names.lookup x=Za .free\/scope.names.lookup x=Za .cell:=by
   rcases C with C|C
   ·exact zbk (env:=X.env) (.inl rfl) C
   ·exact zbk (env:=X.env) (.inr rfl) C
  rcases g with g|g
  ·obtain⟨c,e⟩:=U x (Br g);exact⟨c,zhz M g e⟩
  ·exact Fo.mp (Fy scope.names _ K (.inl g))
 ·have C:scope.names.lookup x=Za .cell:=Ap h;rcases cells_of h' with z|⟨z,_⟩
  ·exact Ga (own x c z).2
  ·obtain⟨d,e⟩:=cell_has (n:=s3.heap.objs.size+1) C;rw[z] at e;cases e
 ·rcases cells_of h with z|⟨_,z⟩
  ·have a:=(own x c z).2;have:=V b D;exact Ne.symm (Bc (At this (Ga a)))
  ·exact (R b D).2.2.2.2.1 x c (t x c z)
 ·rcases (R b D).2.2.2.1 with z|z
  ·exact I.ok.noex b o e z
  ·have F:b<X.base.objs.size:=Ao e;exact absurd (At F (Bz I.ok.bsz z)) (Ce _)
 ·obtain ⟨i,e1,Y⟩:=capSt_get N;have O:Nc[j]?=Za x:=F;obtain ⟨n1,L⟩:=ztp s e1 O;have vis:Vis X.env.scope x:=by
   rcases zdj G (Br L) with z|z
   ·exact .inr (.inl z)
   ·exact .inr (.inr z)
  obtain⟨m,hn,hl⟩:=I.loc;obtain⟨u,r,l⟩:=hl i x v n1 Y vis;refine⟨u,r,?_⟩;rcases l with⟨Q,_⟩|⟨_,c,e,z⟩
  ·have k:X.env.scope.names.lookup x=Za .local:=Q;rcases zdj G (Br L) with z|z
   ·rw[z] at k;cases k
   ·rw[z] at k;cases k
  ·obtain⟨c', T⟩:=U x (Br L);have:=t x c' T;rw[e] at this;obtain rfl:=sI this;refine .inr ⟨za9 (env:=X.env) L,c,zhz M L T,?_⟩;obtain⟨o,A,P⟩:=z;exact⟨o,f _ _ A,P⟩
 ·rcases cells_of h with z|⟨_,z⟩
  ·exact⟨Zb,(own x c z).1⟩
  ·obtain⟨v,o,A, P⟩:=I.cell x c (t x c z);exact⟨v,o,f _ _ A,P⟩
 ·rcases cells_of h with z|⟨_,z⟩
  ·exact I.hok.fresh (Ga (own x c z).2)
  ·exact I.freeC x c (t x c z)
 ·show (capSt cap σ).length=Nc.length;rw[<-zs3 s];unfold capSt;rw[Ad]
theorem zit
  (a:∀h',h'.Ns s.heap.objs.size (λ_=>Zb)->(∀b o,s.heap.get? b=Za o->h'.get? b=Za o)->CellsOk h' #v[5,10] (cellsFrom #v[5,10] scope.names []) ->
   Q (newEnv scope s.heap.objs.size globals (cellsFrom #v[5,10] scope.names cl) qual Zb .none (Za outer) builtinsNs) { s with heap:=h' }) :
  wpAny M A (newFunctionEnv scope globals cl [] qual Zb .none (Za outer)) Q E s:=by
 simp only [newFunctionEnv,Option.isSome_some,Fe];refine Aa (wpAny_alloc ?_);refine Aa (wpAny_layCells _ (λname kind c=>by cases hkc:kind==NameKind.cell<;>simp [hkc]) _ _ _ _ ?_);have ok:=cellsFrom_ok scope.names (s.heap.push { cls:=.type "dict",data:=.dict #[] }) #v[5,10] [] ⟨λ_ _ h=>(nomatch h),List.Pairwise.nil⟩ (by rw[Dh];exact Ae _);rw[Dh] at ok;rw[show ({ s with heap:=s.heap.push { cls:=.type "dict",data:=.dict #[] } }:Zf).heap.objs.size=s.heap.objs.size+1 from Dh ..];refine Aa ?_;rw[Fb];exact Ar (Ar (a _ ((Heap.Ns.new s.heap (.type "dict")).keeps (pushCells_keeps _ _)) (λb o e=>pushCells_keeps _ _ b o (Ab _ e)) ok))
end
noncomputable abbrev TM:=St->Hp->(St->Hp->Prop)->Prop
noncomputable def PM (X:Cx) (e:Sem Unit) (t:TM):Prop :=
 ∀(pins:List (Zh×Obj)) (s:Zf) (σ:St) (H:Hp) (N:St->Hp->Prop),Inv X pins σ H s->t σ H N ->
  wpAny #v[1,7] X.A e (λ_ c=>∃a b,Inv X pins a b c/\N a b) X.xe s
noncomputable def zqg (e:Zi) (d:Nat) (tg iter:Zi) (ifs:List Zi) (em:Sem Unit) (it acc:Ze) (env:Env):Sem Fin:=do
 standAt iter.pos
 match <- pyNext it with
 |none=>pure (.done .next)
 | some v =>
  letOwnedTupleGo tg it v
  assign tg env v
  let mut ok:=Zd
  for c in ifs do
   if ok then ok <- isTrue c env (eval c env)
  if ok then em
  again (.compLoop e d it acc env)
noncomputable def zns (J:It) (g:TG) (tc:TT) (t:TM) (σ:St) (H:Hp) (Q:St->Hp->Prop):Prop:=∃W:Nat->Nat->St->Hp->Prop,(∃m,W 0 m σ H) /\
 ∀i m σc d,W i m σc d->(J.stop i d/\Q σc d)\/(J.go i d/\∃N:St->Hp->Prop,(∀c a,N c a->∃e,e<m/\W (i+1) e c a)/\∀x a,J.yld i d x a->g x σc a λσ2 h =>
  tc σ2 h λb f=>if b=Zd then t σ2 f N else N σ2 f)
noncomputable def zre (w:TI) (cap:List (Option Nat)) (g:TG) (tc:TT) (t:Zh->TM):TE:=λσ H Q=>w σ H λJ b=>∀a,b a=Zb->zns J g tc (t a) (capSt cap σ) (upd b a (.lst [])) λ_ c=>Q (.ref a) c
section
theorem zu6
  (E:∀v s,¬ X.xe v s) (Q:X.calm=Zd) (ht:compTurn #v[3,9] d (.ref it) acc X.env=zqg #v[3,9] d tg iter ifs em (.ref it) acc X.env)
  (hg:PG X tg g) (hs:PTs X ifs tc) (C:PM X em tm) (I:Inv X pins σ H s) (T:Turn X.prog X.w X.K tg J fp it tn) (st:tn 0 s.heap) (f:∀b∈fp,FpOk X pins H b)
  (hW:zns J g tc tm σ H N0)
  (hR:∀a H' s',Inv X pins a H' s'->N0 a H'->R (.ok .next) s'):codeAny #v[1,7] X.A (.compLoop #v[3,9] d (.ref it) acc X.env) R s:=by
 have c:∀{H':Hp},(∀b∈fp,H' b=Zb)->∀b∈fp,FpOk X pins H' b:=λhn b k=>⟨hn b k,(f b k).2⟩;nofun;obtain⟨W,⟨m0,V⟩,turn⟩:=hW;ac_rfl;refine codeAny_loop rfl (λn s'=>∃i a H',Inv X pins a H' s'/\tn i s'.heap/\(∀b∈fp,H' b=Zb)/\W i n a H') ?_ m0 ⟨0,σ,H,I,st,λb k=>(f b k).1,V⟩;rintro n F ⟨i,j,y,P,q,w,w3⟩;show wpAny _ X.A ((compTurn #v[3,9] d (.ref it) acc X.env).onRaise (λx=>do noteFrame x X.env;theTreesLotGoes x)) _ _ F;refine wpAny_noted ?_;rw[ht];unfold zqg;refine Aa (wpAny_standAt (Aa ?_));rcases turn i n j y w3 with⟨stop,qn⟩|⟨go,N,Y,step⟩
 ·refine Cs (T.done X rfl rfl rfl Q i pins F j y (λ_ _=>False) P (c w) q stop) (λr O ⟨G,I4⟩ => ?_) λ_ _ z=>z.elim;subst G;exact Ar (hR j y O I4 qn)
 ·refine Cs (T.item X rfl rfl rfl Q i pins F j y (λ_ _=>False) P (c w) q go) (λr O ⟨u,G,h4⟩ => ?_) λ_ _ z=>z.elim;subst G;refine Aa (Cs h4 (λ_ U ⟨x,M,I5,r5,y5,l,K⟩=>?_) λ_ _ z=>z.elim);have D:=I5.pinned (c K) (T.obj _ _ l);refine Aa (Cs (hg _ U j M x u _ D r5 (step x M y5)) (λ_ s6 ⟨t,H6,I6,q6⟩=>?_) λv s z=>(E v s z).elim);refine Aa (Cs (hs _ s6 t H6 _ I6 q6) (λok s7 ⟨H7,L,S⟩=>?_) λv s z=>(E v s z).elim);have again:∀{A:Zf}{h:St}{p:Hp},Inv X (pins++zkr fp U.heap) h p A->N h p->∃m,m<n/\∃i a H',Inv X pins a H' A/\tn i A.heap/\(∀b∈fp,H' b=Zb)/\W i m a H':=λ{A h p} B nx=>by
   obtain⟨m',C,wx⟩:=Y h p nx;refine⟨m',C,i+1,h,p,B.unpinned,T.keep _ _ _ l λb k o e=>(B.pin (b,o) (Ay _ (Ay _ (zdg k e)))).1,λb k=>?_,wx⟩;obtain⟨o,e,d⟩:=T.obj _ _ l b k;exact (B.pin (b,o) (Ay _ (Ay _ (zdg k e)))).2.1
  cases ok with
  |false=>exact Ar ⟨rfl,again L S⟩
  |true=>exact Aa (Cs (C _ s7 t H7 N L S) (λ_ s8 ⟨σ8,H8,Z,n8⟩=>Ar ⟨rfl,again Z n8⟩) λv s z=>(E v s z).elim)
noncomputable def zyv (a:Zh) (te:TE):TM:=λσ H N=>te σ H λy c=>∃b,c a=Za (.lst b)/\b.length<sizeLine/\N σ (upd c a (.lst (b++[y])))
noncomputable def z25 (elt:Zi) (a:Ze) (env:Env):Sem Unit:=do let _ <- call (.builtin "list.append") [a,<-eval elt env]
theorem z60 (n:PE X elt te):PM X (z25 elt (.ref acc) X.env) (zyv acc te):=by
 intro pins s σ H N I h;unfold z25;refine Aa (thn (n pins s σ H _ I h) λi a ⟨y,e,b,r,j,l,m,f⟩=>?_);refine Aa (thn (zgh _ a σ e (.ref acc) [y] _ [i] (λ_ k=>N σ k) b rfl (.cons r .nil) ⟨_,j,y,rfl,rfl,l,m,f⟩) λ_ g ⟨_,c,d,_,q⟩=>?_);exact Ar ⟨σ,c,d,q⟩
end
theorem HOk.but (x:HOk P w H h)(f:H a=Zb)(g:Heap.SameBut a h h'):HOk P w H h':=λb o e=>by
 refine (x b o e).stay (λc i d q=>(g.2 c ?_).trans q) (λ_ q=>q) λ_ _ q=>q;rintro rfl;rcases d with rfl|d
 ·rw[f] at e;cases e
 ·rw[f] at d;cases d
section
theorem zhw {elt tg iter:Zi}{ifs:List Zi}{gs:List Comprehension}{scope:Scope}{pos:Pos}{f:List (Str×Zh)}{Nc:List Str}{cap:List (Option Nat)}{g:TG}{tc:TT}{em:Ze->Env->Sem Unit}{tm:Zh->TM}{pins:List (Zh×Obj)}{σ:St}{H:Hp}{s:Zf}{it:Zh}{fp:List Zh}{S:Nat->Heap->Prop}{J:It}{Q:VK}{RR:Ze->Zh->Result->Zf->Prop}{E:Ze->Zf->Prop}
  (hc:X.calm=Zd) (hk:scope.kind=.function) (A:zhf cap Nc X.N scope=Zd) (N:zgs scope X.env.scope=Zd) (P:zfn scope=Zd)
  (r:∀it a env,compTurn #v[4,7] 0 it a env=zqg #v[4,7] 0 tg iter ifs (em a env) it a env)
  (hg:∀f C y w fp,PG (zbd X Nc scope f C y w fp) tg g) (ht:∀f C y w fp,PTs (zbd X Nc scope f C y w fp) ifs tc) (hm:∀f C y w fp a,PM (zbd X Nc scope f C y w fp) (em (.ref a) (zbd X Nc scope f C y w fp).env) (tm a))
  (c1:∀x c,f.lookup x=Za c->X.env.cells.lookup x=Za c) (c2:∀x,(x,NameKind.free)∈scope.names->∃c,f.lookup x=Za c)
  (I2:Inv X pins σ H s) (T:Turn X.prog X.w X.K tg J fp it S) (t:S 0 s.heap) (f2:∀b∈fp,FpOk X pins H b)
  (hW:∀a,H a=Zb->zns J g tc (tm a) (capSt cap σ) (upd H a (.lst [])) λ_ Hc=>Q (.ref a) Hc)
  (hR:∀a C s' H',(∃m,s'.heap.Ns C m)->(∀h',Heap.SameBut C s'.heap h'->Inv X pins σ H' { s' with heap:=h' })->FpOk X pins H' C->Q (.ref a) H'->RR (.ref a) C (.ok .next) s') :
  wpAny #v[1,7] X.A (newList []) (λa K=>wpAny #v[1,7] X.A (newFunctionEnv scope X.env.globals f [] X.env.qual Zb .none (Za X.env)) (λl F =>
   codeAny #v[1,7] X.A (.compStart #v[4,7] 0 (.ref it) a { l with scope:=relabel scope X.env }) (RR a l.locals) F) E K) E s:=by
 refine Ed (zit λi d k q=>?_);dsimp only at d k q ⊢;have G:H s.heap.objs.size=Zb:=I2.hok.fresh (Ae _);have M:Inv X pins σ (upd H s.heap.objs.size (.lst [])) { s with heap:=s.heap.push { cls:=.type "list",dict:=Zb,data:=.seq ([]:List Ze).toArray },toks:=s.toks } :=
  I2.laid (t':=s.toks) (λb u e=>Ab _ e) (Ae _) ⟨by simp,[],0,.nil,Aq _ rfl⟩
 have O:=hW s.heap.objs.size G;generalize hH:s.heap.push { cls:=.type "list",dict:=Zb,data:=.seq ([]:List Ze).toArray }=hp at d k q M ⊢;have f3:∀b∈fp,FpOk X pins (upd H s.heap.objs.size (.lst [])) b:=λb h=>by
  obtain⟨o,W,_⟩:=T.obj _ _ t b h;exact⟨by rw[upd_ne (Bc (Ao W))];exact (f2 b h).1,(f2 b h).2⟩
 have up:∀b o,s.heap.get? b=Za o->hp.get? b=Za o:=λb o e=>hH ▸ Ab _ e;have L:=zxb (Nc:=Nc) (cap:=cap) (fp:=fp) (h4:=i) (tk:=s.toks) M hk A N P c1 c2 f3 (λb h=>by
  obtain⟨o,W,_⟩:=T.obj _ _ t b h;exact Ao (up b o W)) d k q
 have D:S 0 i:=T.keep _ _ _ t λb _ o e=>k b o (up b o e);have loop:codeAny #v[1,7] X.A (.compLoop #v[4,7] 0 (.ref it) (.ref s.heap.objs.size) (compEnvC scope (cellsFrom (hp.objs.size+1) scope.names f) hp.objs.size X.env)) (RR (.ref s.heap.objs.size) hp.objs.size) { s with heap:=i,toks:=s.toks }:=by
  refine zu6 (X:=zbd X Nc scope (cellsFrom (hp.objs.size+1) scope.names f) hp.objs.size { s with heap:=hp,toks:=s.toks } (upd H s.heap.objs.size (.lst [])) fp) (λ_ _ z=>z) hc (r _ _ _) (hg _ _ _ _ _) (ht _ _ _ _ _) (hm _ _ _ _ _ _) L T D
   (λb h=>⟨(f3 b h).1,(L.ok.exf b h).1,L.ok.exfs b h,.inl h,(L.ok.exf b h).2,λp Z=>absurd (show p∈([]:List (Zh×Obj)) from Z) (by simp)⟩) O λσ5 R s6 I qn=>?_
  obtain⟨m6,V,_⟩:=I.loc;have fC:R hp.objs.size=Zb:=I.free;refine hR _ _ _ R ⟨m6,V⟩ (λh' j=>?_) (M.fpOk (Ae _) fC) qn;refine M.call' (s':={ s6 with heap:=h' }) (ch:=fp) I.os ?_ (I.hok.but fC j) I.bare λb h=>⟨(f3 b h).2.2.2.1,(f3 b h).2.1,(f3 b h).2.2.2.2.1,(f3 b h).2.2.2.2.2⟩;have U:Un (frs X.stack) fp (upd H s.heap.objs.size (.lst [])) R hp s6.heap:=I.base;have Y:∀b o,hp.get? b=Za o->b≠hp.objs.size:=λb o e=>Bc (Ao e);exact⟨λb o e n h B=>(j.2 b (Y b o e)).trans (U.keep b o e n h B),λb o e n h B=>let ⟨sl,z⟩:=U.slot b o e n h B;⟨sl,(j.2 b (Y b o e)).trans z⟩,U.free,λb o e B=>let ⟨o',z⟩:=U.there b o e B;⟨o',(j.2 b (Y b o e)).trans z⟩,U.tups,U.frzs,U.tbls⟩
 exact codeAny_compStart_list loop (T.self _ 0 _ _ _ D loop)
theorem z4b {elt tg iter:Zi}{ifs:List Zi}{gs:List Comprehension}{scope:Scope}{pos:Pos}{Nc:List Str}{cap:List (Option Nat)}{y:TI}{g:TG}{tc:TT}{w:Ze->Env->Sem Unit}{A:Zh->TM} (V:PI X tg iter y)
  (E:∀d C j i fp,PG (zbd X Nc scope d C j i fp) tg g) (M:∀d C j i fp,PTs (zbd X Nc scope d C j i fp) ifs tc) (n:∀d C j i fp a,PM (zbd X Nc scope d C j i fp) (w (.ref a) (zbd X Nc scope d C j i fp).env) (A a))
  (f:∀it a env,compTurn #v[4,7] 0 it a env=zqg #v[4,7] 0 tg iter ifs (w a env) it a env)
  (N:X.calm=Zd:=by rfl) (z:scope.kind=.function:=by rfl) (l:zhf cap Nc X.N scope=Zd:=by rfl) (k:zgs scope X.env.scope=Zd:=by rfl) (p:zfn scope=Zd:=by rfl)
  (o:(scope.names.all λp=>!(p.2 == NameKind.local) || decide (scope.names.lookup p.1=some .local))=Zd:=by rfl)
  (L:∀x,foldedSetIterable iter X.env x=pure x:=by intro _;rfl):PE X #v[4,7] (zre y cap g tc A):=by
 intro pins s σ H Q I h;rw[eval_ListComp];nofun;obtain⟨d,c,B,G⟩:=zc1 (env:=X.env) (scope:=scope) λx t=>I.ok.has x (zdj k t);ac_rfl;have b:∀x∈scope.names,x.2=.local->scope.names.lookup x.1=Za .local:=λx t e=>by
  have q:=Be.mp o _ t;simpa [e] using q
 refine wpAny_comprehension_free (use:=Zb) rfl L c z b (thn (V pins s σ H _ I h) λv s1 D=>thn D λU Y P=>?_);nofun;obtain⟨it,fp,tn,J,Z,e,W,T,u,O,F⟩:=P;ac_rfl;subst e;refine zhw (RR:=λa C=>compPost #v[1,7] X.A X.xe Zb (EP X pins σ Q) a C) N z l k p f E M n B G W T u O F ?_;intro a C s' K ⟨m,n⟩ R hC q;exact⟨m,n,λS r=>⟨.ref a,K,R S r,rfl,q⟩⟩
theorem z3j {y:Str}{t:Pos}{f:Pos}{i:Nat}{elt tg iter:Zi}{ifs:List Zi}{gs:List Comprehension}{scope:Scope}{pos:Pos}{Nc:List Str}{cap:List (Option Nat)}{V:TI}{g:TG}{tc:TT}{U:Ze->Env->Sem Unit}{Z:Zh->TM} (hN:X.N.Nodup) (N:X.N[i]?=Za y) (hy:Loc X.env.scope y) (hi:PI X tg iter V)
  (hg:∀l C u r fp,PG (zbd X Nc scope l C u r fp) tg g) (ht:∀l C u r fp,PTs (zbd X Nc scope l C u r fp) ifs tc) (E:∀l C u r fp c,PM (zbd X Nc scope l C u r fp) (U (.ref c) (zbd X Nc scope l C u r fp).env) (Z c))
  (p:∀it c env,compTurn #v[4,7] 0 it c env=zqg #v[4,7] 0 tg iter ifs (U c env) it c env)
  (G:swapsWith #v[4,7] (Za (.Name y t)) f.line X.env=pure Zd:=by rfl)
  (hc:X.calm=Zd:=by rfl) (Y:scope.kind=.function:=by rfl) (B:zhf cap Nc X.N scope=Zd:=by rfl) (w:zgs scope X.env.scope=Zd:=by rfl) (L:zfn scope=Zd:=by rfl)
  (F:(scope.names.all λp=>!(p.2 == NameKind.local) || decide (scope.names.lookup p.1=some .local))=Zd:=by rfl)
  (hs:∀x,foldedSetIterable iter X.env x=pure x:=by intro _;rfl) (hf:X.fn y=Zd\/X.env.scope.names.lookup y=Za .local:=by first|exact .inl rfl|exact .inr rfl|assumption) :
  PS X (.Assign [.Name y t] #v[4,7] f) (tAsg (zre V cap g tc Z) (ze9 i)):=by
 intro pins s σ H D I h;nofun;obtain⟨l,j,c1,c2⟩:=zc1 (env:=X.env) (scope:=scope) λx P=>I.ok.has x (zdj w P);ac_rfl;have d:∀x∈scope.names,x.2=.local->scope.names.lookup x.1=Za .local:=λx P e=>by
  have q:=Be.mp F _ P;simpa [e] using q
 rw[exec_Assign_Name_used _ _ _ _ G];refine Aa (wpAny_standAt (Aa ?_));show wpAny _ X.A (do let _ <- comprehension #v[4,7] scope X.env _ (newList []) Zc (eval iter X.env) (Za (assign (.Name y t) X.env))) _ _ s;refine Aa (Cs (wpAny_comprehension_free (use:=Za (assign (.Name y t) X.env)) (Q:=λ_ n=>SP X pins D .next n) rfl hs j Y d
  (thn (hi pins s σ H _ I h) λv s1 h1=>thn h1 λitv s2 h2=>?_)) (λ_ n hq=>Ar (Ar hq)) λ_ _ e=>e)
 nofun;obtain⟨it,fp,tn,J,H2,e,I2,T,R,f2,hW⟩:=h2;ac_rfl;subst e;refine zhw (Q:=λx H1=>D.nx (σ.set i (Za x)) H1) (RR:=λc C=>compPost #v[1,7] X.A X.xe (Za (assign (.Name y t) X.env)) (λ_ n=>SP X pins D .next n) c C) hc Y B w L p hg ht E c1 c2 I2 T R f2 hW ?_;intro c C n W ⟨m,E⟩ hI k q;show wpAny _ X.A (assign (.Name y t) X.env (.ref c)) _ _ _;have I':Inv X pins σ W n:=hI n.heap (.refl ..);refine wpAny_assign_Name (zk6 I' hN N hy (v:=.ref c) rfl (λS M ⟨a,O,K⟩=>?_) hf);have ne:C≠a:=by
  rcases K with rfl|K
  ·exact k.2.1
  ·exact λz=>k.2.2.2.2.1 y a K z.symm
 refine⟨m,E.sameBut O ne,λh' A=>⟨_,W,?_,q⟩⟩;exact M.turned (t':=S.toks) (λb o hb e=>(A.2 b hb).trans e) k.1 k.2.1 k.2.2.2.1 k.2.2.2.2.1 k.2.2.2.2.2
end
section
theorem Inv.turnLay {ch:List Zh}{T:Zh}{o:HO} (I:Inv X pins σ H s) (k:∀b o,b ∉ ch->s.heap.get? b=Za o->h'.get? b=Za o) (y:∀b∈ch,∃l,h'.get? b=Za l) (h:∀b∈ch,FpOk X pins H b) (i:s.heap.objs.size<=T)
  (new:zbh X.prog X.w (upd H T o) h' T o):Inv X pins σ (upd H T o) { s with heap:=h',toks:=t' }:=by
 have g:H T=Zb:=I.hok.fresh i;have ne:∀b u,s.heap.get? b=Za u->b≠T:=λb u e=>Bc (At (Ao e) i);have f:∀b u,H b=Za u->b ∉ ch:=λb u e a=>by rw[(h b a).1] at e;cases e
 refine I.step (g':=s.gens) (d':=s.drawn) (ch:=ch) (λb a=>⟨(h b a).2.2.2.1,(h b a).2.1,(h b a).2.2.2.2.1,(h b a).2.2.2.2.2⟩) (λb o _ _ d e _=>k b o d e) (λb o _ _ d e _=>⟨o.slots,k b o d e⟩) (λb u _ e n=>by rw[upd_ne (ne b u e)];exact n)
  (λb u d e=>⟨u,k b u d e⟩) (λb x e=>by rw[upd_ne (zac e g)];exact e) (λb u x e=>by rw[upd_ne (zac e g)];exact e) (λb A e=>⟨#[],by rw[upd_ne (zac e g),e];simp⟩) (λm p=>?_) (λb u e=>?_) I.bare
 ·obtain⟨o,t,w,j,r⟩:=p;exact⟨o,t,w,k _ o (λz=>(h _ z).2.1 rfl) j,r⟩
 ·by_cases a:b=T
  ·subst a;rw[upd_same] at e;obtain rfl:=sI e;exact new
  ·rw[upd_ne a] at e;refine (I.hok b u e).stay (λc v d q=>k c v ?_ q) (λc q=>by rw[upd_ne (zac q g)];exact q) λc x q=>by rw[upd_ne (zac q g)];exact q
   rcases d with z|z
   ·rw[z];exact f b u e
   ·exact f c _ z
theorem Inv.turnL {h':Heap}{t':Nat}{ch:List Zh}(I:Inv X pins σ H s)(k:∀b o,b ∉ ch->s.heap.get? b=Za o->h'.get? b=Za o)(h:∀b∈ch,FpOk X pins H b):Inv X pins σ H { s with heap:=h',toks:=t' }:=by
 have f:∀b u,H b=Za u->b ∉ ch:=λb u e d=>by rw[(h b d).1] at e;cases e
 refine I.step (g':=s.gens) (d':=s.drawn) (ch:=ch) (λb d=>⟨(h b d).2.2.2.1,(h b d).2.1,(h b d).2.2.2.2.1,(h b d).2.2.2.2.2⟩) (λb o _ _ a e _=>k b o a e) (λb o _ _ a e _=>⟨o.slots,k b o a e⟩) (λb u _ e n=>n)
  (λb u a e=>⟨u,k b u a e⟩) (λb x e=>e) (λb u x e=>e) (λb p e=>⟨#[],by rw[e];simp⟩) (λm i=>?_) (λb u e=>?_) I.bare
 ·obtain⟨o,j,l,g,r⟩:=i;exact⟨o,j,l,k _ o (λz=>(h _ z).2.1 rfl) g,r⟩
 ·refine (I.hok b u e).stay (λc v a q=>k c v ?_ q) (λc q=>q) λc x q=>q;rcases a with z|z
  ·rw[z];exact f b u e
  ·exact f c _ z
end
noncomputable def Ite (K:Zg) (a:Zh):It :=
 ⟨λi H=>∃b x,SqL K H a b/\b[i]?=Za x,λi H x c=>∃p v,x=.ref p/\H p=Zb/\c=upd H p (.tup [.int i,v])/\∀b,SqL K H a b->b[i]?=Za v,λi H=>∃b,SqL K H a b/\b.length<=i⟩
theorem zux {K:Zg}{es:List Zi}{W}{px:Pos}(a e it:Zh)(A:e≠it):Turn P w K (.Tuple es W px) (Ite K a) [e,it] e (λi h=>(∃g,IsEnum h e it i g)/\h.IsListIter it a i) where
 mem:=by simp
 obj:=λi h m b f=>by
  nofun;obtain⟨⟨g,n⟩,o,hi,c,d⟩:=m;ac_rfl;rcases Ak.mp f with rfl|f
  ·exact⟨_,n,λv z=>by cases z⟩
  ·have:b=it:=by simpa using f
   subst this;exact⟨o,hi,λv z=>by rw[d] at z;cases z⟩
 keep:=λi h U m k=>⟨let ⟨g,n⟩:=m.1;⟨g,k e (by simp) _ n⟩,m.2.at λo z=>k it (by simp) o z⟩
 item:=by
  intro X Q M N T i pins s σ H E I G m L;subst Q M N;nofun;obtain⟨xs,x,F,R⟩:=L;obtain⟨J,O,p,hz⟩:=I.list F;obtain⟨u,V,ru⟩:=O.get R;obtain⟨⟨g,n⟩,r⟩:=m;ac_rfl;refine wpAny_pyNext_enum_item n r p.isList (x:=u) (by simpa using V) A λU Y B hT hsz hk=>⟨_,rfl,?_⟩;refine wpAny_letOwnedTupleGo_enum Y λC t j=>?_;have kk:∀b o,b ∉ [e,it]->s.heap.get? b=Za o->C.get? b=Za o:=λb o f q=>by
   have S:b≠e:=λz=>f (by simp [z]);have h2:b≠it:=λz=>f (by simp [z]);exact (j.2 b S).trans (hk b o S h2 q)
  have D:s.heap.objs.size≠e:=λz=>absurd (Ao n) (by rw[z];exact Ce _);have l:C.IsListIter it a (i+1):=B.at λo y=>(j.2 it A.symm).trans y;refine⟨.ref s.heap.objs.size,upd H s.heap.objs.size (.tup [.int i,x]),I.turnLay kk (λb f=>?_) G (Ae _) ⟨by show 2<=sizeLine;decide,[.int i s.toks,u],.cons ⟨_,rfl⟩ (.cons ru .nil),?_⟩,rfl,⟨_,x,rfl,I.hok.fresh (Ae _),rfl,λys Z=>by rw[I.list_inj Z F];exact R⟩,⟨⟨_,by simpa using t⟩,l⟩,λb f=>?_⟩
  ·rcases Ak.mp f with rfl|f
   ·exact⟨_,t⟩
   ·have:b=it:=by simpa using f
    subst this;obtain⟨o,z,_⟩:=l;exact⟨o,z⟩
  ·exact⟨_,(j.2 _ D).trans hT,⟨rfl,_,rfl⟩,rfl⟩
  ·have:b≠s.heap.objs.size:=by
    rcases Ak.mp f with rfl|f
    ·exact D.symm
    ·have e2:b=it:=by simpa using f
     subst e2;obtain⟨o,z,_⟩:=r;exact Bc (Ao z)
   rw[upd_ne this];exact (G b f).1
 done:=by
  intro X Q M N T i pins s σ H E I G m L;subst Q M N;nofun;obtain⟨xs,F,R⟩:=L;obtain⟨J,O,p,hz⟩:=I.list F;obtain⟨⟨g,n⟩,r⟩:=m;obtain⟨f0,f1,f2,f3,f4,f5⟩:=G it (by simp);ac_rfl;have hl:=O.length;exact wpAny_pyNext_enum_end (I.ok.hd T) n r p.isList (Em (by simp;symm)) λU eb=>⟨rfl,I.turned (t':=s.toks) (λb o f e=>eb b o f e) f0 f1 f3 f4 f5⟩
 self:=λ_ _ _ _ _ m h=>let ⟨_,n⟩:=m.1;Hi n h
section
end
noncomputable def Itv (K:Zg) (a:Zh) (n:Nat):It :=
 ⟨λi H=>i<n/\∃b,SqL K H a b/\b.length=n,λi H x c=>c=H/\∀b,SqL K H a b->b[n-1-i]?=Za x,λi H=>i=n⟩
theorem zy0 {K:Zg}(a it:Zh)(n:Nat):Turn P w K tg (Itv K a n) [it] it (λi h=>h.IsRevIter it a ((n:Int)-1-(i:Int))) where
 mem:=by simp
 obj:=λi h g b j=>by
  have e:b=it:=by simpa using j
  subst e;nofun;obtain⟨o,e,c,d⟩:=g;ac_rfl;exact⟨o,e,λv z=>by rw[d] at z;cases z⟩
 keep:=λi h m g k=>g.at λo e=>k it (by simp) o e
 item:=by
  intro X C y A L i pins s σ H E I q g r;subst C y A;nofun;obtain⟨hi,Y,J,hn⟩:=r;ac_rfl;have l:n-1-i<Y.length:=by symm
  nofun;obtain⟨M,U,p,hz⟩:=I.list J;obtain⟨u,N,W⟩:=U.get (Ac l);obtain⟨B,D,V,f3,F,G⟩:=q it (by simp);ac_rfl;have e:(n:Int)-1-(i:Int)=((n-1-i:Nat):Int):=by symm
  have f:=g;rw[e] at f;refine wpAny_pyNext_rev_item f p.isList (x:=u) (by simpa using N) λm f R=>?_;have O:Inv X pins σ H { s with heap:=m }:=I.turned (t':=s.toks) (λb o j e=>(R.2 b j).trans e) B D f3 F G;nofun;obtain⟨o,T,c,d⟩:=id f;ac_rfl;have Q:((n-1-i:Nat):Int)-1=(n:Int)-1-((i+1:Nat):Int):=by symm
  rw[Q] at f;exact⟨u,rfl,zzi (s:={ s with heap:=m }) T c d (by decide) ⟨_,H,O,W,⟨rfl,λys S=>by rw[I.list_inj S J];exact Ac l⟩,f,λb j=>(q b j).1⟩⟩
 done:=by
  intro X C y A L i pins s σ H E I q g r;subst C y A;have t:i=n:=r;subst t;nofun;obtain⟨B,D,V,f3,F,G⟩:=q it (by simp);ac_rfl;have e:(i:Int)-1-(i:Int)=-1:=by symm
  rw[e] at g;exact wpAny_pyNext_rev_end (I.ok.hd L) g λm Z=>⟨rfl,I.turned (t':=s.toks) (λb o j e=>Z b o j e) B D f3 F G⟩
 self:=λ_ _ _ _ _ g h=>wpAny_pyIter_revIter g h
section
noncomputable def iRev (K:Zg) (t:TA):TI:=λσ H R=>t σ H λv b=>∃a x,v=[.ref a]/\SqL K b a x/\R (Itv K a x.length) b
theorem z9f (k:Gl X "reversed") (j:X.mg "reversed" = Zb) (y:PA X [l] tl) (n:starEach [l] X.env=[(Zc,eval l X.env)]:=by rfl) :
  PI X tg (.Call (.Name "reversed" p) [l] [] pos) (iRev X.K tl):=by
 intro pins s σ H R I h;refine Call_ (zdq I k j boot_reversed (Ck (thn (y pos pins s σ H _ I h) λE c ⟨D,g,f,z,v⟩=>?_) n rfl));nofun;obtain⟨a,x,e,m,q⟩:=v;ac_rfl;subst e;cases z with
 | cons r B =>
  cases B;cases r;nofun;obtain⟨i,t,w,C⟩:=f.list m;ac_rfl;refine call_reversed_list w.isList ?_;have d:(c.heap.push (revObj a ((i.toArray.size:Int)-1))).IsRevIter c.heap.objs.size a ((i.toArray.size:Int)-1):=⟨_,Aq _ rfl,rfl,rfl⟩;refine wpAny_pyIter_revIter d ?_;refine⟨c.heap.objs.size,[c.heap.objs.size],_,_,g,rfl,f.kept (t':=c.toks) λb o e=>Ab _ e,zy0 a _ x.length,?_,λb A=>?_,q⟩
  ·have e:((i.toArray.size:Int)-1)=(x.length:Int)-1-((0:Nat):Int):=by have:=t.length;simp;symm
   rw[e] at d;have u:((i.toArray.size:Int)-1)=(x.length:Int)-1-((0:Nat):Int):=e;dsimp only;rw[<-u];exact⟨_,Aq _ rfl,rfl,rfl⟩
  ·have e:b=c.heap.objs.size:=by simpa using A
   subst e;exact f.fpOk (Ae _) (f.hok.fresh (Ae _))
end
section
variable {κ:Type} [DecidableEq κ]
end
section
end
section
end
section
end
section
end
section
end
section
end
section
end
section
end
section
end
section
variable {X:Cx}
theorem z85 {bs:List Bool}{a:List Ze}{i:Nat}{v:Ze}(r:Vals (bs.map V.bl) a)(h:a[i]?=Za v):∃b,bs[i]?=Za b/\v=.bool b:=by
 have e:=r.length;rw[Ad] at e;have d:i<bs.length:=by rw[e];exact (Ag.mp h).1
 obtain⟨u,c,f⟩:=r.get (i:=i) (x:=.bl bs[i]) (by rw[Am,Ac d];rfl);rw[h] at c;obtain rfl:=sI c;exact⟨bs[i],Ac d,f⟩
theorem ziz {bs:List Bool}(h:i<bs.length):bs.getD i Zc=bs[i]:=by rw[Bu,Ac h];rfl
theorem zsy (bs:List Bool):((List.range bs.length).any λi=>bs.getD i Zc)=bs.any id:=by
 rw[Fq,List.any_eq_true,List.any_eq_true];constructor
 ·rintro ⟨i,a,h⟩;rw[Bo] at a;refine⟨bs[i],List.getElem_mem a,?_⟩;rw[ziz a] at h;exact h
 ·rintro ⟨b,c,h⟩;obtain⟨i,a,e⟩:=Dy.mp c;refine⟨i,Bo.mpr a,?_⟩;rw[ziz a,e];exact h
theorem zto (bs:List Bool):((List.range bs.length).all λi=>bs.getD i Zc)=bs.all id:=by
 rw[Fq,Be,Be];constructor
 ·intro h b c;obtain⟨i,a,e⟩:=Dy.mp c;have:=h i (Bo.mpr a);rw[ziz a,e] at this;exact this
 ·intro h i a;rw[Bo] at a;rw[ziz a];exact h _ (List.getElem_mem a)
theorem znz {A:Around}{bs:List Bool}{a:List Ze}(r:Vals (bs.map V.bl) a):TruthOf P w A (λi v=>a.toArray[i]?=Za v) (λi=>bs.getD i Zc):=λi v s Q E f d=>by
 obtain⟨b,c,e⟩:=z85 r (by simpa using f);subst e;have:bs.getD i Zc=b:=by rw[Bu,c];rfl
 have h:Q (bs.getD i Zc) s:=d;rw[this] at h;exact Cu h
theorem zy5 (f:X.calm=Zd):zdo X (.builtin "any") (λxs H Q=>∃(a:Zh) (bs:List Bool),xs=[.ref a]/\SqL X.K H a (bs.map V.bl)/\Q (.bl (bs.any id)) H):=by
 intro pins s σ H xs n Q I r h;obtain⟨a,bs,rfl,m,q⟩:=h;obtain⟨u,rfl,g⟩:=vals1 r;cases g;obtain⟨i,d,p,v⟩:=I.list m;have l:=d.length;rw[Ad] at l;have j:a<s.heap.objs.size:=by obtain⟨o,e,_⟩:=p.isList;exact Ao e
 refine call_any_walk (Ec p.isList ?_);refine⟨s.heap.objs.size,_,[s.heap.objs.size],i.toArray.size,_,_,_,rfl,Walks.list (A:=X.A.in1) (show X.A.in1.handled=Zb from I.ok.hd f) _ a (Bc j) i.toArray,⟨⟨_,Aq _ rfl,rfl,rfl⟩,p.isList.push _⟩,znz d,λt w k=>?_⟩;have e:i.toArray.size=bs.length:=by simp;symm
 rw[e,zsy];refine⟨.bl _,H,I.kept λb o c=>?_,rfl,q⟩;exact k b o (by intro z;rw[Ax] at z;subst z;exact absurd (Ao c) (Ce _)) (Ab _ c)
theorem zvi (f:X.calm=Zd):zdo X (.builtin "all") (λxs H Q=>∃(a:Zh) (bs:List Bool),xs=[.ref a]/\SqL X.K H a (bs.map V.bl)/\Q (.bl (bs.all id)) H):=by
 intro pins s σ H xs n Q I r h;obtain⟨a,bs,rfl,m,q⟩:=h;obtain⟨u,rfl,g⟩:=vals1 r;cases g;obtain⟨i,d,p,v⟩:=I.list m;have l:=d.length;rw[Ad] at l;have j:a<s.heap.objs.size:=by obtain⟨o,e,_⟩:=p.isList;exact Ao e
 refine call_all_walk (Ec p.isList ?_);refine⟨s.heap.objs.size,_,[s.heap.objs.size],i.toArray.size,_,_,_,rfl,Walks.list (A:=X.A.in1) (show X.A.in1.handled=Zb from I.ok.hd f) _ a (Bc j) i.toArray,⟨⟨_,Aq _ rfl,rfl,rfl⟩,p.isList.push _⟩,znz d,λt w k=>?_⟩;have e:i.toArray.size=bs.length:=by simp;symm
 rw[e,zto];refine⟨.bl _,H,I.kept λb o c=>?_,rfl,q⟩;exact k b o (by intro z;rw[Ax] at z;subst z;exact absurd (Ao c) (Ce _)) (Ab _ c)
theorem zyd:zdo X (.builtin "isinstance") (λxs H Q=>∃x t c b,xs=[x,.ty c]/\TyOf X.K H x t/\PySem.W.kitOne X.K t (.type c)=Za b/\Q (.bl b) H):=by
 intro pins s σ H xs j Q I r h;nofun;obtain⟨x,t,c,b,rfl,g,e,q⟩:=h;ac_rfl;cases r with
 | cons a f =>
  obtain⟨u,rfl,d⟩:=vals1 f;cases (show u=Ze.type c from d);exact zrw I a g e λi=>⟨.bl b,H,I.tok _,rfl,q⟩
theorem z7v:OpR X (compareOp .Is) (λx y H Q=>∃b,y=.bl b/\Q (.bl (decide (x=.bl b))) H):=by
 intro pins s σ H x y v u Q I r a h;obtain⟨b,rfl,q⟩:=h;cases a;cases x with
 |bl c=>cases r;exact Ep rfl (zae I q (by cases b<;>cases c<;>rfl))
 |non=>cases r;exact Ep rfl (zae I q (by cases b<;>rfl))
 |ref _=>cases r;exact Ep rfl (zae I q (by cases b<;>rfl))
 |ty _=>cases r;exact Ep rfl (zae I q (by cases b<;>rfl))
 |int _=>obtain⟨t,e⟩:=r;subst e;exact Ep rfl (zae I q (by cases b<;>rfl))
 |str _=>obtain⟨t,e⟩:=r;subst e;exact Ep rfl (zae I q (by cases b<;>rfl))
 |byt _=>obtain⟨t,e⟩:=r;subst e;exact Ep rfl (zae I q (by cases b<;>rfl))
 |flt _=>obtain⟨t,e⟩:=r;subst e;exact Ep rfl (zae I q (by cases b<;>rfl))
theorem zu4:OpR X (compareOp .IsNot) (λx y H Q=>∃b,y=.bl b/\Q (.bl (!decide (x=.bl b))) H):=by
 intro pins s σ H x y v u Q I r a h;obtain⟨b,rfl,q⟩:=h;cases a;cases x with
 |bl c=>cases r;exact Dp rfl (zae I q (by cases b<;>cases c<;>rfl))
 |non=>cases r;exact Dp rfl (zae I q (by cases b<;>rfl))
 |ref _=>cases r;exact Dp rfl (zae I q (by cases b<;>rfl))
 |ty _=>cases r;exact Dp rfl (zae I q (by cases b<;>rfl))
 |int _=>obtain⟨t,e⟩:=r;subst e;exact Dp rfl (zae I q (by cases b<;>rfl))
 |str _=>obtain⟨t,e⟩:=r;subst e;exact Dp rfl (zae I q (by cases b<;>rfl))
 |byt _=>obtain⟨t,e⟩:=r;subst e;exact Dp rfl (zae I q (by cases b<;>rfl))
 |flt _=>obtain⟨t,e⟩:=r;subst e;exact Dp rfl (zae I q (by cases b<;>rfl))
end
noncomputable def z7c (i j:Int):Prop:=Builtin.Int.intBits i<=2^20/\Builtin.Int.intBits j<=2^20
theorem z1u:OpR X (binaryOp .Mult) (rI z7c λi j=>.int (i*j)):=opI λ_ _ _ _ _ _ _ h q=>mul_int q (IntMulOk.of_bits h.1 h.2)
structure Cal (P:Program) (w:World) (K:Zg) (mg:Str->Option Ze) (base:Heap) (n:Nat) (x:Str) (ps:List Str) (sp:Sp):Prop where
 ex:∃f fd,FnOk P w K mg base CX0 n f fd ps sp/\zfq K fd ps []/\PySem.W.keepIn K (.ref f)=Zd/\mg x=Za (.ref f)
theorem z7n (C:Cal X.prog X.w X.K X.mg X.base n x ps sp) (d:Room k X.A) (g:Gl X x) (i:PA X (e::es) t) (j:n<=k:=by decide)
  (h:(x==("__debug__" : Str))=Zc:=by decide) (c:starEach (e::es) X.env=(Zc,eval e X.env)::starEach es X.env:=by rfl) (a:(backTo pos (starEach es X.env)).any (·.1)=Zc:=by rfl) :
  PE X (.Call (.Name x p) (e::es) [] pos) (zni sp [] E0 t):=by
 nofun;obtain⟨f,o,F,b,l,m⟩:=C.ex;ac_rfl;exact zry F (d.mono j) g m l b .nil z51 i h c a
theorem Same.new (h:H p=Zb)(o:HO):Same H (L2.upd H p o):=λb u e=>by rw[upd_ne (zac e h)];exact e
theorem SqL.of' {K:Zg}(h:H a=Za (.lst xs)):SqL K H a xs:=.inl (.inl h)
noncomputable def MM:Int:=2305843009213693951
noncomputable def big:Nat:=1099511627776
noncomputable def Bits (xs:List Int):Prop:=∀x∈xs,x=0\/x=1
noncomputable def zad (xs:List Int):Int:=xs.foldr (λb a=>2*a+b) 0
theorem z7h:bootBuiltins "len" = Za (.builtin "len"):=by decide +kernel
theorem z8l:bootBuiltins "abs" = Za (.builtin "abs"):=by decide +kernel
theorem z9o:bootBuiltins "any" = Za (.builtin "any"):=by decide +kernel
theorem z9b:bootBuiltins "all" = Za (.builtin "all"):=by decide +kernel
theorem z62:bootBuiltins "sum" = Za (.builtin "sum"):=by decide +kernel
theorem zcl:bootBuiltins "isinstance" = Za (.builtin "isinstance"):=by decide +kernel
theorem z0g:bootBuiltins "int" = Za (.type "int"):=by decide +kernel
theorem z40:bootBuiltins "bool" = Za (.type "bool"):=by decide +kernel
theorem z5r:bootBuiltins "str" = Za (.type "str"):=by decide +kernel
theorem znx:bootBuiltins "tuple" = Za (.type "tuple"):=by decide +kernel
theorem zm5:bootBuiltins "list" = Za (.type "list"):=by decide +kernel
theorem zvg {w:Int}{i:Nat}(h0:0<w)(h:w<=2^(200*i)):0<w*10^60/\w*10^60<=2^(200*(i+1)):=by
 have e:(2:Int)^(200*(i+1))=2^(200*i)*2^200:=by rw[Nat.mul_add,Int.pow_add]
 rw[e];refine⟨Int.mul_pos h0 (by decide),?_⟩;have a:w*10^60<=2^(200*i)*10^60:=Int.mul_le_mul_of_nonneg_right h (by decide);have b:(2:Int)^(200*i)*10^60<=2^(200*i)*2^200:=Int.mul_le_mul_of_nonneg_left (by decide) (by symm);symm
theorem zi0 (h0:0<=w)(h:w<=2^(200*i))(c:i<=63):Builtin.Int.intBits w<=2^20:=by
 have a:(2:Int)^(200*i)<2^(200*i+1):=by rw[Int.pow_succ];have:(0:Int)<2^(200*i):=Int.pow_pos (by decide);symm
 have b:w.natAbs<2^(200*i+1):=by
  have:((w.natAbs:Nat):Int)<((2^(200*i+1):Nat):Int):=by
   rw[Int.natCast_pow];have e:((w.natAbs:Nat):Int)=w:=by symm
   rw[e];exact Int.lt_of_le_of_lt h a
  exact Int.ofNat_lt.mp this
 have:=PyProof.Rows.intBits_le b;symm
theorem zgw:∀{xs:List Int},Bits xs->0<=zad xs/\zad xs<2^xs.length
 |[],_=>by decide
 | x::r,h=>by
  have b:=h x Au;have i:=zgw (xs:=r) λy a=>h y (Ai _ a);show 0<=2*zad r+x/\2*zad r+x<2^(r.length+1);rw[Int.pow_succ];symm
noncomputable def zaj:Zi->Bool
 |.Starred ..=>Zc
 |_=>Zd
theorem zah (h:zaj e=Zd):starEach (e::es) env=(Zc,eval e env)::starEach es env:=by
 cases e<;>first|rfl|(cases h)
theorem pac (a:PE X e te)(b:PA X es t)(h:zaj e=Zd:=by rfl):PA X (e::es) (zaw te t):=zal a b (zah h)
end L2
namespace L2
theorem noSome {α:Type}{a:α}{P:Prop}(h:Zb=Za a):P:=by cases h
open PySem PySem.Spec PyProof.Rows
noncomputable abbrev DKey:=Key ⊕ List Key
inductive W where
 |non|bl (b:Bool)|int (i:Int)|str (x:Str)|tup (xs:List W)|lst (xs:List W)|frl (xs:List W)|dic|dct (ks:List DKey) (vs:List W)|dcz (ks:List DKey) (vs:List W)
 deriving BEq,Inhabited
mutual
inductive Rep (K:Zg) (F:Hp):W->V->Prop where
 |non:Rep K F .non .non
 |bl (b:Bool):Rep K F (.bl b) (.bl b)
 |int (i:Int):Rep K F (.int i) (.int i)
 |str (x:Str):Rep K F (.str x) (.str x)
 |tup {ws:List W}{a:Zh}{vs:List V} (h:F a=Za (.tup vs)) (r:Reps K F ws vs):Rep K F (.tup ws) (.ref a)
 |lst {ws:List W}{a:Zh}{vs:List V} (h:F a=Za (.lst vs)) (r:Reps K F ws vs):Rep K F (.lst ws) (.ref a)
 |frl {ws:List W}{a:Zh}{vs:List V} (h:SqL K F a vs) (r:Reps K F ws vs):Rep K F (.frl ws) (.ref a)
 |dic {a:Zh}{kvs:List (Key×V)} (h:F a=Za (.dK kvs)):Rep K F .dic (.ref a)
 |dct {a:Zh}{ks:List Key}{ws:List W}{vs:List V} (h:F a=Za (.dK (ks.zip vs))) (hl:ks.length=vs.length) (r:Reps K F ws vs):Rep K F (.dct (ks.map .inl) ws) (.ref a)
 |dctT {a:Zh}{ks:List (List Key)}{ws:List W}{vs:List V} (h:F a=Za (.dT (ks.zip vs))) (hl:ks.length=vs.length) (r:Reps K F ws vs):Rep K F (.dct (ks.map .inr) ws) (.ref a)
 |dcz {a:Zh}{o:Obj}{ks:List Key}{ws:List W}{vs:List V} (h:F a=Za (.frz o (.dK (ks.zip vs)))) (hl:ks.length=vs.length) (r:Reps K F ws vs):Rep K F (.dcz (ks.map .inl) ws) (.ref a)
 |dczT {a:Zh}{o:Obj}{ks:List (List Key)}{ws:List W}{vs:List V} (h:F a=Za (.frz o (.dT (ks.zip vs)))) (hl:ks.length=vs.length) (r:Reps K F ws vs):Rep K F (.dcz (ks.map .inr) ws) (.ref a)
inductive Reps (K:Zg) (F:Hp):List W->List V->Prop where
 |nil:Reps K F [] []
 |cons {w:W}{v:V}{ws:List W}{vs:List V} (h:Rep K F w v) (r:Reps K F ws vs):Reps K F (w::ws) (v::vs)
end
theorem zej {α:Type}{l:List α}{i j:Nat}{x y:α}(a:i<l.length)(h:(l.set i x)[j]?=Za y):(j=i/\y=x)\/(j≠i/\l[j]?=Za y):=by
 by_cases e:j=i
 ·subst e;rw[Bn a] at h;exact .inl ⟨rfl,(sI h).symm⟩
 ·rw[Bt (Ne.symm e)] at h;exact .inr ⟨e,h⟩
theorem zyx {α:Type}{l:List α}{i:Nat}{x:α}(h:l[i]?=Za x):l.set i x=l:=by
 apply Dk;intro j;by_cases e:j=i
 ·subst e;rw[Bn (Ag.mp h).1,h]
 ·rw[Bt (Ne.symm e)]
section
variable {K:Zg}
mutual
theorem Rep.mono (s:Same F F'):∀{w:W}{v:V},Rep K F w v->Rep K F' w v
 |_,_,.non=>.non
 |_,_,.bl b=>.bl b
 |_,_,.int i=>.int i
 |_,_,.str x=>.str x
 |_,_,.tup h r=>.tup (s _ _ h) (Reps.mono s r)
 |_,_,.lst h r=>.lst (s _ _ h) (Reps.mono s r)
 |_,_,.frl h r=>.frl (s.seq h) (Reps.mono s r)
 |_,_,.dic h=>.dic (s _ _ h)
 |_,_,.dct h a r=>.dct (s _ _ h) a (Reps.mono s r)
 |_,_,.dctT h a r=>.dctT (s _ _ h) a (Reps.mono s r)
 |_,_,.dcz h a r=>.dcz (s _ _ h) a (Reps.mono s r)
 |_,_,.dczT h a r=>.dczT (s _ _ h) a (Reps.mono s r)
theorem Reps.mono (s:Same F F'):∀{ws:List W}{vs:List V},Reps K F ws vs->Reps K F' ws vs
 |_,_,.nil=>.nil
 |_,_,.cons h r=>.cons (Rep.mono s h) (Reps.mono s r)
end
theorem Reps.length:∀{ws:List W}{vs:List V},Reps K F ws vs->ws.length=vs.length
 |_,_,.nil=>rfl
 |_,_,.cons _ r=>congrArg (· + 1) (Reps.length r)
theorem Reps.get:∀{ws:List W}{vs:List V}{i:Nat}{w:W},Reps K F ws vs->ws[i]?=Za w->∃v,vs[i]?=Za v/\Rep K F w v
 |_,_,_,_,.nil,e=>by simp at e
 |_,_,0,_,.cons h _,e=>by simp at e;subst e;exact⟨_,rfl,h⟩
 | _,_,i+1,w,.cons _ r,e=>by
  obtain⟨v,a,b⟩:=Reps.get (i:=i) (w:=w) r (by simpa using e);exact⟨v,by simpa using a,b⟩
theorem Reps.getV:∀{ws:List W}{vs:List V}{i:Nat}{v:V},Reps K F ws vs->vs[i]?=Za v->∃w,ws[i]?=Za w/\Rep K F w v
 |_,_,_,_,.nil,e=>by simp at e
 |_,_,0,_,.cons h _,e=>by simp at e;subst e;exact⟨_,rfl,h⟩
 | _,_,i+1,v,.cons _ r,e=>by
  obtain⟨w,a,b⟩:=Reps.getV (i:=i) (v:=v) r (by simpa using e);exact⟨w,by simpa using a,b⟩
theorem Reps.append:∀{xs ys:List W}{u ws:List V},Reps K F xs u->Reps K F ys ws->Reps K F (xs++ys) (u++ws)
 |_,_,_,_,.nil,s=>s
 |_,_,_,_,.cons h r,s=>.cons h (Reps.append r s)
theorem Reps.take:∀{xs:List W}{u:List V} (n:Nat),Reps K F xs u->Reps K F (xs.take n) (u.take n)
 |_,_,0,_=>.nil
 |_,_,_+1,.nil=>.nil
 |_,_,n+1,.cons h r=>.cons h (Reps.take n r)
theorem Reps.drop:∀{xs:List W}{u:List V} (n:Nat),Reps K F xs u->Reps K F (xs.drop n) (u.drop n)
 |_,_,0,r=>r
 |_,_,_+1,.nil=>.nil
 |_,_,n+1,.cons _ r=>Reps.drop n r
theorem Reps.set (h:Rep K F w v):∀{xs:List W}{u:List V} (i:Nat),Reps K F xs u->Reps K F (xs.set i w) (u.set i v)
 |_,_,_,.nil=>.nil
 |_,_,0,.cons _ r=>.cons h r
 |_,_,i+1,.cons q r=>.cons q (Reps.set h i r)
theorem Reps.rep (r:Reps K F xs us):∀k:Nat,Reps K F (List.replicate k xs).flatten (List.replicate k us).flatten
 |0=>.nil
 |k+1=>by rw[Df,Df,Ea,Ea];exact r.append (r.rep k)
noncomputable def isIt:W->V->Prop
 |.int i,v=>v=.int i
 |.bl b,v=>v=.bl b
 |_,_=>True
theorem Rep.isIt (h:Rep K F w v):isIt w v:=by cases h<;>first|rfl|trivial
theorem Reps.uncons (h:Reps K F (w::ws) vs):∃v u,vs=v::u/\Rep K F w v/\Reps K F ws u:=by
 cases h with
 |cons h r=>exact⟨_,_,rfl,h,r⟩
theorem Reps.ints:∀{ns:List Int}{vs:List V},Reps K F (ns.map W.int) vs->vs=ns.map V.int:=by
 intro ns
 induction ns with
 |nil=>intro vs h;cases h;rfl
 | cons n ns i =>
  intro vs h;obtain⟨v,u,e,a,b⟩:=Reps.uncons h;rw[e,i b,show v=.int n from a.isIt];rfl
theorem Reps.ofInts:∀(ns:List Int),Reps K F (ns.map W.int) (ns.map V.int)
 |[]=>.nil
 |n::ns=>.cons (.int n) (Reps.ofInts ns)
theorem Reps.bls:∀{bs:List Bool}{vs:List V},Reps K F (bs.map W.bl) vs->vs=bs.map V.bl:=by
 intro a
 induction a with
 |nil=>intro vs h;cases h;rfl
 | cons n a i =>
  intro vs h;obtain⟨v,u,e,b,c⟩:=Reps.uncons h;rw[e,i c,show v=.bl n from b.isIt];rfl
noncomputable abbrev En:=List (Option (W×Bool))
noncomputable abbrev Prt:=Zh->HO->Prop
inductive OwnR (K:Zg) (F:Hp):W->HO->Prop where
 |lst {ws:List W}{vs:List V} (r:Reps K F ws vs):OwnR K F (.lst ws) (.lst vs)
 |dct {ks:List Key}{ws:List W}{vs:List V} (hl:ks.length=vs.length) (r:Reps K F ws vs):OwnR K F (.dct (ks.map .inl) ws) (.dK (ks.zip vs))
 |dctT {ks:List (List Key)}{ws:List W}{vs:List V} (hl:ks.length=vs.length) (r:Reps K F ws vs):OwnR K F (.dct (ks.map .inr) ws) (.dT (ks.zip vs))
theorem OwnR.mono (s:Same F F')(h:OwnR K F w o):OwnR K F' w o:=by
 cases h with
 |lst r=>exact .lst (r.mono s)
 |dct a r=>exact .dct a (r.mono s)
 |dctT a r=>exact .dctT a (r.mono s)
theorem OwnR.rep (h:OwnR K F w o)(e:F a=Za o):Rep K F w (.ref a):=by
 cases h with
 |lst r=>exact .lst e r
 |dct b r=>exact .dct e b r
 |dctT b r=>exact .dctT e b r
theorem OwnR.list (h:OwnR K F (.lst ws) o):∃vs,o=.lst vs/\Reps K F ws vs:=by
 cases h with
 |lst r=>exact⟨_,rfl,r⟩
noncomputable def lams:List Str:=["_law_terms","_law_in_order","_law_poly_of","voted_terms","law"]
noncomputable def lamQ (x:Str):Str:=x++".<locals>."++"<lambda>"
noncomputable def zc3 (c:Zh) (q:Str) (h:Heap):Prop:=∃o v t,h.get? c=Za o/\o.data=.fields v/\v[1]?=Za (.str q t)
noncomputable def z28 (K:Zg):Prop:=∀x∈lams,∀a∈lams,∀c b P,PySem.W.tabIn K x=Za (c,P)->PySem.W.tabIn K a=Za (b,P)->x=a
noncomputable def NoT (p:Prt):Prop:=∀b x,¬ p b (.tup x)
noncomputable def zpr (K:Zg) (F:Hp) (d:Prt) (H:Hp):Prop:=(z28 K/\NoT d)/\∀x∈lams,∀c P,PySem.W.tabIn K x=Za (c,P)->∃p:Array Ze,H P=Za (.tbl p)/\F P=Zb/\(∀o,¬ d P o)/\TriplesOk p.toList /\
 ∀pos b,codeAmong pos p.toList=Za b->∃a,b=.ref a/\F a=Za (.ext (zc3 a (lamQ x)))
theorem zpr.go (T:zpr K F pr H)(h4:∀b xs,pr' b (.tup xs)->pr b (.tup xs))(h:∀b ps,H b=Za (.tbl ps)->F b=Zb->H' b=Za (.tbl ps)/\F' b=Zb)(k:Same F F')(m:∀b ps,H b=Za (.tbl ps)->(∀o,¬ pr b o)->∀o,¬ pr' b o):zpr K F' pr' H':=⟨⟨T.1.1,λb xs z=>T.1.2 b xs (h4 b xs z)⟩,λx f c P e=>by
 nofun;obtain⟨ps,a,d,g,n,r⟩:=T.2 x f c P e;ac_rfl;refine⟨ps,(h P ps a d).1,(h P ps a d).2,m P ps a g,n,λpos j q=>?_⟩;obtain⟨l,p,i⟩:=r pos j q;exact⟨l,p,k _ _ i⟩⟩
structure Rel (K:Zg) (F:Hp) (pr:Prt) (en:En) (σ:St) (H:Hp):Prop where
 len:en.length=σ.length
 sub:Same F H
 val:∀(i:Nat) (w:W),en[i]?=Za (#v[w,6])->∃v,σ[i]?=Za (Za v)/\Rep K F w v
 own:∀(i:Nat) (w:W),en[i]?=Za (#v[w,5])->∃(a:Zh) (o:HO) (w':W),w=w'/\σ[i]?=Za (Za (V.ref a))/\H a=Za o/\F a=Zb/\OwnR K F w' o
 inj:∀(i j:Nat) (a:Zh) (w w':W),en[i]?=Za (#v[w,5])->en[j]?=Za (#v[w',5])->σ[i]?=Za (Za (V.ref a))->σ[j]?=Za (Za (V.ref a))->i=j
 prt:∀b o,pr b o->H b=Za o/\F b=Zb/\∀(i:Nat) (w:W),en[i]?=Za (#v[w,5])->σ[i]?≠Za (Za (V.ref b))
 tb:zpr K F pr H
noncomputable def Res (K:Zg) (F H:Hp) (p:Prt) (en:En) (σ:St):W×Bool->V->Prop
 |(w,Zc),v=>Rep K F w v
 |(w,Zd),v=>∃(a:Zh) (o:HO) (c:W),w=c/\v=V.ref a/\H a=Za o/\F a=Zb/\OwnR K F c o/\(∀(i:Nat) (c:W),en[i]?=Za (#v[c,5])->σ[i]?≠Za (Za (V.ref a)))/\∀b o,p b o->b≠a
noncomputable def RepB (K:Zg) (F H:Hp) (w:W) (v:V):Prop:=Rep K F w v\/∃(a:Zh) (o:HO) (b:W),w=b/\v=V.ref a/\H a=Za o/\OwnR K F b o
inductive Out (K:Zg) (F H:Hp):W×Bool->V->Hp->Prop where
 |val {w:W}{v:V} (r:Rep K F w v):Out K F H (w,Zc) v H
 |lst {p:Zh}{ws:List W}{vs:List V} (n:H p=Zb) (r:Reps K F ws vs):Out K F H (.lst ws,Zd) (.ref p) (upd H p (.lst vs))
 |tup {p:Zh}{ws:List W}{vs:List V} (n:H p=Zb) (r:Reps K F ws vs):Out K F H (.tup ws,Zc) (.ref p) (upd H p (.tup vs))
theorem Same.upd_both (s:Same F H)(p:Zh)(o:HO):Same (upd F p o) (upd H p o):=λb u e=>by
 by_cases h:b=p
 ·subst h;rw[upd_same] at e ⊢;exact e
 ·rw[upd_ne h] at e ⊢;exact s _ _ e
theorem Rel.lay (R:Rel K F pr en σ H)(j:H p=Zb)(o:HO):Rel K F pr en σ (upd H p o):=by
 have ne:∀a u,H a=Za u->a≠p:=λa u e=>zac e j;refine⟨R.len,R.sub.trans (Same.new j o),R.val,λi w e=>?_,R.inj,λq s r=>?_,R.tb.go (λ_ _ z=>z) (λb n e f=>⟨by rw[upd_ne (ne b _ e)];exact e,f⟩) (.refl F) λb n e h=>h⟩
 ·refine aG λG qG => ?_;obtain⟨a,v,k,c,g,d,m,l⟩:=R.own i w e;ac_rfl;exact⟨a,v,k,c,g,by rw[upd_ne (ne a _ d)];exact d,m,l⟩
 ·obtain⟨c,g,d⟩:=R.prt q s r;exact⟨by rw[upd_ne (ne _ _ c)];exact c,g,d⟩
theorem Rel.layF (R:Rel K F pr en σ H)(j:H p=Zb)(o:HO):Rel K (upd F p o) pr en σ (upd H p o):=by
 have ne:∀a u,H a=Za u->a≠p:=λa u e=>zac e j;have fp:F p=Zb:=R.sub.free j;have s:Same F (upd F p o):=Same.new fp o;refine⟨R.len,R.sub.upd_both p o,λi w e=>?_,λi w e=>?_,R.inj,λq x t=>?_,R.tb.go (λ_ _ z=>z) (λb r e f=>⟨by rw[upd_ne (ne b _ e)];exact e,by rw[upd_ne (ne b _ e)];exact f⟩) s λb r e h=>h⟩
 ·obtain⟨v,c,d⟩:=R.val i w e;exact⟨v,c,d.mono s⟩
 ·refine aG λG qG => ?_;obtain⟨a,l,k,c,d,g,n,m⟩:=R.own i w e;ac_rfl;exact⟨a,l,k,c,d,by rw[upd_ne (ne a _ g)];exact g,by rw[upd_ne (ne a _ g)];exact n,m.mono s⟩
 ·obtain⟨c,d,g⟩:=R.prt q x t;exact⟨by rw[upd_ne (ne _ _ c)];exact c,by rw[upd_ne (ne _ _ c)];exact d,g⟩
theorem Out.close {r:W×Bool}{v:V} (R:Rel K F pr en σ H) (o:Out K F H r v H'):∃c,Same F c/\Rel K c pr en σ H'/\Res K c H' pr en σ r v:=by
 cases o with
 |val r=>exact⟨F,.refl F,R,r⟩
 | @lst p w b n r =>
  refine⟨F,.refl F,R.lay n _,p,_,_,rfl,rfl,upd_same,R.sub.free n,.lst r,λi f e z=>?_,λq j g z=>?_⟩
  ·obtain ⟨a,b,w,l,d,h,m,k⟩:=R.own i f e
   rw[d] at z;cases z;rw[n] at h;exact noSome h
  ·have:=(R.prt q j g).1
   rw[z,n] at this;exact noSome this
 |@tup p w b n r=>exact⟨upd F p (.tup b),Same.new (R.sub.free n) _,R.layF n _,.tup upd_same (r.mono (Same.new (R.sub.free n) _))⟩
theorem Out.mono (s:Same F F')(o:Out K F H r v H'):Out K F' H r v H':=by
 cases o with
 |val r=>exact .val (r.mono s)
 |lst n r=>exact .lst n (r.mono s)
 |tup n r=>exact .tup n (r.mono s)
theorem Res.freeze (R:Rel K F pr en σ H) (h:Res K F H pr en σ r v):∃k,Same F k/\Rel K k pr en σ H/\Rep K k r.1 v:=by
 obtain⟨w,b⟩:=r;cases b with
 |false=>exact⟨F,.refl F,R,h⟩
 | true =>
  nofun;obtain⟨a,l,J,rfl,rfl,n,I,x,C,B⟩:=h;ac_rfl;have s:Same F (upd F a l):=Same.new I _;have G:∀p,l≠.tbl p:=λp z=>by cases x<;>cases z
  refine⟨upd F a l,s,⟨R.len,λb u e=>?_,λi w e=>?_,λi w e=>?_,R.inj,λq t o=>?_,R.tb.go (λ_ _ z=>z) (λb p e f=>⟨e,by rw[upd_ne (λz=>by subst z;rw[n] at e;exact G p (sI e))];exact f⟩) s λb p e h=>h⟩,(x.mono s).rep upd_same⟩
  ·by_cases y:b=a
   ·subst y;rw[upd_same] at e;obtain rfl:=sI e;exact n
   ·rw[upd_ne y] at e;exact R.sub _ _ e
  ·obtain ⟨v,d,c⟩:=R.val i w e
   exact⟨v,d,c.mono s⟩
  ·refine aG λL qG => ?_
   obtain⟨A,j,m,d,c,g,D,E⟩:=R.own i w e;ac_rfl;have ne:A≠a:=λz=>by subst z;exact C i w e c
   exact⟨A,j,m,d,c,g,by rw[upd_ne ne];exact D,E.mono s⟩
  ·obtain ⟨d,c,g⟩:=R.prt q t o
   exact⟨d,by rw[upd_ne (B q t o)];exact c,g⟩
theorem Rel.freeze (R:Rel K F pr en σ H) {i:Nat}{w:W}{v:V}{fl:Bool} (e:en[i]?=Za (Za (w,fl))) (m:σ[i]?=Za (Za v)):∃B,Same F B/\Rel K B pr (en.set i (Za (w,Zc))) σ H/\Rep K B w v:=by
 have hi:i<en.length:=(Ag.mp e).1;cases fl with
 | false =>
  obtain⟨G,E,r⟩:=R.val i w e;rw[m] at E;cases E;refine⟨F,.refl F,?_,r⟩;rw[zyx e];exact R
 | true =>
  nofun;obtain⟨a,C,ws,e0,r,I,M,t⟩:=R.own i w e;ac_rfl;subst e0;rw[m] at r;cases r;have s:Same F (upd F a C):=Same.new M _;have Y:∀p,C≠.tbl p:=λp z=>by cases t<;>cases z
  have g:∀j c b,(en.set i (Za (w,Zc)))[j]?=Za (Za (c,b))->(j=i/\c=w/\b=Zc)\/(j≠i/\en[j]?=Za (Za (c,b))):=λj c b h=>by
   rcases zej hi h with⟨z,q⟩|z
   ·cases q;exact .inl ⟨z,rfl,rfl⟩
   ·exact .inr z
  refine⟨upd F a C,s,⟨by rw[Bq];exact R.len,λb u d=>?_,λj c d=>?_,λj c d=>?_,λj k b S L Z X=>?_,λq Q P=>?_,R.tb.go (λ_ _ z=>z) (λb p e f=>⟨e,by rw[upd_ne (λz=>by subst z;rw[I] at e;exact Y p (sI e))];exact f⟩) s λb p e h=>h⟩,(t.mono s).rep upd_same⟩
  ·by_cases J:b=a
   ·subst J;rw[upd_same] at d;obtain rfl:=sI d;exact I
   ·rw[upd_ne J] at d;exact R.sub _ _ d
  ·rcases g j c Zc d with ⟨rfl,rfl,_⟩ | ⟨_,z⟩
   ·exact⟨_,m,(t.mono s).rep upd_same⟩
   ·obtain ⟨G, n,l⟩:=R.val j c z
    exact⟨G,n,l.mono s⟩
  ·rcases g j c Zd d with ⟨_,_,z⟩ | ⟨ne,z⟩
   ·cases z
   ·refine aG λGg qG => ?_
    obtain⟨A,y,D,n,l,o,O,U⟩:=R.own j c z;ac_rfl;have x:A≠a:=λq=>by subst q;exact ne (R.inj j i A _ _ z e l m)
    exact⟨A,y,D,n,l,o,by rw[upd_ne x];exact O,U.mono s⟩
  ·rcases g j S Zd Z with ⟨_,_,z⟩ | ⟨_,N⟩
   ·cases z
   ·rcases g k L Zd X with ⟨_,_,z⟩ | ⟨_,T⟩
    ·cases z
    ·exact R.inj j k b _ _ N T
  ·obtain ⟨n,l,o⟩:=R.prt q Q P
   have ne:q≠a:=λz=>by
    have:=o i _ e;rw[m,z] at this;exact this rfl
   refine⟨n,by rw[upd_ne ne];exact l,λj c d=>?_⟩;rcases g j c Zd d with⟨_,_,z⟩|⟨_,z⟩
   ·cases z
   ·exact o j c z
theorem Rel.repB (R:Rel K F pr en σ H) {i:Nat}{w:W}{fl:Bool}{v:V} (e:en[i]?=Za (Za (w,fl))) (c:σ[i]?=Za (Za v)):RepB K F H w v:=by
 cases fl with
 | false =>
  obtain⟨j,h,b⟩:=R.val i w e;rw[c] at h;cases h;exact .inl b
 | true =>
  nofun;obtain⟨a,o,d,h,b,g,k,f⟩:=R.own i w e;ac_rfl;rw[c] at b;cases b;exact .inr ⟨a,o,d,h,rfl,g,f⟩
theorem Rel.has (R:Rel K F pr en σ H){i:Nat}{w:W}{fl:Bool}(e:en[i]?=Za (Za (w,fl))):∃v,σ[i]?=Za (Za v):=by
 cases fl with
 |false=>obtain⟨v,h,_⟩:=R.val i w e;exact⟨v,h⟩
 |true=>obtain⟨a,_,_,_,h,_⟩:=R.own i w e;exact⟨_,h⟩
theorem Rel.store (R:Rel K F pr en σ H)(h:Res K F H pr en σ r v)(J:i<en.length):Rel K F pr (en.set i (Za r)) (σ.set i (Za v)) H:=by
 have C:i<σ.length:=by rw[<-R.len];exact J
 have g:∀j x,(en.set i (Za r))[j]?=Za (Za x)->(j=i/\x=r)\/(j≠i/\en[j]?=Za (Za x)):=λj x h=>by
  rcases zej J h with⟨z,q⟩|z
  ·obtain rfl:=sI q;exact .inl ⟨z,rfl⟩
  ·exact .inr z
 have m:(σ.set i (Za v))[i]?=Za (Za v):=Bn C;have s:∀j,j≠i->(σ.set i (Za v))[j]?=σ[j]?:=λj b=>Bt (Ne.symm b);refine⟨by rw[Bq,Bq];exact R.len,R.sub,λj w e=>?_,λj w e=>?_,λj k a S Q O I=>?_,λq G E=>?_,R.tb⟩
 ·rcases g j _ e with⟨rfl,z⟩|⟨b,z⟩
  ·subst z;exact⟨v,m,h⟩
  ·rw[s j b];exact R.val j w z
 ·rcases g j _ e with⟨rfl,z⟩|⟨b,z⟩
  ·subst z;obtain⟨a,B,u,n,f,A,p,o,_⟩:=h;exact⟨a,B,u,n,by rw[m,f],A,p,o⟩
  ·rw[s j b];exact R.own j w z
 ·intro c d;rcases g j _ O with⟨rfl,t⟩|⟨b,t⟩
  ·rcases g k _ I with⟨rfl,l⟩|⟨D,l⟩
   ·rfl
   ·subst t;obtain⟨L,B,u,n,f,A,p,o,y,_⟩:=h;rw[m,f] at c;cases c;rw[s k D] at d;exact absurd d (y k _ l)
  ·rcases g k _ I with⟨rfl,l⟩|⟨D,l⟩
   ·subst l;obtain⟨L,B,u,n,f,A,p,o,y,_⟩:=h;rw[m,f] at d;cases d;rw[s j b] at c;exact absurd c (y j _ t)
   ·rw[s j b] at c;rw[s k D] at d;exact R.inj j k a _ _ t l c d
 ·obtain⟨c,d,N⟩:=R.prt q G E;refine⟨c,d,λj w e=>?_⟩;rcases g j _ e with⟨rfl,z⟩|⟨b,z⟩
  ·subst z;obtain⟨L,B,u,n,f,A,p,o,y,P⟩:=h;rw[m,f];intro M;cases M;exact P q G E rfl
  ·rw[s j b];exact N j w z
theorem Rel.changeO (R:Rel K F pr en σ H){i:Nat}{w c:W}{a:Zh}{C:HO}(e:en[i]?=Za (#v[w,5]))(s:σ[i]?=Za (Za (.ref a)))(r:OwnR K F c C):Rel K F pr (en.set i (#v[c,5])) σ (upd H a C):=by
 have X:i<en.length:=(Ag.mp e).1;nofun;obtain⟨a0,L,ws,Z,J,T,I,G⟩:=R.own i w e;ac_rfl;rw[s] at J;cases J;have Y:∀p,L≠.tbl p:=λp z=>by cases G<;>cases z
 have nx:∀φ,L≠.ext φ:=λp z=>by cases G<;>cases z
 have g:∀j x,(en.set i (#v[c,5]))[j]?=Za (Za x)->(j=i/\x=(c,Zd))\/(j≠i/\en[j]?=Za (Za x)):=λj x h=>by
  rcases zej X h with⟨z,q⟩|z
  ·obtain rfl:=sI q;exact .inl ⟨z,rfl⟩
  ·exact .inr z
 refine⟨by rw[Bq];exact R.len,λb u D=>?_,λj o l=>?_,λj o l=>?_,λj k b w1 w2 U S n d=>?_,λq P O=>?_,R.tb.go (λ_ _ z=>z) (λb p e f=>⟨by rw[upd_ne (λz=>by subst z;rw[T] at e;exact Y p (sI e))];exact e,f⟩) (.refl F) λb p e h=>h⟩
 ·have:b≠a:=λz=>by subst z;rw[I] at D;cases D
  rw[upd_ne this];exact R.sub _ _ D
 ·rcases g j _ l with⟨_,z⟩|⟨_,z⟩
  ·cases z
  ·exact R.val j o z
 ·rcases g j _ l with⟨rfl,z⟩|⟨V,z⟩
  ·cases z;exact⟨a,C,c,rfl,s,upd_same,I,r⟩
  ·refine aG λGg qG => ?_;obtain⟨E,t,B,n,d,m,M,Q⟩:=R.own j o z;ac_rfl;have ne:E≠a:=λN=>by subst N;exact V (R.inj j i E _ _ z e d s)
   exact⟨E,t,B,n,d,by rw[upd_ne ne];exact m,M,Q⟩
 ·have y:∃c,en[j]?=Za (Za (c,Zd)):=by
   rcases g j _ U with⟨rfl,_⟩|⟨_,z⟩
   ·exact⟨_,e⟩
   ·exact⟨_,z⟩
  have A:∃c,en[k]?=Za (#v[c,5]):=by
   rcases g k _ S with⟨rfl,_⟩|⟨_,z⟩
   ·exact⟨_,e⟩
   ·exact⟨_,z⟩
  obtain⟨_,y⟩:=y;obtain⟨_,A⟩:=A;exact R.inj j k b _ _ y A n d
 ·obtain ⟨n,d,m⟩:=R.prt q P O;have ne:q≠a:=λz=>by
   have:=m i _ e;rw[s,z] at this;exact this rfl
  refine⟨by rw[upd_ne ne];exact n,d,λj o l=>?_⟩;rcases g j _ l with⟨rfl,_⟩|⟨_,z⟩
  ·exact m j _ e
  ·exact m j o z
theorem Rel.change (R:Rel K F pr en σ H)(e:en[i]?=Za (#v[w,5]))(h:σ[i]?=Za (Za (.ref a)))(r:Reps K F ws' vs'):Rel K F pr (en.set i (#v[ws',2])) σ (upd H a (.lst vs')):=R.changeO e h (.lst r)
theorem Rel.ownL (R:Rel K F pr en σ H){i:Nat}{ws:List W}(e:en[i]?=Za (#v[ws,2])):∃(a:Zh) (vs:List V) (ws':List W),W.lst ws=.lst ws'/\σ[i]?=Za (Za (V.ref a))/\H a=Za (.lst vs)/\F a=Zb/\Reps K F ws' vs:=by
 nofun;obtain⟨a,o,w,b,c,f,d,h⟩:=R.own i _ e;ac_rfl;subst b;obtain⟨vs,rfl,r⟩:=h.list;exact⟨a,vs,ws,rfl,c,f,d,r⟩
end
end L2
namespace L2
open PySem PySem.Spec PyProof.Rows
noncomputable abbrev GE:=En->Option (En×(W×Bool))
noncomputable abbrev GA:=En->Option (En×(W ⊕ Nat))
noncomputable abbrev GT:=En->Option (En×Bool)
noncomputable abbrev GAs:=En->Option (En×List (W ⊕ Nat))
noncomputable abbrev GL:=En->Option (En×List W)
noncomputable def ArgR (K:Zg) (F:Hp) (σ:St):W ⊕ Nat->V->Prop
 |.inl w,v=>Rep K F w v
 |.inr i,v=>σ[i]?=Za (Za v)
inductive ArgRs (K:Zg) (F:Hp) (σ:St):List (W ⊕ Nat)->List V->Prop where
 |nil:ArgRs K F σ [] []
 |cons {x:W ⊕ Nat}{v:V}{xs:List (W ⊕ Nat)}{vs:List V} (h:ArgR K F σ x v) (r:ArgRs K F σ xs vs):ArgRs K F σ (x::xs) (v::vs)
noncomputable def resA (en:En):W ⊕ Nat->Option W
 |.inl w=>Za w
 | .inr i=>match en[i]? with
  |some (Za (w,_))=>Za w
  |_=>Zb
section
variable {K:Zg}
theorem ArgR.mono (s:Same F F')(h:ArgR K F σ x v):ArgR K F' σ x v:=by
 cases x with
 |inl w=>exact Rep.mono s h
 |inr i=>exact h
theorem ArgR.repB (R:Rel K F pr en σ H) (h:ArgR K F σ x v) (e:resA en x=Za w):RepB K F H w v:=by
 cases x with
 |inl u=>obtain rfl:=sI e;exact .inl h
 | inr i =>
  unfold resA at e;cases q:en[i]? with
  |none=>simp only [q] at e;exact noSome e
  | some o =>
   cases o with
   |none=>simp only [q] at e;exact noSome e
   | some p =>
    obtain⟨u,fl⟩:=p;simp only [q] at e;obtain rfl:=sI e;exact R.repB q h
end
noncomputable def tE (K:Zg) (g:GE):TE:=λσ H Q=>∃F p c e r,Rel K F p c σ H/\g c=Za (e,r)/\∀b a v,Same F b->Rel K b p e σ a->Res K b a p e σ r v->Q v a
noncomputable def tA (K:Zg) (g:GA):TE:=λσ H Q=>∃F p c e x,Rel K F p c σ H/\g c=Za (e,x)/\∀a b v,Same F a->Rel K a p e σ b->ArgR K a σ x v->Q v b
noncomputable def tT (K:Zg) (g:GT):TT:=λσ H Q=>∃F p c e b,Rel K F p c σ H/\g c=Za (e,b)/\∀d a,Same F d->Rel K d p e σ a->Q b a
noncomputable def tAs (K:Zg) (g:GAs):TA:=λσ H Q=>∃F p c e x,Rel K F p c σ H/\g c=Za (e,x)/\∀a b v,Same F a->Rel K a p e σ b->ArgRs K a σ x v->Q v b
theorem PE.wk (h:PE X e t)(i:∀σ H Q,t' σ H Q->t σ H Q):PE X e t':=λpins s σ H Q I q=>h pins s σ H Q I (i σ H Q q)
theorem PT.wk (h:PT X e t)(i:∀σ H Q,t' σ H Q->t σ H Q):PT X e t':=λpins s σ H Q I q=>h pins s σ H Q I (i σ H Q q)
theorem PW.wk (h:PW X e t)(i:∀σ H Q,t' σ H Q->t σ H Q):PW X e t':=λw pins s σ H Q I q=>h w pins s σ H Q I (i σ H Q q)
theorem PA.wk (h:PA X es t)(i:∀σ H Q,t' σ H Q->t σ H Q):PA X es t':=λpos pins s σ H Q I q=>h pos pins s σ H Q I (i σ H Q q)
theorem PS.wk {st:Stmt}(h:PS X st t)(i:∀D σ H,t' D σ H->t D σ H):PS X st t':=λpins s σ H D I q=>h pins s σ H D I (i D σ H q)
theorem PSs.wk {st:List Stmt}(h:PSs X st t)(i:∀D σ H,t' D σ H->t D σ H):PSs X st t':=λpins s σ H D I q=>h pins s σ H D I (i D σ H q)
theorem PI.wk (h:PI X tg e t)(i:∀σ H R,t' σ H R->t σ H R):PI X tg e t':=λpins s σ H R I q=>h pins s σ H R I (i σ H R q)
noncomputable def gVar (i:Nat):GE:=λe=>match e[i]? with
 |some (Za (w,_))=>Za (e.set i (#v[w,6]),(w,Zc))
 |_=>Zb
noncomputable def gVarA (i:Nat):GA:=λe=>match e[i]? with
 |some (#v[w,5])=>Za (e,.inr i)
 |some (#v[w,6])=>Za (e,.inl w)
 |_=>Zb
noncomputable def gC (w:W):GE:=λe=>Za (e,(w,Zc))
noncomputable def gArg (g:GE):GA:=λe=>(g e).bind λp=>Za (p.1,.inl p.2.1)
noncomputable def gA0:GAs:=λe=>Za (e,[])
noncomputable def gCns (a:GA) (as:GAs):GAs:=λe=>(a e).bind λp=>(as p.1).bind λq=>Za (q.1,p.2::q.2)
noncomputable def gOp1 (o:W->Option (W×Bool)) (a:GA):GE:=λe=>(a e).bind λp=>(resA p.1 p.2).bind λw=>(o w).bind λr=>Za (p.1,r)
noncomputable def gOp2 (o:W->W->Option (W×Bool)) (a b:GA):GE:=λe=>(a e).bind λp=>(b p.1).bind λq=>(resA q.1 p.2).bind λw=>(resA q.1 q.2).bind λu=>(o w u).bind λr=>Za (q.1,r)
noncomputable def za2 (en:En):List (W ⊕ Nat)->Option (List W)
 |[]=>Za []
 |x::b=>(resA en x).bind λw=>(za2 en b).bind λa=>Za (w::a)
noncomputable def gOpN (o:List W->Option (W×Bool)) (as:GAs):GE:=λe=>(as e).bind λp=>(za2 p.1 p.2).bind λw=>(o w).bind λr=>Za (p.1,r)
noncomputable def zak (g:GE):GT:=λa=>match g a with
 |some (e,(.bl b,_))=>Za (e,b)
 |_=>Zb
noncomputable def gAnd (a b:GE):GE:=λc=>match a c with
 |some (e,(.bl Zd,_))=>b e
 |some (e,(.bl Zc,_))=>Za (e,#v[9,7])
 |_=>Zb
noncomputable def gOr (a b:GE):GE:=λc=>match a c with
 |some (e,(.bl Zd,_))=>Za (e,#v[8,10])
 |some (e,(.bl Zc,_))=>b e
 |_=>Zb
noncomputable def gNot (a:GE):GE:=λc=>match a c with
 |some (e,(.bl b,_))=>Za (e,(.bl (!b),Zc))
 |_=>Zb
noncomputable def zif (a b:GT):GT:=λc=>match a c with
 |#v[e,5]=>b e
 |#v[e,6]=>#v[e,6]
 |none=>Zb
noncomputable def gOrT (a b:GT):GT:=λc=>match a c with
 |#v[e,5]=>#v[e,5]
 |#v[e,6]=>b e
 |none=>Zb
noncomputable def zju (a:GT):GT:=λc=>match a c with
 |some (e,b)=>Za (e,!b)
 |none=>Zb
noncomputable def gIf (c:GT) (a b:GE):GE:=λd=>match c d with
 |#v[e,5]=>a e
 |#v[e,6]=>b e
 |none=>Zb
section
variable {K:Zg}
theorem zvu (h:tE K (gVar i) σ H Q):tVar i σ H Q:=by
 obtain⟨F,g,d,c,r,R,h,q⟩:=h;unfold gVar at h;cases e:d[i]? with
 |none=>simp only [e] at h;exact noSome h
 | some o =>
  cases o with
  |none=>simp only [e] at h;exact noSome h
  | some p =>
   obtain⟨w,fl⟩:=p;simp only [e] at h;cases h;obtain⟨v,a⟩:=R.has e;obtain⟨f,s,b,z⟩:=R.freeze e a;exact⟨v,a,q f H v s b z⟩
theorem zqp (h:tA K (gVarA i) σ H Q):tVar i σ H Q:=by
 obtain⟨F,d,b,c,r,R,h,q⟩:=h;unfold gVarA at h;cases e:b[i]? with
 |none=>simp only [e] at h;exact noSome h
 | some o =>
  cases o with
  |none=>simp only [e] at h;exact noSome h
  | some p =>
   obtain⟨w,fl⟩:=p;cases fl with
   | true =>
    simp only [e] at h;cases h;obtain⟨v,a⟩:=R.has e;exact⟨v,a,q F H v (.refl F) R a⟩
   | false =>
    simp only [e] at h;cases h;obtain⟨v,a,z⟩:=R.val i w e;exact⟨v,a,q F H v (.refl F) R z⟩
theorem zdf (a:∀F,Rep K F w v)(h:tE K (gC w) σ H Q):tC v σ H Q:=by
 obtain⟨F,p,b,e,r,R,h,q⟩:=h;cases h;exact q F H v (.refl F) R (a F)
theorem zji (h:tA K (gArg g) σ H Q):tE K g σ H Q:=by
 obtain⟨F,p,f,d,x,R,h,q⟩:=h;obtain⟨⟨e,r⟩,c,h⟩:=bS h;cases h;refine⟨F,p,f,e,r,R,c,λk b v i j z=>?_⟩;obtain⟨a,s,R2,y⟩:=z.freeze j;exact q a b v (i.trans s) R2 y
theorem zod (h:tAs K gA0 σ H Q):tNil σ H Q:=by
 obtain⟨F,p,a,e,x,R,h,q⟩:=h;cases h;exact q F H [] (.refl F) R .nil
theorem zov (h:tAs K (gCns a as) σ H Q):tA K a σ H λx c=>tAs K as σ c λxs b=>Q (x::xs) b:=by
 nofun;obtain⟨F,p,f,n,x,R,h,q⟩:=h;obtain⟨⟨e,y⟩,d,h⟩:=bS h;obtain⟨⟨i,k⟩,m,h⟩:=bS h;ac_rfl;cases h;exact⟨F,p,f,e,y,R,d,λt c v o r l=>⟨t,p,e,i,k,r,m,λj b u s R2 g=>q j b (v::u) (o.trans s) R2 (.cons (l.mono s) g)⟩⟩
noncomputable def OpS (K:Zg) (r:R2) (o:W->W->Option (W×Bool)):Prop:=∀F H w c a e d Q,Same F H->RepB K F H w a->RepB K F H c e->o w c=Za d->(∀v b,Out K F H d v b->Q v b)->r a e H Q
theorem zfr (k:OpS K r o)(h:tE K (gOp2 o a b) σ H Q):tOp r (tA K a) (tA K b) σ H Q:=by
 nofun;obtain⟨F,p,g,D,t,R,h,q⟩:=h;obtain⟨⟨e,x⟩,f,h⟩:=bS h;obtain⟨⟨n,O⟩,C,h⟩:=bS h;obtain⟨l,d,h⟩:=bS h;obtain⟨w,c,h⟩:=bS h;obtain⟨T,M,h⟩:=bS h;ac_rfl;cases h;refine⟨F,p,g,e,x,R,f,λN S J E I A=>⟨N,p,e,n,O,I,C,λu i P s R2 j=>?_⟩⟩;refine k u i l w J P t Q R2.sub ((A.mono s).repB R2 d) (j.repB R2 c) M λv m z=>?_;nofun;obtain⟨G,L,B,y⟩:=z.close R2;ac_rfl;exact q G m v (E.trans (s.trans L)) B y
noncomputable def OpS1 (K:Zg) (r:V->Hp->VK->Prop) (o:W->Option (W×Bool)):Prop:=∀F H w v b Q,Same F H->RepB K F H w v->o w=Za b->(∀u a,Out K F H b u a->Q u a)->r v H Q
theorem zwy (g:OpS1 K r o)(h:tE K (gOp1 o a) σ H Q):tUn r (tA K a) σ H Q:=by
 nofun;obtain⟨F,p,f,n,j,R,h,q⟩:=h;obtain⟨⟨k,x⟩,e,h⟩:=bS h;obtain⟨w,c,h⟩:=bS h;obtain⟨D,B,h⟩:=bS h;ac_rfl;cases h;refine⟨F,p,f,k,x,R,e,λC d u s b l=>?_⟩;refine g C d w u j Q b.sub (l.repB b c) B λv i z=>?_;nofun;obtain⟨t,A,m,y⟩:=z.close b;ac_rfl;exact q t i v (s.trans A) m y
inductive RepBs (K:Zg) (F H:Hp):List W->List V->Prop where
 |nil:RepBs K F H [] []
 |cons {w:W}{v:V}{ws:List W}{vs:List V} (h:RepB K F H w v) (r:RepBs K F H ws vs):RepBs K F H (w::ws) (v::vs)
theorem ArgRs.repBs (R:Rel K F pr en σ H):∀{xs:List (W ⊕ Nat)}{vs:List V}{ws:List W},ArgRs K F σ xs vs->za2 en xs=Za ws->RepBs K F H ws vs
 |_,_,_,.nil,e=>by obtain rfl:=sI e;exact .nil
 | _,_,_,.cons h r,e=>by
  obtain⟨w,b,e⟩:=bS e;obtain⟨ws,a,e⟩:=bS e;obtain rfl:=sI e;exact .cons (h.repB R b) (ArgRs.repBs R r a)
noncomputable def OpSN (K:Zg) (r:List V->Hp->VK->Prop) (o:List W->Option (W×Bool)):Prop:=∀F H w v b Q,Same F H->RepBs K F H w v->o w=Za b->(∀u a,Out K F H b u a->Q u a)->r v H Q
theorem zza (f:OpSN K r o)(h:tE K (gOpN o as) σ H Q):tCB r (tAs K as) σ H Q:=by
 nofun;obtain⟨F,p,e,m,i,R,h,q⟩:=h;obtain⟨⟨j,x⟩,d,h⟩:=bS h;obtain⟨w,b,h⟩:=bS h;obtain⟨C,A,h⟩:=bS h;ac_rfl;cases h;refine⟨F,p,e,j,x,R,d,λB c t s a k=>?_⟩;refine f B c w t i Q a.sub (k.repBs a b) A λv g z=>?_;nofun;obtain⟨n,u,l,y⟩:=z.close a;ac_rfl;exact q n g v (s.trans u) l y
theorem Res.isBl (h:Res K F H pr en σ (.bl b,fl) v):v=.bl b:=by
 cases fl with
 |false=>cases (show Rep K F (.bl b) v from h);rfl
 |true=>obtain⟨_,_,_,e,_,_,_,q,_⟩:=h;subst e;cases q
theorem zgb (j:∀σ H Q,tE K g σ H Q->t σ H Q) (h:tT K (zak g) σ H Q):z37 t σ H Q:=by
 obtain⟨F,l,a,i,b,R,h,q⟩:=h;unfold zak at h;refine j σ H _ ?_;cases e:g a with
 |none=>simp only [e] at h;exact noSome h
 | some p =>
  obtain⟨m,w,fl⟩:=p;cases w with
  |bl c=>simp only [e] at h;cases h;exact⟨F,l,a,_,_,R,e,λk f v s d z=>⟨b,z.isBl,q k f s d⟩⟩
  |_=>simp only [e] at h;exact noSome h
theorem zw6 (h:tE K (gAnd a b) σ H Q):z5n (tE K a) (tE K b) σ H Q:=by
 nofun;obtain⟨F,i,f,d,r,R,h,q⟩:=h;ac_rfl;unfold gAnd at h;cases e:a f with
 |none=>simp only [e] at h;exact noSome h
 | some p =>
  obtain⟨k,w,fl⟩:=p;cases w with
  | bl c =>
   refine⟨F,i,f,_,_,R,e,λg m v s j z=>⟨c,z.isBl,?_⟩⟩;cases c with
   | true =>
    simp only [e] at h;exact iteT ⟨g,i,k,d,r,j,h,λl t v o R2 n=>q l t v (s.trans o) R2 n⟩
   | false =>
    simp only [e] at h;cases h;exact iteF (q g m _ s j (.bl Zc))
  |_=>simp only [e] at h;exact noSome h
theorem zwv (h:tE K (gNot a) σ H Q):z8g (tE K a) σ H Q:=by
 obtain⟨F,i,b,f,r,R,h,q⟩:=h;unfold gNot at h;cases e:a b with
 |none=>simp only [e] at h;exact noSome h
 | some p =>
  obtain⟨k,w,fl⟩:=p;cases w with
  | bl c =>
   simp only [e] at h;cases h;exact⟨F,i,b,_,_,R,e,λg d v s j z=>⟨c,z.isBl,q g d _ s j (.bl _)⟩⟩
  |_=>simp only [e] at h;exact noSome h
theorem zqt (h:tT K (zif a b) σ H Q):tAnd (tT K a) (tT K b) σ H Q:=by
 nofun;obtain⟨F,i,f,d,r,R,h,q⟩:=h;ac_rfl;unfold zif at h;cases e:a f with
 |none=>simp only [e] at h;exact noSome h
 | some p =>
  obtain⟨k,c⟩:=p;refine⟨F,i,f,_,_,R,e,λg m s j=>?_⟩;cases c with
  |true=>simp only [e] at h;exact iteT ⟨g,i,k,d,r,j,h,λl o n R2=>q l o (s.trans n) R2⟩
  |false=>simp only [e] at h;cases h;exact iteF (q g m s j)
theorem zvh (h:tT K (gOrT a b) σ H Q):tOr (tT K a) (tT K b) σ H Q:=by
 nofun;obtain⟨F,i,f,d,r,R,h,q⟩:=h;ac_rfl;unfold gOrT at h;cases e:a f with
 |none=>simp only [e] at h;exact noSome h
 | some p =>
  obtain⟨k,c⟩:=p;refine⟨F,i,f,_,_,R,e,λg m s j=>?_⟩;cases c with
  |false=>simp only [e] at h;exact iteF ⟨g,i,k,d,r,j,h,λl o n R2=>q l o (s.trans n) R2⟩
  |true=>simp only [e] at h;cases h;exact iteT (q g m s j)
theorem zsa (h:tT K (zju a) σ H Q):tNot (tT K a) σ H Q:=by
 obtain⟨F,i,b,f,r,R,h,q⟩:=h;unfold zju at h;cases e:a b with
 |none=>simp only [e] at h;exact noSome h
 | some p =>
  obtain⟨k,c⟩:=p;simp only [e] at h;cases h;exact⟨F,i,b,_,_,R,e,λg d s j=>q g d s j⟩
theorem z2r (h:tE K (gIf c a b) σ H Q):tIf (tT K c) (tE K a) (tE K b) σ H Q:=by
 nofun;obtain⟨F,j,l,f,r,R,h,q⟩:=h;ac_rfl;unfold gIf at h;cases e:c l with
 |none=>simp only [e] at h;exact noSome h
 | some p =>
  obtain⟨k,d⟩:=p;refine⟨F,j,l,_,_,R,e,λm t n o=>?_⟩;cases d with
  |true=>simp only [e] at h;exact iteT ⟨m,j,k,f,r,o,h,λg i v s R2 z=>q g i v (n.trans s) R2 z⟩
  |false=>simp only [e] at h;exact iteF ⟨m,j,k,f,r,o,h,λg i v s R2 z=>q g i v (n.trans s) R2 z⟩
end
noncomputable def zbn:List (W ⊕ Nat)->Option (List W)
 |[]=>Za []
 |.inl w::x=>(zbn x).bind λa=>Za (w::a)
 |.inr _::_=>Zb
theorem ArgRs.reps {K:Zg}:∀{xs:List (W ⊕ Nat)}{vs:List V}{ws:List W},ArgRs K F σ xs vs->zbn xs=Za ws->Reps K F ws vs
 |_,_,_,.nil,e=>by obtain rfl:=sI e;exact .nil
 | .inl w::xs,_,_,.cons h r,e=>by
  obtain⟨ws,a,e⟩:=bS (show (zbn xs).bind _=_ from e);obtain rfl:=sI e;exact .cons h (ArgRs.reps r a)
 |.inr i::xs,_,_,.cons h r,e=>by exact noSome e
noncomputable def zcb (as:GAs):GE:=λe=>(as e).bind λp=>(zbn p.2).bind λw=>if w.length<=sizeLine then Za (p.1,(.tup w,Zc)) else Zb
noncomputable def za0 (as:GAs):GE:=λe=>(as e).bind λp=>(zbn p.2).bind λw=>if w.length<=sizeLine then Za (p.1,(.lst w,Zd)) else Zb
section
variable {K:Zg}
theorem zwe (h:tE K (zcb as) σ H Q):tTup (tAs K as) σ H Q:=by
 obtain⟨F,d,e,k,r,R,h,q⟩:=h;obtain⟨⟨f,x⟩,b,h⟩:=bS h;obtain⟨w,j,h⟩:=bS h;split at h
 ·rename_i c;cases h;refine⟨F,d,e,f,x,R,b,λt o v l m i=>?_⟩;have a:=i.reps j;refine⟨by rw[<-a.length];exact c,λp n=>?_⟩;obtain⟨g,s,R2,z⟩:=(Out.tup (K:=K) n a).close m;exact q g _ _ (l.trans s) R2 z
 ·exact noSome h
theorem zxk (h:tE K (za0 as) σ H Q):tLst (tAs K as) σ H Q:=by
 nofun;obtain⟨F,d,e,k,r,R,h,q⟩:=h;obtain⟨⟨f,x⟩,b,h⟩:=bS h;obtain⟨w,j,h⟩:=bS h;ac_rfl;split at h
 ·rename_i c;cases h;refine⟨F,d,e,f,x,R,b,λt o v l m i=>?_⟩;have a:=i.reps j;refine⟨by rw[<-a.length];exact c,λp n=>?_⟩;nofun;obtain⟨g,s,R2,z⟩:=(Out.lst (K:=K) n a).close m;ac_rfl;exact q g _ _ (l.trans s) R2 z
 ·exact noSome h
noncomputable def zoe (o f:W->W->Option (W×Bool)) (a b c:GA):GE:=λe=>(a e).bind λp=>(b p.1).bind λq=>(resA q.1 p.2).bind λw=>(resA q.1 q.2).bind λu=>match o w u with
 |some #v[8,10]=>(c q.1).bind λt=>(resA t.1 q.2).bind λd=>(resA t.1 t.2).bind λz=>(f d z).bind λr=>Za (t.1,r)
 |some #v[9,7]=>Za (q.1,#v[9,7])
 |_=>Zb
theorem zho (V:OpS K r o) (j:OpS K r' o') (h:tE K (zoe o o' a b c) σ H Q):zt7 r r' (tA K a) (tA K b) (tA K c) σ H Q:=by
 nofun;obtain⟨F,m,N,en',rv,R,h,q⟩:=h;obtain⟨⟨G,P⟩,M,h⟩:=bS h;obtain⟨⟨E,x2⟩,h2,h⟩:=bS h;obtain⟨C,u,h⟩:=bS h;obtain⟨x,t,h⟩:=bS h;ac_rfl;refine⟨F,m,N,G,P,R,M,λF1 H1 v1 I R1 a1=>⟨F1,m,G,E,x2,R1,h2,λn A L s R2 B=>?_⟩⟩;cases e:o C x with
 |none=>simp only [e] at h;exact noSome h
 | some p =>
  obtain⟨w,fl⟩:=p;cases w with
  | bl k =>
   cases fl with
   |true=>simp only [e] at h;cases k<;>exact noSome h
   | false =>
    refine V n A C x v1 L _ _ R2.sub ((a1.mono s).repB R2 u) (B.repB R2 t) e λv D z=>?_;cases z with
    | val z =>
     cases z;refine⟨k,rfl,?_⟩;cases k with
     | false =>
      simp only [e] at h;cases h;exact iteF (q n A _ (I.trans s) R2 (.bl Zc))
     | true =>
      simp only [e] at h;nofun;obtain⟨⟨O,X⟩,Y,h⟩:=bS h;obtain⟨i,d,h⟩:=bS h;obtain⟨U,l,h⟩:=bS h;obtain⟨r3,g,h⟩:=bS h;ac_rfl;cases h;refine iteT ⟨n,m,E,O,X,R2,Y,λF3 S T J f Z=>?_⟩;refine j F3 S i U L T _ _ f.sub ((B.mono J).repB f d) (Z.repB f l) g λv D z=>?_;nofun;obtain⟨F4,W,R4,y⟩:=z.close f;ac_rfl;exact q F4 D v (I.trans (s.trans (J.trans W))) R4 y
  |_=>simp only [e] at h;exact noSome h
end
section
variable {K:Zg}
theorem RepB.int (h:RepB K F H (.int i) v):v=.int i:=by
 rcases h with h|⟨_,_,_,e,_,_,q⟩
 ·cases h;rfl
 ·subst e;cases q
theorem RepB.bl (h:RepB K F H (.bl b) v):v=.bl b:=by
 rcases h with h|⟨_,_,_,e,_,_,q⟩
 ·cases h;rfl
 ·subst e;cases q
theorem RepB.str (h:RepB K F H (.str x) v):v=.str x:=by
 rcases h with h|⟨_,_,_,e,_,_,q⟩
 ·cases h;rfl
 ·subst e;cases q
theorem RepB.non (h:RepB K F H .non v):v=.non:=by
 rcases h with h|⟨_,_,_,e,_,_,q⟩
 ·cases h;rfl
 ·subst e;cases q
theorem RepB.lst {ws:List W}(s:Same F H)(h:RepB K F H (.lst ws) v):∃a vs,v=.ref a/\H a=Za (.lst vs)/\Reps K F ws vs:=by
 rcases h with h|⟨a,o,w,e,b,h,r⟩
 ·cases h with
  |lst h r=>exact⟨_,_,rfl,s _ _ h,r⟩
 ·subst e;obtain⟨vs,rfl,c⟩:=r.list;exact⟨a,vs,b,h,c⟩
theorem RepB.tup {ws:List W}(s:Same F H)(h:RepB K F H (.tup ws) v):∃a vs,v=.ref a/\H a=Za (.tup vs)/\F a=Za (.tup vs)/\Reps K F ws vs:=by
 rcases h with h|⟨_,_,_,e,_,_,q⟩
 ·cases h with
  |tup h r=>exact⟨_,_,rfl,s _ _ h,h,r⟩
 ·subst e;cases q
theorem RepB.frl (s:Same F H)(h:RepB K F H (.frl ws) v):∃a vs,v=.ref a/\SqL K H a vs/\Reps K F ws vs:=by
 rcases h with h|⟨_,_,_,e,_,_,q⟩
 ·cases h with
  |frl h r=>exact⟨_,_,rfl,s.seq h,r⟩
 ·subst e;cases q
noncomputable def seqL:W->Option (List W)
 |.lst w=>Za w
 |.frl w=>Za w
 |_=>Zb
noncomputable def seqW:W->Option (List W)
 |.lst w=>Za w
 |.frl w=>Za w
 |.tup w=>Za w
 |_=>Zb
theorem RepB.seqL (s:Same F H)(h:RepB K F H w v)(e:L2.seqL w=Za ws):∃a vs,v=.ref a/\SqL K H a vs/\Reps K F ws vs:=by
 cases w with
 |lst x=>obtain rfl:=sI e;obtain⟨a,vs,e,h,r⟩:=h.lst s;exact⟨a,vs,e,SqL.of' h,r⟩
 |frl x=>obtain rfl:=sI e;exact h.frl s
 |_=>exact noSome e
theorem RepB.seqW (s:Same F H)(h:RepB K F H w v)(e:L2.seqW w=Za ws):∃a vs,v=.ref a/\(SqL K H a vs\/SqT K H a vs)/\Reps K F ws vs:=by
 cases w with
 |lst x=>obtain rfl:=sI e;obtain⟨a,vs,e,h,r⟩:=h.lst s;exact⟨a,vs,e,.inl (SqL.of' h),r⟩
 |frl x=>obtain rfl:=sI e;obtain⟨a,vs,e,h,r⟩:=h.frl s;exact⟨a,vs,e,.inl h,r⟩
 |tup x=>obtain rfl:=sI e;obtain⟨a,vs,e,h,_,r⟩:=h.tup s;exact⟨a,vs,e,.inr (.inl (.inl h)),r⟩
 |_=>exact noSome e
end
noncomputable abbrev O2:=W->W->Option (W×Bool)
noncomputable def oI (c:Int->Int->Bool) (g:Int->Int->W):O2
 |.int i,.int j=>if c i j then #v[g i j,6] else Zb
 |_,_=>Zb
section
variable {K:Zg}
theorem zlo (h:∀i j,c i j=Zd->C i j) (d:∀F i j,Rep K F (g i j) (g' i j)):OpS K (rI C g') (oI c g):=λF H w b v k f Q s r a e q=>by
 cases w with
 | int i =>
  cases b with
  | int j =>
   unfold oI at e;simp only at e;split at e
   ·rename_i z
    obtain rfl:=sI e;exact⟨i,j,r.int,a.int,h i j z,q _ _ (.val (d F i j))⟩
   ·exact noSome e
  |_=>exact noSome e
 |_=>exact noSome e
theorem zb3 (h:∀F i j,Rep K F (g i j) (g' i j)):OpS K (rI0 g') (oI (λ_ _=>Zd) g):=λF H w b v d c Q s r a e q=>by
 cases w with
 | int i =>
  cases b with
  |int j=>obtain rfl:=sI e;exact⟨i,j,r.int,a.int,q _ _ (.val (h F i j))⟩
  |_=>exact noSome e
 |_=>exact noSome e
theorem OpS.or (h:OpS K r o)(h':OpS K r' o'):OpS K (λx y H Q=>r x y H Q\/r' x y H Q) (λa b=>match o a b with|some p=>Za p|none=>o' a b):=λF H w c v g i Q s d f e q=>by
 cases z:o w c with
 |some p=>simp only [z] at e;obtain rfl:=sI e;exact .inl (h F H w c v g _ Q s d f z q)
 |none=>simp only [z] at e;exact .inr (h' F H w c v g _ Q s d f e q)
end
noncomputable def oOr (o c:O2):O2:=λa b=>match o a b with|some p=>Za p|none=>c a b
noncomputable def oCat:O2
 |.lst x,.lst y=>if x.length+y.length<=sizeLine then #v[(x++y),2] else Zb
 |_,_=>Zb
noncomputable def zvj:O2
 |.tup (x::a),.tup y=>if (x::a).length+y.length<=sizeLine then #v[(x::a++y),3] else Zb
 |_,_=>Zb
noncomputable def z1g:O2
 |.tup [],.tup y=>#v[y,3]
 |_,_=>Zb
noncomputable def yad:O2
 |.str x,.str y=>if x.length+y.length<=sizeLine then Za (.str (x++y),Zc) else Zb
 |_,_=>Zb
noncomputable def oRep:O2
 |.lst x,.int k=>if -(2^63)<=k/\k<2^63/\x.length*k.toNat<=sizeLine then #v[(List.replicate k.toNat x).flatten,2] else Zb
 |_,_=>Zb
section
variable {K:Zg}
theorem z4c:OpS K rCat oCat:=λF H w k m o n Q s r j e q=>by
 cases w with
 | lst x =>
  cases k with
  | lst y =>
   unfold oCat at e;simp only at e;split at e
   ·rename_i z
    obtain rfl:=sI e;nofun;obtain⟨a,v,f,g,c⟩:=r.lst s;obtain⟨b,u,l,i,d⟩:=j.lst s;ac_rfl;exact⟨a,b,v,u,f,l,g,i,by rw[<-c.length,<-d.length];exact z,λp h=>q _ _ (.lst h (c.append d))⟩
   ·exact noSome e
  |_=>exact noSome e
 |_=>exact noSome e
theorem z2a:OpS K rRep oRep:=λF H w g i l j Q s r f e q=>by
 cases w with
 | lst x =>
  cases g with
  | int k =>
   unfold oRep at e;simp only at e;split at e
   ·rename_i z
    obtain rfl:=sI e;obtain⟨a,v,c,d,b⟩:=r.lst s;exact⟨a,k,v,c,f.int,d,z.1,z.2.1,by rw[<-b.length];exact z.2.2,λp h=>q _ _ (.lst h (b.rep _))⟩
   ·exact noSome e
  |_=>exact noSome e
 |_=>exact noSome e
theorem zzd:OpS K (z7m K) zvj:=λF H i w B C t Q s o r e q=>by
 cases i with
 | tup f =>
  cases f with
  |nil=>cases w<;>exact noSome e
  | cons x f =>
   cases w with
   | tup A =>
    unfold zvj at e;simp only at e;split at e
    ·rename_i z
     obtain rfl:=sI e;nofun;obtain⟨a,v,k,g,m,c⟩:=o.tup s;obtain⟨b,u,j,l,y,d⟩:=r.tup s;ac_rfl;refine⟨a,b,v,u,k,j,.inl (.inl g),.inl (.inl l),?_,by rw[<-c.length,<-d.length];exact z,λh=>?_,λ_ p n=>q _ _ (.tup n (c.append d))⟩
     ·intro e;subst e;cases c
     ·subst h
      cases d;rw[Bm] at q;exact q _ _ (.val (.tup m c))
    ·exact noSome e
   |_=>exact noSome e
 |_=>exact noSome e
mutual
inductive DV (H:Hp):V->PyData->Prop where
 |non:DV H .non .none
 |bl (b:Bool):DV H (.bl b) (.bool b)
 |int (i:Int):DV H (.int i) (.int i)
 |str (x:Str):DV H (.str x) (.str x)
 |tup {a:Zh}{vs:List V}{ds:List PyData} (h:H a=Za (.tup vs)) (r:DVs H vs ds):DV H (.ref a) (.tuple ds)
 |lst {a:Zh}{vs:List V}{ds:List PyData} (h:H a=Za (.lst vs)) (r:DVs H vs ds):DV H (.ref a) (.list ds)
inductive DVs (H:Hp):List V->List PyData->Prop where
 |nil:DVs H [] []
 |cons {v:V}{d:PyData}{vs:List V}{ds:List PyData} (h:DV H v d) (r:DVs H vs ds):DVs H (v::vs) (d::ds)
end
section
mutual
theorem DV.reads (I:Inv X pins σ H s):∀{v:V}{d:PyData}{u:Ze},DV H v d->RelV v u->∃as,Reads s.heap u d as
 |_,_,_,.non,r=>by cases (show _=Ze.none from r);exact⟨_,.none⟩
 |_,_,_,.bl b,r=>by cases (show _=Ze.bool b from r);exact⟨_,.bool b⟩
 |_,_,_,.int i,r=>by obtain⟨t,e⟩:=(show ∃t,_=Ze.int i t from r);subst e;exact⟨_,.int i t⟩
 |_,_,_,.str x,r=>by obtain⟨t,e⟩:=(show ∃t,_=Ze.str x t from r);subst e;exact⟨_,.str x t⟩
 | _,_,_,.tup h q,r=>by
  cases r;obtain⟨a,j,⟨o,e,c,n,f⟩,_⟩:=I.tuple (.inl (.inl h));obtain⟨as,g⟩:=DVs.reads I q j;exact⟨as,.tuple e c f (by simpa using g)⟩
 | _,_,_,.lst h q,r=>by
  cases r;obtain⟨a,j,⟨o,n,e,c,_,f⟩,_⟩:=I.list (SqL.of' h);obtain⟨as,g⟩:=DVs.reads I q j;exact⟨_,.list e c f (by simpa using g)⟩
theorem DVs.reads (I:Inv X pins σ H s):∀{vs:List V}{ds:List PyData}{u:List Ze},DVs H vs ds->Vals vs u->∃as,ReadsAll s.heap u ds as
 |_,_,_,.nil,r=>by cases r;exact⟨_,.nil⟩
 | _,_,_,.cons h q,r=>by
  cases r with
  | cons c d =>
   obtain⟨as,a⟩:=DV.reads I h c;obtain⟨bs,b⟩:=DVs.reads I q d;exact⟨_,.cons a b⟩
end
end
mutual
noncomputable def dW:W->Option PyData
 |.non=>Za .none
 |.bl b=>Za (.bool b)
 |.int i=>Za (.int i)
 |.str x=>Za (.str x)
 |.tup w=>(dWs w).bind λds=>Za (.tuple ds)
 |.lst w=>(dWs w).bind λds=>Za (.list ds)
 |_=>Zb
noncomputable def dWs:List W->Option (List PyData)
 |[]=>Za []
 |w::a=>(dW w).bind λd=>(dWs a).bind λds=>Za (d::ds)
end
section
variable {K:Zg}
mutual
theorem z01 (s:Same F H):∀{w:W}{v:V}{d:PyData},Rep K F w v->dW w=Za d->DV H v d
 |_,_,_,.non,e=>by obtain rfl:=sI e;exact .non
 |_,_,_,.bl b,e=>by obtain rfl:=sI e;exact .bl b
 |_,_,_,.int i,e=>by obtain rfl:=sI e;exact .int i
 |_,_,_,.str x,e=>by obtain rfl:=sI e;exact .str x
 | _,_,_,.tup h r,e=>by
  rw[dW] at e;obtain⟨ds,a,c⟩:=bS e;obtain rfl:=sI c;exact .tup (s _ _ h) (zi1 s r a)
 | _,_,_,.lst h r,e=>by
  rw[dW] at e;obtain⟨ds,a,c⟩:=bS e;obtain rfl:=sI c;exact .lst (s _ _ h) (zi1 s r a)
 |_,_,_,.frl _ _,e=>by exact noSome e
 |_,_,_,.dic _,e=>by exact noSome e
 |_,_,_,.dct _ _ _,e=>by exact noSome e
 |_,_,_,.dctT _ _ _,e=>by exact noSome e
 |_,_,_,.dcz _ _ _,e=>by exact noSome e
 |_,_,_,.dczT _ _ _,e=>by exact noSome e
theorem zi1 (s:Same F H):∀{ws:List W}{vs:List V}{ds:List PyData},Reps K F ws vs->dWs ws=Za ds->DVs H vs ds
 |_,_,_,.nil,e=>by cases e;exact .nil
 | _,_,_,.cons h r,e=>by
  rw[dWs] at e;obtain⟨d,a,e⟩:=bS e;obtain⟨ds,b,c⟩:=bS e;cases c;exact .cons (z01 s h a) (zi1 s r b)
end
theorem zs7 (s:Same F H) (r:RepB K F H w v) (b:dW w=Za d):DV H v d:=by
 rcases r with r|⟨a,o,u,z,rfl,h,q⟩
 ·exact z01 s r b
 ·subst z
  cases q with
  |dct f q=>exact noSome b
  |dctT f q=>exact noSome b
  | lst q =>
   rw[dW] at b;obtain⟨ds,e,c⟩:=bS b;obtain rfl:=sI c;exact .lst h (zi1 s q e)
end
noncomputable def rEqD (g:Bool->Bool):R2:=λx y H Q=>∃d a,DV H x d/\DV H y a/\d.canLay0=Zd/\a.canLay0=Zd/\d.depth<=100/\Q (.bl (g (PyData.eqv d a))) H
theorem z72 (f:Room k X.A):OpR X (compareOp .Eq) (rEqD id):=by
 intro pins s σ H x y v u Q I r i h;nofun;obtain⟨d,l,a,j,c,e,m,q⟩:=h;obtain⟨n,g⟩:=a.reads I r;obtain⟨bs,b⟩:=j.reads I i;ac_rfl;exact SeqAt.compareEq_reads g b c e (by have:=f.un;symm) ⟨.bl _,H,I,rfl,q⟩
theorem z56 (g:Room k X.A):OpR X (compareOp .NotEq) (rEqD not):=by
 intro pins s σ H x y v u Q I r j h;nofun;obtain⟨d,b,a,l,e,f,n,q⟩:=h;obtain⟨m,i⟩:=a.reads I r;obtain⟨bs,c⟩:=l.reads I j;ac_rfl;exact SeqAt.neOverData X.prog X.w X.A X.xe s v u d b m bs _ i c e f (by have:=g.un;symm) ⟨.bl _,H,I,rfl,q⟩
noncomputable def eqD (a b:W):Option Bool:=(dW a).bind λd=>(dW b).bind λc=>if d.canLay0&&c.canLay0&&decide (d.depth<=100) then Za (PyData.eqv d c) else Zb
theorem zz3 {K:Zg}(s:Same F H)(r:RepB K F H w1 v1)(a:RepB K F H w2 v2)(e:eqD w1 w2=Za k):∃d d',DV H v1 d/\DV H v2 d'/\d.canLay0=Zd/\d'.canLay0=Zd/\d.depth<=100/\k=PyData.eqv d d':=by
 nofun;obtain⟨d,h,e⟩:=bS e;obtain⟨d',b,e⟩:=bS e;ac_rfl;split at e
 ·rename_i z;rw[Af,Af] at z;obtain rfl:=sI e;exact⟨d,d',zs7 s r h,zs7 s a b,z.1.1,z.1.2,Ap z.2,rfl⟩
 ·exact noSome e
noncomputable def z2z:W->W->Option Bool
 |.non,.non=>Za Zd|.non,.int _=>Za Zc|.int _,.non=>Za Zc|.non,.bl _=>Za Zc|.bl _,.non=>Za Zc|.non,.str _=>Za Zc|.str _,.non=>Za Zc
 |.int i,.int j=>Za (decide (i=j))|.bl i,.bl j=>Za (decide (i=j))|.str i,.str j=>Za (decide (i=j))
 |.int _,.str _=>Za Zc|.str _,.int _=>Za Zc|.bl _,.str _=>Za Zc|.str _,.bl _=>Za Zc
 |_,_=>Zb
noncomputable def oEq:O2:=λa b=>match z2z a b with
 |some k=>Za (.bl k,Zc)
 |none=>(eqD a b).bind λk=>Za (.bl k,Zc)
noncomputable def oNe:O2:=λa b=>match z2z a b with
 |some k=>Za (.bl (!k),Zc)
 |none=>(eqD a b).bind λk=>Za (.bl (!k),Zc)
theorem zny (a:RepB K F H w1 v1) (r:RepB K F H w2 v2) (e:z2z w1 w2=Za k):scal v1 v2=Zd/\decide (v1=v2)=k:=by
 cases w1 with
 | non =>
  have:=a.non;subst this;cases w2 with
  |non=>have:=r.non;subst this;obtain rfl:=sI e;exact⟨rfl,by decide⟩
  |int j=>have:=r.int;subst this;obtain rfl:=sI e;exact⟨rfl,by simp⟩
  |bl j=>have:=r.bl;subst this;obtain rfl:=sI e;exact⟨rfl,by simp⟩
  |str j=>have:=r.str;subst this;obtain rfl:=sI e;exact⟨rfl,by simp⟩
  |_=>exact noSome e
 | int i =>
  have:=a.int;subst this;cases w2 with
  |non=>have:=r.non;subst this;obtain rfl:=sI e;exact⟨rfl,by simp⟩
  |int j=>have:=r.int;subst this;obtain rfl:=sI e;exact⟨rfl,by simp⟩
  |str j=>have:=r.str;subst this;obtain rfl:=sI e;exact⟨rfl,by simp⟩
  |_=>exact noSome e
 | bl i =>
  have:=a.bl;subst this;cases w2 with
  |non=>have:=r.non;subst this;obtain rfl:=sI e;exact⟨rfl,by simp⟩
  |bl j=>have:=r.bl;subst this;obtain rfl:=sI e;exact⟨rfl,by simp⟩
  |str j=>have:=r.str;subst this;obtain rfl:=sI e;exact⟨rfl,by simp⟩
  |_=>exact noSome e
 | str i =>
  have:=a.str;subst this;cases w2 with
  |non=>have:=r.non;subst this;obtain rfl:=sI e;exact⟨rfl,by simp⟩
  |int j=>have:=r.int;subst this;obtain rfl:=sI e;exact⟨rfl,by simp⟩
  |bl j=>have:=r.bl;subst this;obtain rfl:=sI e;exact⟨rfl,by simp⟩
  |str j=>have:=r.str;subst this;obtain rfl:=sI e;exact⟨rfl,by simp⟩
  |_=>exact noSome e
 |_=>cases w2<;>exact noSome e
theorem z9i:OpS K (λx y H Q=>rEq x y H Q\/rEqD id x y H Q) oEq:=λF H w l v n m Q s r c e q=>by
 unfold oEq at e;split at e
 ·rename_i k b;obtain rfl:=sI e;obtain⟨h,a⟩:=zny r c b;refine .inl ⟨h,?_⟩;rw[a];exact q _ _ (.val (.bl k))
 ·obtain⟨k,b,e⟩:=bS e;obtain rfl:=sI e;nofun;obtain⟨d,f,g,i,h,a,j,rfl⟩:=zz3 s r c b;ac_rfl;exact .inr ⟨d,f,g,i,h,a,j,q _ _ (.val (.bl _))⟩
theorem z53:OpS K (λx y H Q=>rNe x y H Q\/rEqD not x y H Q) oNe:=λF H w l v n m Q s r c e q=>by
 unfold oNe at e;split at e
 ·rename_i k b;obtain rfl:=sI e;obtain⟨h,a⟩:=zny r c b;refine .inl ⟨h,?_⟩;rw[a];exact q _ _ (.val (.bl _))
 ·obtain⟨k,b,e⟩:=bS e;obtain rfl:=sI e;nofun;obtain⟨d,f,g,i,h,a,j,rfl⟩:=zz3 s r c b;ac_rfl;exact .inr ⟨d,f,g,i,h,a,j,q _ _ (.val (.bl _))⟩
noncomputable def isW:W->W->Option Bool
 |.non,.non=>Za Zd
 |_,.non=>Za Zc
 |.bl a,.bl b=>Za (decide (a=b))
 |_,.bl _=>Za Zc
 |_,_=>Zb
noncomputable def rIs:R2:=λx y H Q=>(y=.non/\Q #v[2,20] H)\/(∃b,y=.bl b/\Q (.bl (decide (x=.bl b))) H)
noncomputable def z8t:R2:=λx y H Q=>(y=.non/\Q (.bl (!decide (x=.non))) H)\/(∃b,y=.bl b/\Q (.bl (!decide (x=.bl b))) H)
noncomputable def oIs:O2:=λa b=>(isW a b).bind λk=>Za (.bl k,Zc)
noncomputable def zh8:O2:=λa b=>(isW a b).bind λk=>Za (.bl (!k),Zc)
theorem RepB.noBl (r:RepB K F H w v)(h:∀b,w≠.bl b)(b:Bool):v≠.bl b:=λe=>by
 subst e;rcases r with r|⟨_,_,_,_,e,_⟩
 ·cases r;exact h b rfl
 ·cases e
theorem RepB.noNon (r:RepB K F H w v)(h:w≠.non):v≠.non:=λe=>by
 subst e;rcases r with r|⟨_,_,_,_,e,_⟩
 ·cases r;exact h rfl
 ·cases e
theorem z0f (r:RepB K F H w1 v1) (c:RepB K F H w2 v2) (e:isW w1 w2=Za k):(v2=.non/\decide (v1=.non)=k)\/(∃b,v2=.bl b/\decide (v1=.bl b)=k):=by
 cases w2 with
 | non =>
  refine .inl ⟨c.non,?_⟩;cases w1 with
  |non=>obtain rfl:=sI e;rw[r.non];rfl
  |_=>obtain rfl:=sI e;exact Az (r.noNon (by simp))
 | bl b =>
  refine .inr ⟨b,c.bl,?_⟩;cases w1 with
  |bl a=>obtain rfl:=sI e;rw[r.bl];simp
  |_=>obtain rfl:=sI e;exact Az (r.noBl (by simp) b)
 |_=>cases w1<;>exact noSome e
theorem z7q:OpS K rIs oIs:=λF H w f v i g Q s r c e q=>by
 obtain⟨k,d,e⟩:=bS e;obtain rfl:=sI e;rcases z0f r c d with⟨h,a⟩|⟨b,h,a⟩
 ·exact .inl ⟨h,by rw[a];exact q _ _ (.val (.bl k))⟩
 ·exact .inr ⟨b,h,by rw[a];exact q _ _ (.val (.bl k))⟩
theorem zu3:OpS K z8t zh8:=λF H w f v i g Q s r c e q=>by
 obtain⟨k,d,e⟩:=bS e;obtain rfl:=sI e;rcases z0f r c d with⟨h,a⟩|⟨b,h,a⟩
 ·exact .inl ⟨h,by rw[a];exact q _ _ (.val (.bl _))⟩
 ·exact .inr ⟨b,h,by rw[a];exact q _ _ (.val (.bl _))⟩
noncomputable def oIx:O2
 |a,.int i=>(seqW a).bind λb=>(atI b i).bind λw=>#v[w,6]
 |_,_=>Zb
theorem zwd (r:Reps K F ws vs)(h:atI ws i=Za w):∃v,atI vs i=Za v/\Rep K F w v:=by
 unfold atI at h ⊢;rw[<-r.length];obtain⟨j,c,a⟩:=bS h;obtain⟨v,d,b⟩:=r.get a;exact⟨v,by rw[c];exact d,b⟩
noncomputable def rIxB (K:Zg):R2:=λx y H Q=>rIxL K x y H Q\/rIxT K x y H Q
theorem z6z:OpS K (rIxB K) oIx:=λF H c l n t r Q s k d e q=>by
 cases l with
 | int i =>
  obtain⟨o,j,e⟩:=bS (show (seqW c).bind _=_ from e);obtain⟨w,m,e⟩:=bS e;obtain rfl:=sI e;obtain⟨a,g,b,h,p⟩:=k.seqW s j;obtain⟨v,f,r⟩:=zwd p m;rcases h with h|h
  ·exact .inl ⟨a,g,i,v,b,d.int,h,f,q _ _ (.val r)⟩
  ·exact .inr ⟨a,g,i,v,b,d.int,h,f,q _ _ (.val r)⟩
 |_=>cases c<;>exact noSome e
noncomputable def oNeg:W->Option (W×Bool)
 |.int i=>#v[(-i),0]
 |_=>Zb
theorem z49:OpS1 K (rU λi=>.int (-i)) oNeg:=λF H w v a Q s r e q=>by
 cases w with
 |int i=>obtain rfl:=sI e;exact⟨i,r.int,q _ _ (.val (.int _))⟩
 |_=>exact noSome e
end
theorem zia:∀(ns:List Int) (k:Nat),k<=ns.length->preSum (λi=>ns.getD i 0) k=(ns.take k).sum
 |ns,0,_=>rfl
 | ns,k+1,h=>by
  have b:=zia ns k (by symm);show preSum (λi=>ns.getD i 0) k+ns.getD k 0=_;rw[b,Dt,List.sum_append];have a:k<ns.length:=by symm
  rw[Ac a,Bu,Ac a];simp
section
variable {X:Cx}
theorem znd {ns:List Int}{a:List Ze}{i:Nat}{v:Ze}(r:Vals (ns.map V.int) a)(h:a[i]?=Za v):∃t,v=.int (ns.getD i 0) t:=by
 have d:=r.length;rw[Ad] at d;have c:i<ns.length:=by rw[d];exact (Ag.mp h).1
 obtain⟨u,b,f⟩:=r.get (i:=i) (x:=.int ns[i]) (by rw[Am,Ac c];rfl);rw[h] at b;obtain rfl:=sI b;obtain⟨t,e⟩:=f;exact⟨t,by rw[e,Bu,Ac c];rfl⟩
theorem zt9 (n:X.calm=Zd):zdo X (.builtin "sum") (λxs H Q=>∃(a:Zh) (ns:List Int),xs=[.ref a]/\SqL X.K H a (ns.map V.int)/\Q (.int ns.sum) H):=by
 intro pins s σ H xs E Q I r h;nofun;obtain⟨a,ns,rfl,k,q⟩:=h;obtain⟨u,rfl,t⟩:=vals1 r;ac_rfl;cases t;nofun;obtain⟨c,j,p,B⟩:=I.list k;ac_rfl;have w:=j.length;rw[Ad] at w;have g:a<s.heap.objs.size:=by obtain⟨o,e,_⟩:=p.isList;exact Ao e
 refine call_sum_walkG (Ec p.isList ?_);refine⟨s.heap.objs.size,_,[s.heap.objs.size],c.toArray.size,_,_,λi=>ns.getD i 0,rfl,Walks.list (A:=X.A.in1) (show X.A.in1.handled=Zb from I.ok.hd n) _ a (Bc g) c.toArray,⟨⟨_,Aq _ rfl,rfl,rfl⟩,p.isList.push _⟩,?_,λi v l=>znd j (by simpa using l),λC y D m=>?_⟩
 ·intro b d;have x:∀o:Obj,(s.heap.push o).objs.size=s.heap.objs.size+1:=λo=>Dh ..;have f:b=s.heap.objs.size\/b=a:=by simpa using d
  show b<(s.heap.push _).objs.size;rw[x];rcases f with rfl|rfl
  ·exact Nat.lt_succ_self _
  ·exact Ev g
 ·have e:c.toArray.size=ns.length:=by simp;symm
  rw[e,zia ns ns.length (Ae _),Db];refine⟨.int _,H,I.kept λb o d=>?_,⟨_,rfl⟩,q⟩;exact m b o (by intro z;rw[Ax] at z;subst z;exact absurd (Ao d) (Ce _)) (Ab _ d)
noncomputable def mx1 (n:Int) (r:List Int):Int:=r.foldl (λb x=>if x > b then x else b) n
theorem zrc (n:Int) (r:List Int):∀k,k<=r.length->(n::r).getD (argBest (λi j=>decide ((n::r).getD i 0 > (n::r).getD j 0)) k) 0=mx1 n (r.take k)
 |0,_=>rfl
 | k+1,h=>by
  have a:=zrc n r k (by symm);have b:k<r.length:=by symm
  have g:(n::r).getD (k+1) 0=r[k]:=by rw[List.getD_cons_succ,Bu,Ac b];rfl
  have t:mx1 n (r.take (k+1))=if r[k] > mx1 n (r.take k) then r[k] else mx1 n (r.take k):=by
   unfold mx1;rw[Dt,Ac b,List.foldl_append];rfl
  rw[t];show (n::r).getD (if decide ((n::r).getD (k+1) 0 > (n::r).getD (argBest (λi j=>decide ((n::r).getD i 0 > (n::r).getD j 0)) k) 0)=Zd then k+1 else argBest _ k) 0=_;rw[a,g];by_cases c:r[k] > mx1 n (r.take k)
  ·rw[Ah c,if_pos rfl,if_pos c,g]
  ·rw[Az c,if_neg Av,if_neg c,a]
theorem zut (w:X.calm=Zd):zdo X (.builtin "max") (λxs H Q=>(∃i j,xs=#v[2,17]/\Q (.int (if j > i then j else i)) H)\/∃(a:Zh) (n:Int) (r:List Int),xs=[.ref a]/\SqL X.K H a ((n::r).map V.int)/\Q (.int (mx1 n r)) H):=by
 intro pins s σ H xs D Q I r h;rcases h with h|h
 ·exact zsk w pins s σ H xs D Q I r h
 obtain⟨a,n,f,rfl,x,q⟩:=h;obtain⟨u,rfl,C⟩:=vals1 r;cases C;obtain⟨c,m,p,F⟩:=I.list x;have g:=m.length;rw[Ad] at g;have l:a<s.heap.objs.size:=by obtain⟨o,e,_⟩:=p.isList;exact Ao e
 have k:∀(i:Nat) (v:Ze),c.toArray[i]?=Za v->∃t,v=Ze.int ((n::f).getD i 0) t:=λi v e=>znd m (by simpa using e);refine call_max_walk (Ec p.isList ?_);refine⟨s.heap.objs.size,_,[s.heap.objs.size],c.toArray.size,_,_,_,rfl,Walks.list (A:=X.A.in1) (show X.A.in1.handled=Zb from I.ok.hd w) _ a (Bc l) c.toArray,⟨⟨_,Aq _ rfl,rfl,rfl⟩,p.isList.push _⟩,λb d=>?_,by rw[Aj,<-g];exact Nat.succ_pos _,CmpOf.ints_gt _ k,λv G E y B=>?_⟩
 ·rw[Dh];simp only [Ak,Cc,Fm] at d;rcases d with rfl|rfl
  ·exact Nat.lt_succ_self _
  ·exact Ev l
 ·obtain⟨t,rfl⟩:=k _ _ y;have e:c.toArray.size-1=f.length:=by rw[Aj,<-g];rfl
  refine⟨.int _,H,I.kept λb o d=>B b o (λz=>by rw[Ax] at z;subst z;exact absurd (Ao d) (Ce _)) (Ab _ d),⟨_,rfl⟩,?_⟩;rw[e,zrc n f f.length (Ae _),Db];exact q
noncomputable def mn1 (n:Int) (r:List Int):Int:=r.foldl (λb x=>if x<b then x else b) n
theorem zsn (n:Int) (r:List Int):∀k,k<=r.length->(n::r).getD (argBest (λi j=>decide ((n::r).getD i 0<(n::r).getD j 0)) k) 0=mn1 n (r.take k)
 |0,_=>rfl
 | k+1,h=>by
  have a:=zsn n r k (by symm);have b:k<r.length:=by symm
  have g:(n::r).getD (k+1) 0=r[k]:=by rw[List.getD_cons_succ,Bu,Ac b];rfl
  have t:mn1 n (r.take (k+1))=if r[k]<mn1 n (r.take k) then r[k] else mn1 n (r.take k):=by
   unfold mn1;rw[Dt,Ac b,List.foldl_append];rfl
  rw[t];show (n::r).getD (if decide ((n::r).getD (k+1) 0<(n::r).getD (argBest (λi j=>decide ((n::r).getD i 0<(n::r).getD j 0)) k) 0)=Zd then k+1 else argBest _ k) 0=_;rw[a,g];by_cases c:r[k]<mn1 n (r.take k)
  ·rw[Ah c,if_pos rfl,if_pos c,g]
  ·rw[Az c,if_neg Av,if_neg c,a]
theorem zqu (w:X.calm=Zd):zdo X (.builtin "min") (λxs H Q=>(∃i j,xs=#v[2,17]/\Q (.int (if j<i then j else i)) H)\/∃(a:Zh) (n:Int) (r:List Int),xs=[.ref a]/\SqL X.K H a ((n::r).map V.int)/\Q (.int (mn1 n r)) H):=by
 intro pins s σ H xs D Q I r h;rcases h with h|h
 ·exact ztl w pins s σ H xs D Q I r h
 obtain⟨a,n,f,rfl,x,q⟩:=h;obtain⟨u,rfl,C⟩:=vals1 r;cases C;obtain⟨c,m,p,F⟩:=I.list x;have g:=m.length;rw[Ad] at g;have l:a<s.heap.objs.size:=by obtain⟨o,e,_⟩:=p.isList;exact Ao e
 have k:∀(i:Nat) (v:Ze),c.toArray[i]?=Za v->∃t,v=Ze.int ((n::f).getD i 0) t:=λi v e=>znd m (by simpa using e);refine call_min_walk (Ec p.isList ?_);refine⟨s.heap.objs.size,_,[s.heap.objs.size],c.toArray.size,_,_,_,rfl,Walks.list (A:=X.A.in1) (show X.A.in1.handled=Zb from I.ok.hd w) _ a (Bc l) c.toArray,⟨⟨_,Aq _ rfl,rfl,rfl⟩,p.isList.push _⟩,λb d=>?_,by rw[Aj,<-g];exact Nat.succ_pos _,CmpOf.ints_lt _ k,λv G E y B=>?_⟩
 ·rw[Dh];simp only [Ak,Cc,Fm] at d;rcases d with rfl|rfl
  ·exact Nat.lt_succ_self _
  ·exact Ev l
 ·obtain⟨t,rfl⟩:=k _ _ y;have e:c.toArray.size-1=f.length:=by rw[Aj,<-g];rfl
  refine⟨.int _,H,I.kept λb o d=>B b o (λz=>by rw[Ax] at z;subst z;exact absurd (Ao d) (Ce _)) (Ab _ d),⟨_,rfl⟩,?_⟩;rw[e,zsn n f f.length (Ae _),Db];exact q
theorem z4y:OpR X (binaryOp .Add) (λx y H Q=>∃a b ys,x=.ref a/\y=.ref b/\SqT X.K H a []/\SqT X.K H b ys/\Q (.ref b) H):=by
 intro pins s σ H x y v u Q I w D h;nofun;obtain⟨a,b,ys,rfl,rfl,r,z,q⟩:=h;ac_rfl;cases w;cases D;nofun;obtain⟨i,A,p,_⟩:=I.tuple r;obtain⟨e,J,B,_⟩:=I.tuple z;obtain⟨⟨F,l,K,o⟩,f,k,C,d⟩:=id p;obtain⟨⟨G,n,L,m⟩,g,c,t,j⟩:=id B;ac_rfl;simp only at k d c j;subst k d c j;have E:i=[]:=by cases A;rfl
 subst E;exact concat_meets (T := "tuple") ⟨_,f,rfl⟩ ⟨_,g,rfl⟩ noFill_tuple_add seq_tuple_add PySem.F.slot_tuple_add PySem.F.entry_tuple_add (He _ _)
  (tuple_addW0 a b _ _ C t l n o m rfl) ⟨f,g,⟨.ref b,H,I.tok _,rfl,q⟩⟩
theorem zy9:OpR X (binaryOp .FloorDiv) (rI (λ_ j=>0<j/\j.natAbs.log2<9000) λi j=>.int (i/j)):=opI λi j _ _ _ _ _ h q=>by
 have a:(0:Int)<j:=h.1;exact floordiv_int (by symm) (by rw[Int.fdiv_eq_ediv_of_nonneg i (by symm)];exact q) (.inl (PyProof.noPylong_of_log2 h.2))
end
section
variable {K:Zg}
noncomputable def yal (K:Zg):R2:=λx y H Q=>∃a b c,x=.ref a/\y=.ref b/\SqT K H a []/\SqT K H b c/\Q (.ref b) H
theorem zyg:OpS K (yal K) z1g:=λF H c w v o l Q s j r e q=>by
 cases c with
 | tup x =>
  cases x with
  |cons _ _=>cases w<;>exact noSome e
  | nil =>
   cases w with
   | tup y =>
    obtain rfl:=sI e;nofun;obtain⟨a,n,f,h,m,p⟩:=j.tup s;obtain⟨b,u,d,i,g,k⟩:=r.tup s;ac_rfl;cases p;subst d;exact⟨a,b,u,f,rfl,.inl (.inl h),.inl (.inl i),q _ _ (.val (.tup g k))⟩
   |_=>exact noSome e
 |_=>exact noSome e
noncomputable abbrev ON:=List W->Option (W×Bool)
noncomputable def oLen:ON
 |[w]=>(seqW w).bind λa=>#v[a.length,0]
 |_=>Zb
theorem z32:OpSN K (λxs H Q=>∃p ys,xs=[.ref p]/\(SqL K H p ys\/SqT K H p ys)/\Q (.int ys.length) H) oLen:=λF H w v f Q s r e q=>by
 cases r with
 |nil=>exact noSome e
 | cons h r =>
  cases r with
  |cons _ _=>exact noSome e
  | nil =>
   obtain⟨w,c,e⟩:=bS (show (seqW _).bind _=_ from e);obtain rfl:=sI e;obtain⟨a,v,b,d,p⟩:=h.seqW s c;subst b;exact⟨a,v,rfl,d,by rw[<-p.length];exact q _ _ (.val (.int _))⟩
noncomputable def oAbs:ON
 |[.int i]=>#v[(if i<0 then -i else i),0]
 |_=>Zb
theorem RepBs.one (r:RepBs K F H [w] vs):∃v,vs=[v]/\RepB K F H w v:=by
 cases r with
 |cons h r=>cases r;exact⟨_,rfl,h⟩
theorem RepBs.two (r:RepBs K F H [w,u] vs):∃v z,vs=[v,z]/\RepB K F H w v/\RepB K F H u z:=by
 cases r with
 |cons h r=>obtain⟨z,e,a⟩:=r.one;subst e;exact⟨_,z,rfl,h,a⟩
theorem z4o:OpSN K (λxs H Q=>∃i,xs=[.int i]/\Q (.int (if i<0 then -i else i)) H) oAbs:=λF H w b c Q s r e q=>by
 match w,e with
 | [.int i],e =>
  obtain rfl:=sI e;obtain⟨v,a,h⟩:=r.one;subst a;exact⟨i,by rw[h.int],q _ _ (.val (.int _))⟩
noncomputable def oInt:ON
 |[.int i]=>#v[i,0]
 |[.bl k]=>#v[(if k then 1 else 0),0]
 |_=>Zb
theorem z41:OpSN K (λxs H Q=>(∃i,xs=[.int i]/\Q (.int i) H)\/∃k,xs=[.bl k]/\Q (.int (if k then 1 else 0)) H) oInt:=λF H w b c Q s r e q=>by
 match w,e with
 | [.int i],e =>
  obtain rfl:=sI e;obtain⟨v,a,h⟩:=r.one;subst a;exact .inl ⟨i,by rw[h.int],q _ _ (.val (.int _))⟩
 | [.bl k],e =>
  obtain rfl:=sI e;obtain⟨v,a,h⟩:=r.one;subst a;exact .inr ⟨k,by rw[h.bl],q _ _ (.val (.int _))⟩
noncomputable def zye:ON
 |[w]=>(seqW w).bind λa=>#v[a,2]
 |_=>Zb
theorem zwa:OpSN K (λxs H Q=>∃p ys,xs=[.ref p]/\(SqL K H p ys\/SqT K H p ys)/\∀l,H l=Zb->Q (.ref l) (upd H l (.lst ys))) zye:=λF H b j k Q s r e q=>by
 match b,e with
 | [w],e =>
  obtain⟨b,d,e⟩:=bS (show (seqW _).bind _=_ from e);obtain rfl:=sI e;nofun;obtain⟨v,c,h⟩:=r.one;obtain⟨a,u,f,i,p⟩:=h.seqW s d;ac_rfl;subst c f;exact⟨a,u,rfl,i,λl g=>q _ _ (.lst g p)⟩
noncomputable def zfp:ON
 |[.tup a]=>#v[a,3]
 |[w]=>(seqL w).bind λa=>#v[a,3]
 |_=>Zb
theorem zrs:OpSN K (λxs H Q=>∃p ys,xs=[.ref p]/\((SqL K H p ys/\∀l,H l=Zb->Q (.ref l) (upd H l (.tup ys)))\/(SqT K H p ys/\Q (.ref p) H))) zfp:=λF H w i j Q s r e q=>by
 match w,e with
 | [.tup w],e =>
  obtain rfl:=sI e;nofun;obtain⟨v,b,h⟩:=r.one;obtain⟨a,u,c,d,f,p⟩:=h.tup s;ac_rfl;subst b c;exact⟨a,u,rfl,.inr ⟨.inl (.inl d),q _ _ (.val (.tup f p))⟩⟩
 | [.lst w],e =>
  obtain rfl:=sI e;nofun;obtain⟨v,b,h⟩:=r.one;obtain⟨a,u,c,d,p⟩:=h.lst s;ac_rfl;subst b c;exact⟨a,u,rfl,.inl ⟨SqL.of' d,λl g=>q _ _ (.tup g p)⟩⟩
 | [.frl w],e =>
  obtain rfl:=sI e;nofun;obtain⟨v,b,h⟩:=r.one;obtain⟨a,u,c,d,p⟩:=h.frl s;ac_rfl;subst b c;exact⟨a,u,rfl,.inl ⟨d,λl g=>q _ _ (.tup g p)⟩⟩
 |[.non],e=>exact noSome e
 |[.bl _],e=>exact noSome e
 |[.int _],e=>exact noSome e
 |[.str _],e=>exact noSome e
 |[.dic],e=>exact noSome e
 |[.dct _ _],e=>exact noSome e
 |[.dcz _ _],e=>exact noSome e
noncomputable def zmj:List W->Option (List Bool)
 |[]=>Za []
 |.bl b::w=>(zmj w).bind λbs=>Za (b::bs)
 |_=>Zb
noncomputable def zcw:List W->Option (List Int)
 |[]=>Za []
 |.int b::w=>(zcw w).bind λbs=>Za (b::bs)
 |_=>Zb
theorem zog:∀{ws:List W}{bs:List Bool},zmj ws=Za bs->ws=bs.map W.bl
 |[],_,e=>by obtain rfl:=sI e;rfl
 | .bl b::ws,_,e=>by
  obtain⟨bs,h,e⟩:=bS (show (zmj ws).bind _=_ from e);obtain rfl:=sI e;rw[zog h];rfl
 |.non::_,_,e=>by exact noSome e
 |.int _::_,_,e=>by exact noSome e
 |.str _::_,_,e=>by exact noSome e
 |.tup _::_,_,e=>by exact noSome e
 |.lst _::_,_,e=>by exact noSome e
 |.frl _::_,_,e=>by exact noSome e
theorem zc7:∀{ws:List W}{bs:List Int},zcw ws=Za bs->ws=bs.map W.int
 |[],_,e=>by obtain rfl:=sI e;rfl
 | .int b::ws,_,e=>by
  obtain⟨bs,h,e⟩:=bS (show (zcw ws).bind _=_ from e);obtain rfl:=sI e;rw[zc7 h];rfl
 |.non::_,_,e=>by exact noSome e
 |.bl _::_,_,e=>by exact noSome e
 |.str _::_,_,e=>by exact noSome e
 |.tup _::_,_,e=>by exact noSome e
 |.lst _::_,_,e=>by exact noSome e
 |.frl _::_,_,e=>by exact noSome e
theorem ze1:∀(ns:List Int),zcw (ns.map W.int)=Za ns
 |[]=>rfl
 |n::ns=>by show (zcw (ns.map W.int)).bind _=_;rw[ze1 ns];rfl
theorem zlu:∀(ns:List Bool),zmj (ns.map W.bl)=Za ns
 |[]=>rfl
 |n::ns=>by show (zmj (ns.map W.bl)).bind _=_;rw[zlu ns];rfl
noncomputable def oBl (f:List Bool->Bool):ON
 |[w]=>(seqL w).bind λa=>(zmj a).bind λbs=>Za (.bl (f bs),Zc)
 |_=>Zb
theorem zzx:OpSN K (λxs H Q=>∃(a:Zh) (bs:List Bool),xs=[.ref a]/\SqL K H a (bs.map V.bl)/\Q (.bl (f bs)) H) (oBl f):=λF H b k l Q s r e q=>by
 match b,e with
 | [w],e =>
  nofun;obtain⟨b,g,e⟩:=bS (show (seqL _).bind _=_ from e);obtain⟨bs,i,e⟩:=bS e;ac_rfl;obtain rfl:=sI e;nofun;obtain⟨v,d,h⟩:=r.one;obtain⟨a,u,j,c,p⟩:=h.seqL s g;ac_rfl;subst d j;rw[zog i] at p;rw[p.bls] at c;exact⟨a,bs,rfl,c,q _ _ (.val (.bl _))⟩
noncomputable def oSum:ON
 |[w]=>(seqL w).bind λa=>(zcw a).bind λn=>#v[n.sum,0]
 |_=>Zb
theorem z2e:OpSN K (λxs H Q=>∃(a:Zh) (ns:List Int),xs=[.ref a]/\SqL K H a (ns.map V.int)/\Q (.int ns.sum) H) oSum:=λF H b j k Q s r e q=>by
 match b,e with
 | [w],e =>
  nofun;obtain⟨b,f,e⟩:=bS (show (seqL _).bind _=_ from e);obtain⟨bs,g,e⟩:=bS e;ac_rfl;obtain rfl:=sI e;nofun;obtain⟨v,d,h⟩:=r.one;obtain⟨a,u,i,c,p⟩:=h.seqL s f;ac_rfl;subst d i;rw[zc7 g] at p;rw[p.ints] at c;exact⟨a,bs,rfl,c,q _ _ (.val (.int _))⟩
noncomputable def mnW (w:W):Option (W×Bool):=(seqL w).bind λa=>(zcw a).bind λb=>match b with
 |n::r=>#v[(mn1 n r),0]
 |[]=>Zb
noncomputable def oMin:ON
 |#v[2,17]=>#v[(if j<i then j else i),0]
 |[w]=>mnW w
 |_=>Zb
noncomputable def mxW (w:W):Option (W×Bool):=(seqL w).bind λa=>(zcw a).bind λb=>match b with
 |n::r=>#v[(mx1 n r),0]
 |[]=>Zb
noncomputable def mx2:W->W->Option (W×Bool)
 |.int i,.int j=>#v[(if j > i then j else i),0]
 |_,_=>Zb
noncomputable def oMax:ON
 |[w]=>mxW w
 |[a,b]=>mx2 a b
 |_=>Zb
theorem z4l:OpSN K (λxs H Q=>(∃i j,xs=#v[2,17]/\Q (.int (if j<i then j else i)) H)\/∃(a:Zh) (n:Int) (r:List Int),xs=[.ref a]/\SqL K H a ((n::r).map V.int)/\Q (.int (mn1 n r)) H) oMin:=λF H f x t Q s r e q=>by
 unfold oMin at e;split at e
 ·obtain rfl:=sI e
  obtain⟨v,z,b,k,l⟩:=r.two;subst b;exact .inl ⟨_,_,by rw[k.int,l.int],q _ _ (.val (.int _))⟩
 ·rename_i w
  nofun;obtain⟨f,g,e⟩:=bS (show (seqL w).bind _=Za t from e);obtain⟨c,m,e⟩:=bS e;obtain⟨v,b,h⟩:=r.one;obtain⟨a,u,o,d,p⟩:=h.seqL s g;ac_rfl;subst b o;rw[zc7 m] at p;rw[p.ints] at d;cases c with
  |nil=>exact noSome e
  | cons n c =>
   obtain rfl:=sI e;exact .inr ⟨a,n,c,rfl,d,q _ _ (.val (.int _))⟩
 ·exact noSome e
theorem z1q:OpSN K (λxs H Q=>(∃i j,xs=#v[2,17]/\Q (.int (if j > i then j else i)) H)\/∃(a:Zh) (n:Int) (r:List Int),xs=[.ref a]/\SqL K H a ((n::r).map V.int)/\Q (.int (mx1 n r)) H) oMax:=λF H d A g Q s r e q=>by
 match d,e with
 | [x,y],e =>
  have e:mx2 x y=Za g:=e;unfold mx2 at e;split at e
  ·obtain rfl:=sI e
   nofun;obtain⟨v,z,b,l,m⟩:=r.two;ac_rfl;subst b;exact .inl ⟨_,_,by rw[l.int,m.int],q _ _ (.val (.int _))⟩
  ·exact noSome e
 | [w],e =>
  nofun;obtain⟨d,k,e⟩:=bS (show (seqL w).bind _=Za g from e);obtain⟨c,o,e⟩:=bS e;obtain⟨v,b,h⟩:=r.one;obtain⟨a,u,t,f,p⟩:=h.seqL s k;ac_rfl;subst b t;rw[zc7 o] at p;rw[p.ints] at f;cases c with
  |nil=>exact noSome e
  | cons n c =>
   obtain rfl:=sI e;exact .inr ⟨a,n,c,rfl,f,q _ _ (.val (.int _))⟩
noncomputable def tyW:W->Option String
 |.non=>Za "NoneType"
 |.bl _=>Za "bool"
 |.int _=>Za "int"
 |.str _=>Za "str"
 |.tup _=>Za "tuple"
 |.lst _=>Za "list"
 |.frl _=>Zb
 |.dic=>Zb
 |.dct _ _=>Zb
 |.dcz _ _=>Zb
inductive Kd where
 |int|bool|str|tuple|list
 deriving DecidableEq
noncomputable def Kd.nm:Kd->String
 |.int => "int" | .bool => "bool" | .str => "str" | .tuple => "tuple" | .list => "list"
noncomputable def isiW (k:Kd):W->Option Bool
 |.non=>Za Zc
 |.bl _=>Za (k==.bool||k==.int)
 |.int _=>Za (k==.int)
 |.str _=>Za (k==.str)
 |.tup _=>Za (k==.tuple)
 |.lst _=>Za (k==.list)
 |.frl _=>Zb
 |.dic=>Za Zc
 |.dct _ _=>Za Zc
 |.dcz _ _=>Zb
noncomputable def oIsi (k:Kd) (w:W):Option (W×Bool):=(isiW k w).bind λb=>Za (.bl b,Zc)
theorem z48 (s:Same F H) (r:RepB K F H w v) (e:isiW k w=Za b):∃t,TyOf K H v t/\PySem.W.kitOne K t (.type k.nm)=Za b:=by
 cases w with
 |non=>rw[r.non];obtain rfl:=sI e;exact⟨_,.non,by cases k<;>(with_unfolding_all rfl)⟩
 |bl x=>rw[r.bl];obtain rfl:=sI e;exact⟨_,.bl x,by cases k<;>(with_unfolding_all rfl)⟩
 |int x=>rw[r.int];obtain rfl:=sI e;exact⟨_,.int x,by cases k<;>(with_unfolding_all rfl)⟩
 |str x=>rw[r.str];obtain rfl:=sI e;exact⟨_,.str x,by cases k<;>(with_unfolding_all rfl)⟩
 |tup x=>obtain⟨a,f,c,h,_⟩:=r.tup s;subst c;obtain rfl:=sI e;exact⟨_,.tup h,by cases k<;>(with_unfolding_all rfl)⟩
 |lst x=>obtain⟨a,f,c,h,_⟩:=r.lst s;subst c;obtain rfl:=sI e;exact⟨_,.lst h,by cases k<;>(with_unfolding_all rfl)⟩
 |frl x=>exact noSome e
 | dic =>
  rcases r with r|⟨_,_,_,z,_,_,q⟩
  ·cases r with
   |dic h=>obtain rfl:=sI e;exact⟨_,.dK (s _ _ h),by cases k<;>(with_unfolding_all rfl)⟩
  ·subst z;cases q
 | dct g d =>
  obtain rfl:=sI e;rcases r with r|⟨_,_,_,z,c,h,q⟩
  ·cases r with
   |dct h _ _=>exact⟨_,.dK (s _ _ h),by cases k<;>(with_unfolding_all rfl)⟩
   |dctT h _ _=>exact⟨_,.dT (s _ _ h),by cases k<;>(with_unfolding_all rfl)⟩
  ·subst z c
   cases q with
   |dct _ _=>exact⟨_,.dK h,by cases k<;>(with_unfolding_all rfl)⟩
   |dctT _ _=>exact⟨_,.dT h,by cases k<;>(with_unfolding_all rfl)⟩
 |dcz g d=>exact noSome e
noncomputable def rIsi (K:Zg):List V->Hp->VK->Prop:=λa H Q=>∃x t c b,a=[x,.ty c]/\TyOf K H x t/\PySem.W.kitOne K t (.type c)=Za b/\Q (.bl b) H
theorem zvm (h:tE K (gOp1 (oIsi k) a) σ H Q):tCB (rIsi K) (zaw (tA K a) (zaw (tC (.ty k.nm)) tNil)) σ H Q:=by
 nofun;obtain⟨F,p,i,n,y,R,h,q⟩:=h;obtain⟨⟨l,x⟩,g,h⟩:=bS h;obtain⟨w,e,h⟩:=bS h;obtain⟨z,d,h⟩:=bS h;obtain⟨b,r,d⟩:=bS d;ac_rfl;obtain rfl:=sI d;cases h;refine⟨F,p,i,l,x,R,g,λu f v s c m=>?_⟩;obtain⟨t,o,j⟩:=z48 c.sub (m.repB c e) r;exact⟨v,t,_,b,rfl,o,j,q u f _ s c (.bl b)⟩
noncomputable abbrev GO:=En->Option (En×Option Int)
noncomputable def zc4:GO:=λe=>Za (e,Zb)
noncomputable def zjg (g:GE):GO:=λa=>match g a with
 |some (e,(.int i,_))=>Za (e,Za i)
 |_=>Zb
noncomputable def tO (K:Zg) (g:GO):TO:=λσ H Q=>∃F p b e o,Rel K F p b σ H/\g b=Za (e,o)/\∀c a,Same F c->Rel K c p e σ a->Q o a
theorem Res.isInt (h:Res K F H pr en σ (.int i,fl) v):v=.int i:=by
 cases fl with
 |false=>cases (show Rep K F (.int i) v from h);rfl
 |true=>obtain⟨_,_,_,e,_,_,_,q,_⟩:=h;subst e;cases q
theorem znq (h:tO K zc4 σ H Q):ztf σ H Q:=by
 obtain⟨F,p,a,e,o,R,h,q⟩:=h;cases h;exact q F H (.refl F) R
theorem zuz (h:tO K (zjg g) σ H Q):z7d (tE K g) σ H Q:=by
 nofun;obtain⟨F,j,a,f,o,R,h,q⟩:=h;ac_rfl;unfold zjg at h;cases e:g a with
 |none=>simp only [e] at h;exact noSome h
 | some p =>
  obtain⟨k,w,fl⟩:=p;cases w with
  |int c=>simp only [e] at h;cases h;exact⟨F,j,a,_,_,R,e,λi d v s b z=>⟨c,z.isInt,q i d s b⟩⟩
  |_=>simp only [e] at h;exact noSome h
open HT in
theorem zpw {lo c:Option Int} (a:IsTup s.heap t items) (b:s.heap.IsSliceOf sl vl vu .none) (f:IsPart vl lo) (p:IsPart vu c)
  (h0:sIx items.size 0 lo=0) (d:sIx items.size items.size c=items.size) (h:Q (.ref t) s):wpAny (model prog w) A (getItem (.ref t) (.ref sl)) Q E s:=by
 obtain⟨o,i,g,_⟩:=id b;have e:s.TypeIs (.ref sl) "slice" := ⟨o,i,g⟩;unfold getItem
 try with_reducible refine Fc ?_
 first|refine Aa (Ar ?_)|skip
 refine Aa (wpAny_sequenceKey a.typeIs (by decide) ?_);refine Aa (De (name:=Str.ofString "__getitem__") a.typeIs Eb (Er Eb a.typeIs entry_tuple_getitem ?_ (args_tuple_getitem _ _)));show wpAny _ _ (Builtin.Tuple.tupleItemsOf (.ref t)>>=_) _ _ s;refine Aa (tupleItemsOf_ a ?_);refine Aa (wpAny_typeOf e ?_);rw[if_pos (by decide)];refine Aa (zcx b f p ?_);rw[h0,d];show wpAny _ _ (if ((((0:Nat):Int)==0&&(1:Int)==1&&(items.size-0)==items.size)=Zd) then _ else _) _ _ s;rw[if_pos (by simp)];unfold Builtin.Tuple.tupleIsExact;refine Aa (Aa (wpAny_typeOf a.typeIs (Ar ?_)));rw[if_pos (by decide)];refine Aa (Ei (Ar ⟨_,rfl,?_⟩));exact Ar h
noncomputable def rSlW (K:Zg):V->Option Int->Option Int->Hp->VK->Prop:=λx l h H Q=>∃a b,x=.ref a/\SqT K H a b/\HT.sIx b.length 0 l=0/\HT.sIx b.length b.length h=b.length/\Q x H
theorem z4e:SlR X (rSlW X.K):=by
 intro pins s σ H x v n t o w u Q I f e p l h;nofun;obtain⟨a,g,rfl,j,k,d,q⟩:=h;ac_rfl;cases f;nofun;obtain⟨i,r,c,m⟩:=I.tuple j;ac_rfl;have b:i.toArray.size=g.length:=by rw[Aj];exact r.length.symm
 exact⟨"tuple",_,PyProof.Rows.slot_tuple_getitem.lookup,c.typeIs,zpw c e p l (by rw[b];exact k) (by rw[b];exact d) ⟨.ref a,H,I,rfl,q⟩⟩
noncomputable def cutW (xs:List W) (lo h:Option Int):List W:=(xs.drop (HT.sIx xs.length 0 lo)).take (HT.sIx xs.length xs.length h-HT.sIx xs.length 0 lo)
noncomputable def oSl (w:W) (lo h:Option Int):Option (W×Bool):=match w with
 |.lst a=>#v[(cutW a lo h),2]
 |.frl a=>#v[(cutW a lo h),2]
 |.tup a=>#v[(cutW a lo h),3]
 |_=>Zb
noncomputable def rSlB (K:Zg):V->Option Int->Option Int->Hp->VK->Prop:=λx l h H Q=>(rSlL K x l h H Q\/rSlT K x l h H Q)\/rSlW K x l h H Q
theorem z8a {lo f:Option Int} (s:Same F H) (r:RepB K F H w v) (e:oSl w lo f=Za rv) (q:∀u H',Out K F H rv u H'->Q u H'):rSlB K v lo f H Q:=by
 have cut:∀{c:List W}{b:List V},Reps K F c b->Reps K F (cutW c lo f) (cutV b lo f):=λ{c b} p=>by
  unfold cutW cutV;rw[<-p.length];exact (p.drop _).take _
 cases w with
 |lst c=>obtain rfl:=sI e;obtain⟨a,b,d,h,p⟩:=r.lst s;exact .inl (.inl ⟨a,b,d,SqL.of' h,λl g=>q _ _ (.lst g (cut p))⟩)
 |frl c=>obtain rfl:=sI e;obtain⟨a,b,d,h,p⟩:=r.frl s;exact .inl (.inl ⟨a,b,d,h,λl g=>q _ _ (.lst g (cut p))⟩)
 | tup c =>
  obtain rfl:=sI e;obtain⟨a,b,d,h,j,p⟩:=r.tup s;by_cases y:HT.sIx b.length 0 lo=0/\HT.sIx b.length b.length f=b.length
  ·refine .inr ⟨a,b,d,.inl (.inl h),y.1,y.2, ?_⟩
   have i:cutW c lo f=c:=by
    unfold cutW;rw[p.length,y.1,y.2,Eg,Fz,<-p.length,Db]
   rw[i] at q;subst d;exact q _ _ (.val (.tup j p))
  ·exact .inl (.inr ⟨a,b,d,.inl (.inl h),y,λl g=>q _ _ (.tup g (cut p))⟩)
 |_=>exact noSome e
noncomputable def gSl (a:GA) (lo b:GO):GE:=λe=>(a e).bind λp=>(lo p.1).bind λl=>(b l.1).bind λh=>(resA h.1 p.2).bind λw=>(oSl w l.2 h.2).bind λr=>Za (h.1,r)
theorem z2n {lo g:GO}(h:tE K (gSl a lo g) σ H Q):tSl (rSlB K) (tA K a) (tO K lo) (tO K g) σ H Q:=by
 nofun;obtain⟨F,p,j,A,O,R,h,q⟩:=h;obtain⟨⟨d,x⟩,i,h⟩:=bS h;obtain⟨⟨e,l⟩,w,h⟩:=bS h;obtain⟨⟨k,u⟩,o,h⟩:=bS h;obtain⟨N,c,h⟩:=bS h;obtain⟨T,G,h⟩:=bS h;ac_rfl;cases h;refine⟨F,p,j,d,x,R,i,λI J S D E t=>⟨I,p,d,e,l,E,w,λr L s R2=>⟨r,p,e,k,u,R2,o,λP M f b=>?_⟩⟩⟩;refine z8a b.sub ((t.mono (s.trans f)).repB b c) G λv n z=>?_;nofun;obtain⟨B,m,C,y⟩:=z.close b;ac_rfl;exact q B n v (D.trans (s.trans (f.trans m))) C y
end
structure ItOk (K:Zg) (F:Hp) (J:It) (ws:List W):Prop where
 go:∀i H,Same F H->i<ws.length->J.go i H
 stop:∀H,Same F H->J.stop ws.length H
 yld:∀i H x H',Same F H->i<ws.length->J.yld i H x H'->∃w,ws[i]?=Za w/\Out K F H (w,Zc) x H'
noncomputable def tI (K:Zg) (g:GL):TI:=λσ H R=>∃F p c e w,Rel K F p c σ H/\g c=Za (e,w)/\∀a b J,Same F a->Rel K a p e σ b->ItOk K a J w->R J b
section
variable {K:Zg}
theorem zb5 (s:Same F F')(h:SqT K F a vs):SqT K F' a vs:=by
 rcases h with (h|⟨o,h⟩)|h
 ·exact .inl (.inl (s _ _ h))
 ·exact .inl (.inr ⟨o,s _ _ h⟩)
 ·exact .inr h
theorem zo2 (h:SqL K F a vs)(r:Reps K F ws vs):ItOk K F (Itl K a) ws where
 go:=λi H s b=>⟨vs,vs[i]'(by rw[<-r.length];exact b),s.seq h,by rw[Ac]⟩
 stop:=λH s=>⟨vs,s.seq h,by rw[r.length];exact Ae _⟩
 yld:=λi H x c s b y=>by
  obtain⟨e,y⟩:=y;subst e;obtain⟨w,e,q⟩:=r.getV (y vs (s.seq h));exact⟨w,e,.val q⟩
theorem z5v (h:SqT K F a vs)(r:Reps K F ws vs):ItOk K F (Itt K a) ws where
 go:=λi H s b=>⟨vs,vs[i]'(by rw[<-r.length];exact b),zb5 s h,by rw[Ac]⟩
 stop:=λH s=>⟨vs,zb5 s h,by rw[r.length];exact Ae _⟩
 yld:=λi H x c s b y=>by
  obtain⟨e,y⟩:=y;subst e;obtain⟨w,e,q⟩:=r.getV (y vs (zb5 s h));exact⟨w,e,.val q⟩
noncomputable def rngW (lo:Int) (n:Nat):List W:=(List.range n).map λk=>W.int (lo+(k:Nat))
theorem zy4 (lo:Int)(n:Nat):ItOk K F (Itr lo n) (rngW lo n) where
 go:=λi H s h=>by unfold rngW at h;rw[Ad,By] at h;exact h
 stop:=λH s=>by unfold rngW;rw[Ad,By];exact Ae n
 yld:=λi H x a s h y=>by
  obtain⟨e,y⟩:=y;subst e y;unfold rngW at h ⊢;rw[Ad,By] at h;exact⟨_,by rw[Am,Gr h];rfl,.val (.int _)⟩
noncomputable def zhi (ws:List W) (k:Nat):List W:=match ws with
 |[]=>[]
 |w::ws=>.tup [.int k,w]::zhi ws (k+1)
theorem zce:∀(ws:List W) (k:Nat),(zhi ws k).length=ws.length
 |[],_=>rfl
 |_::ws,k=>congrArg (· + 1) (zce ws (k+1))
theorem zer:∀{ws:List W}{k i:Nat}{w:W},ws[i]?=Za w->(zhi ws k)[i]?=Za (.tup [.int (k+i:Nat),w])
 |[],_,_,_,e=>by simp at e
 |w::ws,k,0,_,e=>by simp at e;subst e;rfl
 | w::ws,k,i+1,u,e=>by
  have:=zer (ws:=ws) (k:=k+1) (i:=i) (w:=u) (by simpa using e);show (zhi ws (k+1))[i]?=_;rw[this];have:k+1+i=k+(i+1):=by symm
  rw[this]
theorem z2b (h:SqL K F a vs)(r:Reps K F ws vs):ItOk K F (Ite K a) (zhi ws 0) where
 go:=λi H s b=>by rw[zce] at b;exact⟨vs,vs[i]'(by rw[<-r.length];exact b),s.seq h,by rw[Ac]⟩
 stop:=λH s=>⟨vs,s.seq h,by rw[zce,r.length];exact Ae _⟩
 yld:=λi H x f s b y=>by
  nofun;obtain⟨p,v,e,c,d,y⟩:=y;ac_rfl;subst e d;obtain⟨w,e,q⟩:=r.getV (y vs (s.seq h));refine⟨_,zer e,?_⟩;rw[Cr];exact .tup c (.cons (.int _) (.cons q .nil))
theorem z5y (h:SqL K F a vs)(r:Reps K F ws vs):ItOk K F (Itv K a vs.length) ws.reverse where
 go:=λi H s b=>by rw[Fj,r.length] at b;exact⟨b,vs,s.seq h,rfl⟩
 stop:=λH s=>by rw[Fj,r.length];rfl
 yld:=λi H x c s b y=>by
  obtain⟨e,y⟩:=y;subst e;obtain⟨w,e,q⟩:=r.getV (y vs (s.seq h));refine⟨w,?_,.val q⟩;rw[Fj] at b;rw[List.getElem?_reverse b,r.length];exact e
end
section
noncomputable def iSeq (K:Zg) (t:TE):TI:=λσ H R=>t σ H λx b=>∃a,x=.ref a/\((∃c,SqL K b a c)/\R (Itl K a) b\/(∃c,SqT K b a c)/\R (Itt K a) b)
theorem zz1 (n:PE X l tl):PI X tg l (iSeq X.K tl):=λpins s σ H R I h =>
 thn (n pins s σ H _ I h) λv d ⟨x,f,c,r,a,e,k⟩=>by
  subst e;cases r;have fp:∀b∈[d.heap.objs.size],FpOk X pins f b:=λb j=>by
   rw[Ax] at j;subst j;exact c.fpOk (Ae _) (c.hok.fresh (Ae _))
  rcases k with⟨⟨m,g⟩,q⟩|⟨⟨m,g⟩,q⟩
  ·obtain⟨i,_,p,_⟩:=c.list g;exact Ec p.isList ⟨_,_,_,_,f,rfl,c.kept (t':=d.toks) λb o e=>Ab _ e,ztd a _,⟨_,Aq _ rfl,rfl,rfl⟩,fp,q⟩
  ·obtain⟨i,_,p,_⟩:=c.tuple g;exact Hg (show d.heap.IsTuple a i.toArray from p) ⟨_,_,_,_,f,rfl,c.kept (t':=d.toks) λb o e=>Ab _ e,zp2 a _,⟨_,Aq _ rfl,rfl,rfl⟩,fp,q⟩
end
noncomputable def zau (g:GE):GL:=λe=>(g e).bind λp=>(seqW p.2.1).bind λw=>Za (p.1,w)
noncomputable def zdp (i:Int):Bool:=decide (-(2^62)<=i)&&decide (i<2^62)
noncomputable def zc9 (as:GAs):GL:=λe=>(as e).bind λp=>match za2 p.1 p.2 with
 |some [.int j]=>if zdp j then Za (p.1,rngW 0 j.toNat) else Zb
 |_=>Zb
noncomputable def yaz (as:GAs):GL:=λe=>(as e).bind λp=>match za2 p.1 p.2 with
 |some #v[2,17]=>if zdp i&&zdp j then Za (p.1,rngW i (j-i).toNat) else Zb
 |_=>Zb
noncomputable def gRev (g:GE):GL:=λe=>(g e).bind λp=>(seqL p.2.1).bind λw=>Za (p.1,w.reverse)
theorem ziv (h:zdp i=Zd):-(2^62)<=i/\i<2^62:=by
 unfold zdp at h;rw[Af] at h;exact⟨Ap h.1,Ap h.2⟩
section
variable {K:Zg}
theorem zkd (h:tI K (zau g) σ H R):iSeq K (tE K g) σ H R:=by
 nofun;obtain⟨F,p,k,j,m,Re,h,q⟩:=h;obtain⟨⟨f,e⟩,i,h⟩:=bS h;obtain⟨u,a,h⟩:=bS h;ac_rfl;cases h;refine⟨F,p,k,f,e,Re,i,λn c v d l z=>?_⟩;nofun;obtain⟨b,s,R2,y⟩:=z.freeze l;obtain⟨w,fl⟩:=e;ac_rfl;cases w with
 | lst x=>obtain rfl:=sI a;cases y with
  |lst y r=>exact⟨_,rfl,.inl ⟨⟨_,SqL.of' (R2.sub _ _ y)⟩,q b c _ (d.trans s) R2 (zo2 (SqL.of' y) r)⟩⟩
 | frl x=>obtain rfl:=sI a;cases y with
  |frl y r=>exact⟨_,rfl,.inl ⟨⟨_,R2.sub.seq y⟩,q b c _ (d.trans s) R2 (zo2 y r)⟩⟩
 | tup x=>obtain rfl:=sI a;cases y with
  |tup y r=>exact⟨_,rfl,.inr ⟨⟨_,.inl (.inl (R2.sub _ _ y))⟩,q b c _ (d.trans s) R2 (z5v (.inl (.inl y)) r)⟩⟩
 |_=>cases a
theorem zrm (h:tI K (zc9 as) σ H R):z6m (tAs K as) σ H R:=by
 nofun;obtain⟨F,p,k,i,w,Re,h,q⟩:=h;obtain⟨⟨a,x⟩,f,h⟩:=bS h;ac_rfl;refine⟨F,p,k,a,x,Re,f,λl c m s b d=>?_⟩;cases e:za2 a x with
 |none=>simp only [e] at h;exact noSome h
 | some u =>
  have r:=d.repBs b e
  match u,e,r with
  | [.int j],e,r =>
   simp only [e] at h;split at h
   ·rename_i z
    cases h;obtain⟨v,a,g⟩:=r.one;subst a;exact⟨j,by rw[g.int],(ziv z).1,(ziv z).2,q l c _ s b (zy4 0 j.toNat)⟩
   ·exact noSome h
  |[],e,_=>simp only [e] at h;exact noSome h
  |.non::_,e,_=>simp only [e] at h;exact noSome h
  |.bl _::_,e,_=>simp only [e] at h;exact noSome h
  |.str _::_,e,_=>simp only [e] at h;exact noSome h
  |.tup _::_,e,_=>simp only [e] at h;exact noSome h
  |.lst _::_,e,_=>simp only [e] at h;exact noSome h
  |.frl _::_,e,_=>simp only [e] at h;exact noSome h
  |.dic::_,e,_=>simp only [e] at h;exact noSome h
  |.dct _ _::_,e,_=>simp only [e] at h;exact noSome h
  |.dcz _ _::_,e,_=>simp only [e] at h;exact noSome h
  |.int _::_::_,e,_=>simp only [e] at h;exact noSome h
theorem zmc (y:Rep K F w v) (h:seqL w=Za ws):∃a vs,v=.ref a/\SqL K F a vs/\Reps K F ws vs:=by
 cases w with
 | lst x=>obtain rfl:=sI h;cases y with
  |lst y r=>exact⟨_,_,rfl,SqL.of' y,r⟩
 | frl x=>obtain rfl:=sI h;cases y with
  |frl y r=>exact⟨_,_,rfl,y,r⟩
 |_=>cases h
theorem zx5 (h:tI K (gRev g) σ H R):iRev K (zaw (tE K g) tNil) σ H R:=by
 nofun;obtain⟨F,p,f,m,w,Re,h,q⟩:=h;obtain⟨⟨k,j⟩,d,h⟩:=bS h;obtain⟨x,i,h⟩:=bS h;ac_rfl;cases h;refine⟨F,p,f,k,j,Re,d,λu c v n o z=>?_⟩;nofun;obtain⟨l,s,R2,y⟩:=z.freeze o;obtain⟨a,t,e,b,r⟩:=zmc y i;ac_rfl;subst e;exact⟨a,t,rfl,R2.sub.seq b,q l c _ (n.trans s) R2 (z5y b r)⟩
end
inductive Tg where
 |nm (i:Nat)
 |tp (is:List Nat)
 |nt (i:Nat) (js:List Nat)
noncomputable def setAll (mp:List Nat):List Nat->List W->En->Option En
 |[],[],e=>Za e
 |i::b,w::a,e=>if mp.contains i || !decide (i<e.length) then Zb else setAll mp b a (e.set i (#v[w,6]))
 |_,_,_=>Zb
noncomputable def tgSet (mp:List Nat):Tg->W->En->Option En
 |.nm i,w,e=>if mp.contains i || !decide (i<e.length) then Zb else Za (e.set i (#v[w,6]))
 |.tp b,.tup a,e=>setAll mp b a e
 |.tp b,.lst a,e=>setAll mp b a e
 |.nt i j,.tup [w,.tup a],e=>if mp.contains i || !decide (i<e.length) then Zb else setAll mp j a (e.set i (#v[w,6]))
 |_,_,_=>Zb
noncomputable def zh6:List Nat->TGs
 |[]=>gNil
 |i::a=>zpo (ze9 i) (zh6 a)
noncomputable def zrg (K:Zg) (n:Nat) (t:TGs):TG:=λv σ H Q=>∃a x,v=.ref a/\(SqT K H a x\/SqL K H a x)/\x.length=n/\t x σ H Q
theorem zsp (p:X.calm=Zd)(h:PGs X es t)(j:(assignEach es X.env).length=n)(d:(assignEach es X.env).findIdx? (·.1)=Zb):PG X (.Tuple es k pos) (zrg X.K n t):=by
 intro pins s σ H v u Q I r f;nofun;obtain⟨a,x,l,c,q,f⟩:=f;ac_rfl;rcases c with c|c
 ·exact z0o p h j d pins s σ H v u Q I r ⟨a,x,l,c,q,f⟩
 ·subst l;cases r;nofun;obtain⟨i,g,⟨o,m,A,D,_,y⟩,E⟩:=I.list c;ac_rfl;rw[assign_Tuple];refine Aa (wpAny_standAt ?_);unfold unpack;have z:(assignEach es X.env).length=i.toArray.size:=by rw[Aj,j,<-q,g.length]
  rw[z,d];refine Aa (Fc (PySem.W.kun_itemsOf (I.ok.hd p) ⟨o,A,D,m,y⟩ λB C=>?_));have w:Inv X pins σ H { s with heap:=B }:=I.kept (t':=s.toks) λb o e=>C b o (Bc (Ao e)) e;exact h pins _ σ H x _ Q w (by simpa using g) f
noncomputable def TGof (K:Zg):Tg->TG
 |.nm i=>ze9 i
 |.tp a=>zrg K a.length (zh6 a)
 |.nt i j=>zrg K 2 (zpo (ze9 i) (zpo (zrg K j.length (zh6 j)) gNil))
noncomputable def Keep (mp:List Nat) (σ a:St):Prop:=∀i∈mp,a[i]?=σ[i]?
theorem Keep.refl (mp:List Nat)(σ:St):Keep mp σ σ:=λ_ _=>rfl
theorem Keep.trans (a:Keep mp σ σ1)(b:Keep mp σ1 σ2):Keep mp σ σ2:=λi h=>(b i h).trans (a i h)
theorem Keep.set (h:mp.contains i=Zc)(v:Option V):Keep mp σ (σ.set i v):=λj a=>by
 have:i≠j:=λe=>by subst e;rw[List.contains_iff_mem.mpr a] at h;cases h
 exact Bt this
section
variable {K:Zg}
theorem zdv:∀{b:List Nat}{ws:List W}{vs:List V}{en en':En}{σ:St},Rel K F pr en σ H->Reps K F ws vs->setAll mp b ws en=Za en'->(∀a,Rel K F pr en' a H->Keep mp σ a->Q a H)->zh6 b vs σ H Q
 |[],[],_,en,en',σ,R,.nil,h,q=>by obtain rfl:=sI h;exact⟨rfl,q σ R (.refl _ _)⟩
 | i::b,w::ws,_,en,en',σ,R,.cons (v:=v) (vs:=vs) h0 r,h,q=>by
  unfold setAll at h;split at h
  ·exact noSome h
  ·rename_i z
   rw[Cb,not_or,Bi,Bi,Cy] at z;refine⟨v,vs,rfl,?_⟩;exact zdv (R.store (r:=(w,Zc)) (i:=i) h0 (Ap z.2)) r h λa c k=>q a c ((Keep.set z.1 _).trans k)
 |[],_::_,_,_,_,_,_,_,h,_=>by exact noSome h
 |_::_,[],_,_,_,_,_,_,h,_=>by exact noSome h
theorem zue:∀(a:List Nat) (ws:List W) (en en':En),setAll mp a ws en=Za en'->a.length=ws.length:=by
 intro a
 induction a with
 | nil=>intro ws en en' h;cases ws with
  |nil=>rfl
  |cons _ _=>exact noSome h
 | cons i a b=>intro ws en en' h;cases ws with
  |nil=>exact noSome h
  | cons w ws =>
   unfold setAll at h;split at h
   ·exact noSome h
   ·exact congrArg (· + 1) (b _ _ _ h)
theorem zva (R:Rel K F pr en σ H)(h0:Rep K F (.tup ws) v)(h:setAll mp is ws en=Za en')(q:∀a,Rel K F pr en' a H->Keep mp σ a->Q a H):zrg K is.length (zh6 is) v σ H Q:=by
 cases h0 with
 |tup b r=>exact⟨_,_,rfl,.inl (.inl (.inl (R.sub _ _ b))),by rw[zue is ws en en' h,r.length],zdv R r h q⟩
theorem znn (R:Rel K F pr en σ H) (h0:Rep K F w v) (h:tgSet mp T w en=Za en') (q:∀a,Rel K F pr en' a H->Keep mp σ a->Q a H):TGof K T v σ H Q:=by
 cases T with
 | nm i =>
  unfold tgSet at h;simp only at h;split at h
  ·exact noSome h
  ·rename_i z
   rw[Cb,not_or,Bi,Bi,Cy] at z;obtain rfl:=sI h;exact q _ (R.store (r:=(w,Zc)) h0 (Ap z.2)) (Keep.set z.1 _)
 | tp m =>
  cases w with
  |tup c=>exact zva R h0 h q
  | lst c =>
   cases h0 with
   | lst b r =>
    exact⟨_,_,rfl,.inr (SqL.of' (R.sub _ _ b)),by rw[zue m c en en' h,r.length],zdv R r h q⟩
  |_=>exact noSome h
 | nt i o =>
  unfold tgSet at h;split at h
  ·rename_i e;cases e
  ·rename_i e;cases e
  ·rename_i e;cases e
  ·rename_i n j u p l
   cases l;cases h0 with
   | tup b r =>
    cases r with
    | cons f r =>
     cases r with
     | cons g r =>
      cases r;split at h
      ·exact noSome h
      ·rename_i z
       rw[Cb,not_or,Bi,Bi,Cy] at z;exact⟨_,_,rfl,.inl (.inl (.inl (R.sub _ _ b))),rfl,_,_,rfl,_,_,rfl,zva (R.store (r:=(u,Zc)) (i:=i) f (Ap z.2)) g h λa d k=>⟨rfl,q a d ((Keep.set z.1 _).trans k)⟩⟩
  ·exact noSome h
end
inductive Fl where
 |nx|ret (r:W×Bool)|brk|cnt
noncomputable abbrev GS:=En->Option (En×Fl)
noncomputable def zpl (K:Zg) (mp:List Nat) (F:Hp) (p:Prt) (σ:St) (D:Ends) (en':En):Fl->Prop
 |.nx=>∀b a H,Same F b->Rel K b p en' a H->Keep mp σ a->D.nx a H
 |.brk=>∀b a H,Same F b->Rel K b p en' a H->Keep mp σ a->D.bk a H
 |.cnt=>∀b a H,Same F b->Rel K b p en' a H->Keep mp σ a->D.ct a H
 |.ret r=>∀b a H v,Same F b->Rel K b p en' a H->Keep mp σ a->Res K b H p en' a r v->D.rt v H
noncomputable def tS (K:Zg) (mp:List Nat) (g:GS):TS:=λD σ H=>∃F p a e fl,Rel K F p a σ H/\g a=Za (e,fl)/\zpl K mp F p σ D e fl
theorem zpl.step {K:Zg}(s:Same F F1)(k:Keep mp σ σ1)(h:zpl K mp F pr σ D en' fl):zpl K mp F1 pr σ1 D en' fl:=by
 cases fl with
 |nx=>exact λd a H b R c=>h d a H (s.trans b) R (k.trans c)
 |brk=>exact λd a H b R c=>h d a H (s.trans b) R (k.trans c)
 |cnt=>exact λd a H b R c=>h d a H (s.trans b) R (k.trans c)
 |ret r=>exact λd a H v b R c z=>h d a H v (s.trans b) R (k.trans c) z
noncomputable def zbr:GS:=λe=>Za (e,.nx)
noncomputable def gBrk:GS:=λe=>Za (e,.brk)
noncomputable def gCnt:GS:=λe=>Za (e,.cnt)
noncomputable def gSeq (a b:GS):GS:=λc=>match a c with
 |some (e,.nx)=>b e
 |some (e,f)=>Za (e,f)
 |none=>Zb
noncomputable def gRet (g:GE):GS:=λe=>(g e).bind λp=>Za (p.1,.ret p.2)
noncomputable def ybc:GS:=λe=>Za (e,.ret (.non,Zc))
noncomputable def gIfS (c:GT) (a b:GS):GS:=λd=>match c d with
 |#v[e,5]=>a e
 |#v[e,6]=>b e
 |none=>Zb
noncomputable def zee (g:GE):GS:=λe=>(g e).bind λp=>Za (p.1,.nx)
noncomputable def gSet (mp:List Nat) (i:Nat) (g:GE):GS:=λe=>(g e).bind λp=>if mp.contains i || !decide (i<p.1.length) then Zb else Za (p.1.set i (Za p.2),.nx)
noncomputable def gAsg (mp:List Nat) (T:Tg) (g:GE):GS:=λa=>(g a).bind λp=>(tgSet mp T p.2.1 p.1).bind λe=>Za (e,.nx)
section
variable {K:Zg}
theorem zgt (h:tS K mp zbr D σ H):zzb D σ H:=by
 obtain⟨F,p,a,e,fl,R,h,q⟩:=h;cases h;exact q F σ H (.refl F) R (.refl _ _)
theorem zze (h:tS K mp (gSeq a b) D σ H):tSeq (tS K mp a) (tS K mp b) D σ H:=by
 nofun;obtain⟨F,f,g,c,fl,R,h,q⟩:=h;ac_rfl;unfold gSeq at h;cases e:a g with
 |none=>simp only [e] at h;exact noSome h
 | some p =>
  obtain⟨d,i⟩:=p;refine⟨F,f,g,d,i,R,e,?_⟩;cases i with
  | nx =>
   simp only [e] at h;exact λj σ1 m s l k=>⟨j,f,d,c,fl,l,h,q.step s k⟩
  |brk=>simp only [e] at h;cases h;exact q
  |cnt=>simp only [e] at h;cases h;exact q
  |ret r=>simp only [e] at h;cases h;exact q
theorem zom (h:tS K mp (gRet g) D σ H):tRet (tE K g) D σ H:=by
 nofun;obtain⟨F,p,f,d,fl,R,h,q⟩:=h;obtain⟨⟨e,r⟩,c,h⟩:=bS h;ac_rfl;cases h;exact⟨F,p,f,e,r,R,c,λi b v s a z=>q i σ b v s a (.refl _ _) z⟩
theorem zxz (h:tS K mp (gIfS c a b) D σ H):tIfS (tT K c) (tS K mp a) (tS K mp b) D σ H:=by
 nofun;obtain⟨F,i,j,f,fl,R,h,q⟩:=h;ac_rfl;unfold gIfS at h;cases e:c j with
 |none=>simp only [e] at h;exact noSome h
 | some p =>
  obtain⟨g,d⟩:=p;refine⟨F,i,j,g,d,R,e,λk m s l=>?_⟩;cases d with
  |true=>simp only [e] at h;exact iteT ⟨k,i,g,f,fl,l,h,q.step s (.refl _ _)⟩
  |false=>simp only [e] at h;exact iteF ⟨k,i,g,f,fl,l,h,q.step s (.refl _ _)⟩
theorem zts (h:tS K mp (zee g) D σ H):z3p (tE K g) D σ H:=by
 nofun;obtain⟨F,p,f,d,fl,R,h,q⟩:=h;obtain⟨⟨e,r⟩,c,h⟩:=bS h;ac_rfl;cases h;exact⟨F,p,f,e,r,R,c,λi b v s a z=>q i σ b s a (.refl _ _)⟩
theorem zjf (h:tS K mp (gSet mp i g) D σ H):tAsg (tE K g) (ze9 i) D σ H:=by
 nofun;obtain⟨F,p,f,d,fl,R,h,q⟩:=h;obtain⟨⟨e,r⟩,c,h⟩:=bS h;ac_rfl;split at h
 ·exact noSome h
 ·rename_i z;rw[Cb,not_or,Bi,Bi,Cy] at z;cases h;exact⟨F,p,f,e,r,R,c,λj b v s a y=>q j _ b s (a.store y (Ap z.2)) (Keep.set z.1 _)⟩
theorem zxh (h:tS K mp (gAsg mp T g) D σ H):tAsg (tE K g) (TGof K T) D σ H:=by
 nofun;obtain⟨F,p,l,j,fl,R,h,q⟩:=h;obtain⟨⟨e,r⟩,f,h⟩:=bS h;obtain⟨o,i,h⟩:=bS h;ac_rfl;cases h;refine⟨F,p,l,e,r,R,f,λt d v m n y=>?_⟩;nofun;obtain⟨c,s,R2,z⟩:=y.freeze n;ac_rfl;exact znn R2 z i λa b k=>q c a d (m.trans s) b k
noncomputable def gPar (mp:List Nat) (i j:Nat) (a b:GE):GS:=λe=>(a e).bind λp=>(b p.1).bind λq=>if mp.contains i||mp.contains j || !decide (i<q.1.length) || !decide (j<q.1.length) then Zb else Za ((q.1.set i (#v[p.2.1,6])).set j (Za q.2),.nx)
noncomputable def zbf (i:Nat) (k:GE) (g:GE):GS:=λe=>(g e).bind λp=>match p.1[i]? with
 | some (Za _)=>(k p.1).bind λq=>match q.2,q.1[i]? with
  |(.int n,_),Za (#v[w,2])=>(ixN w.length n).bind λj=>Za (q.1.set i (#v[(w.set j p.2.1),2]),.nx)
  |_,_=>Zb
 |_=>Zb
theorem zp9 (h:tS K mp (zbf i k g) D σ H):tAsg (tE K g) (gSub (tVar i) (tE K k) z7y) D σ H:=by
 obtain⟨F,p,u,I,fl,R,h,q⟩:=h;obtain⟨⟨l,Q⟩,r,h⟩:=bS h;refine⟨F,p,u,l,Q,R,r,λF1 V v1 M O y=>?_⟩;obtain⟨C,t,R2,x⟩:=y.freeze O;split at h
 ·rename_i P d;obtain⟨⟨B,A⟩,G,h⟩:=bS h;obtain⟨U,f0⟩:=P;obtain⟨w,b⟩:=R2.has d;refine⟨w,b,C,p,l,B,A,R2,G,λN X Z s m J=>?_⟩;split at h
  ·rename_i n v Y c e;simp only at c;subst c;obtain⟨j,L,h⟩:=bS h;cases h;obtain⟨a,S,T,E,o,z,W,f⟩:=m.ownL e;cases E;rw[b] at o;cases o;refine⟨a,S,n,j,rfl,J.isInt,z,by rw[<-f.length];exact L,?_⟩;exact q N σ _ (M.trans (t.trans s)) (m.change e b (f.set (x.mono s) j)) (.refl _ _)
  ·exact noSome h
 ·exact noSome h
noncomputable def gApp (i:Nat) (g:GE):GE:=λe=>match e[i]? with
 | some (Za (.lst _,Zd))=>(g e).bind λp=>match p.1[i]? with
  |some (#v[w,2])=>if w.length<sizeLine then Za (p.1.set i (#v[(w++[p.2.1]),2]),(.non,Zc)) else Zb
  |_=>Zb
 |_=>Zb
theorem zy8 (h:tE K (gApp i g) σ H Q):tBM K "list" zme (tVar i) (zaw (tE K g) tNil) σ H Q:=by
 nofun;obtain⟨F,o,k,z,r,R,h,q⟩:=h;ac_rfl;unfold gApp at h;split at h
 ·rename_i I c;nofun;obtain⟨a,E,w,O,d,l,L,N⟩:=R.ownL c;obtain⟨⟨t,D⟩,j,h⟩:=bS h;ac_rfl;refine⟨.ref a,d,.inl ⟨rfl,E,SqL.of' l⟩,F,o,k,t,D,R,j,λS J C A B y=>?_⟩;nofun;obtain⟨u,s,R2,x⟩:=y.freeze B;ac_rfl;split at h
  ·rename_i M b;split at h
   ·rename_i m;cases h;nofun;obtain⟨P,v,G,f,e,n,T,p⟩:=R2.ownL b;ac_rfl;cases f;rw[d] at e;cases e;refine⟨a,v,C,rfl,rfl,n,by rw[<-p.length];exact m,?_⟩;exact q u _ _ (A.trans s) (R2.change b d (p.append (.cons x .nil))) .non
   ·exact noSome h
  ·exact noSome h
 ·exact noSome h
noncomputable def gExt (i:Nat) (g:GE):GE:=λe=>match e[i]? with
 | some (Za (.lst _,Zd))=>(g e).bind λp=>match p.2.1,p.1[i]? with
  |.lst u,Za (#v[w,2])=>if w.length+u.length<=sizeLine then Za (p.1.set i (#v[(w++u),2]),(.non,Zc)) else Zb
  |_,_=>Zb
 |_=>Zb
noncomputable def gAug (mp:List Nat) (o:O2) (i:Nat) (g:GA):GS:=λe=>match e[i]? with
 |some (#v[w,6])=>(g e).bind λp=>(resA p.1 p.2).bind λu=>(o w u).bind λr=>if mp.contains i || !decide (i<p.1.length) then Zb else Za (p.1.set i (Za r),.nx)
 |_=>Zb
theorem zxy (l:OpS K r o)(h:tS K mp (gAug mp o i g) D σ H):tAug i (tA K g) r D σ H:=by
 nofun;obtain⟨F,p,j,C,fl,R,h,q⟩:=h;ac_rfl;unfold gAug at h;split at h
 ·rename_i w G;nofun;obtain⟨v,m,a⟩:=R.val i w G;obtain⟨⟨t,x⟩,e,h⟩:=bS h;obtain⟨u,d,h⟩:=bS h;obtain⟨n,L,h⟩:=bS h;ac_rfl;split at h
  ·exact noSome h
  ·rename_i z;rw[Cb,not_or,Bi,Bi,Cy] at z;cases h;refine⟨v,m,F,p,j,t,x,R,e,λM c I s b A=>?_⟩;refine l M c w u v I n _ b.sub (.inl (a.mono s)) (A.repB b d) L λN f k=>?_;nofun;obtain⟨E,J,B,y⟩:=k.close b;ac_rfl;exact q E _ f (s.trans J) (B.store y (Ap z.2)) (Keep.set z.1 _)
 ·exact noSome h
noncomputable def zkf (mp:List Nat) (T:Tg) (body:GS):List W->En->Option (En×Fl)
 |[],a=>Za (a,.nx)
 | w::b,a=>(tgSet mp T w a).bind λc=>match body c with
  |some (e,.nx)=>zkf mp T body b e
  |some (e,.cnt)=>zkf mp T body b e
  |some (e,.brk)=>Za (e,.nx)
  |some (e,.ret r)=>Za (e,.ret r)
  |none=>Zb
noncomputable def gFor (mp:List Nat) (T:Tg) (it:GL) (body:GS):GS:=λe=>(it e).bind λp=>zkf mp T body p.2 p.1
theorem zyq (h:tS K mp (gFor mp T it body) D σ H):tFor (tI K it) (TGof K T) (tS K mp body) D σ H:=by
 nofun;obtain⟨F,G,en,u,fl,R,h,q⟩:=h;obtain⟨⟨W,b⟩,Z,h⟩:=bS h;ac_rfl;refine⟨F,G,en,W,b,R,Z,λN H1 J Q R1 ok=>?_⟩;refine⟨λi m f l=>m=b.length-i/\i<=b.length/\∃O C,Same N O/\Rel K O G C f l/\Keep mp σ f/\zkf mp T body (b.drop i) C=Za (u,fl),⟨_,rfl,Cj _,N,W,.refl _,R1,.refl _ _,by simpa using h⟩,?_⟩;rintro i m f l ⟨rfl,hi,O,C,n,o,A,a⟩;by_cases c:i<b.length
 ·refine .inr ⟨ok.go i l (n.trans o.sub) c, ?_⟩
  have hd:b.drop i=b[i]::b.drop (i+1):=(Ct c);rw[hd] at a;obtain⟨V,h2,a⟩:=bS (show (tgSet mp T b[i] C).bind _=_ from a);refine⟨λσ2 B=>∃I E,Same N I/\Rel K I G E σ2 B/\Keep mp σ σ2/\zkf mp T body (b.drop (i+1)) E=Za (u,fl),?_,?_⟩
  ·rintro σ2 B ⟨I,E,s2,R2,k2,S⟩
   exact⟨b.length-(i+1),by symm,rfl,c,I,E,s2,R2,k2,S⟩
  ·intro x B y
   obtain⟨w,U,out⟩:=ok.yld i l x B (n.trans o.sub) c y;rw[Ac c] at U;obtain rfl:=sI U;nofun;obtain⟨X,s3,R3,z⟩:=(out.mono n).close o;ac_rfl;refine znn (w:=b[i]) R3 z h2 λσ3 R4 L=>?_;cases eb:body V with
   |none=>simp only [eb] at a;exact noSome a
   | some p =>
    obtain⟨P,Y⟩:=p;refine⟨X,G,V,P,Y,R4,eb,?_⟩;have M:Same N X:=n.trans s3;cases Y with
    | nx =>
     simp only [eb] at a;exact λg d t s j k=>⟨g,P,M.trans s,j,(A.trans L).trans k,a⟩
    | cnt =>
     simp only [eb] at a;exact λg d t s j k=>⟨g,P,M.trans s,j,(A.trans L).trans k,a⟩
    | brk =>
     simp only [eb] at a;cases a;exact λg d t s j k=>q g d t (Q.trans (M.trans s)) j ((A.trans L).trans k)
    | ret r =>
     simp only [eb] at a;cases a;exact λg d t v s j k z=>q g d t v (Q.trans (M.trans s)) j ((A.trans L).trans k) z
 ·have e:i=b.length:=by symm
  subst e;rw[List.drop_length] at a;cases a;exact .inl ⟨ok.stop l (n.trans o.sub),q O f l (Q.trans n) o A⟩
noncomputable def zc2 (c:GT) (body:GS):Nat->GS
 |0,_=>Zb
 | n+1,b=>match c b with
  | some (a,Zd)=>match body a with
   |some (e,.nx)=>zc2 c body n e
   |some (e,.cnt)=>zc2 c body n e
   |some (e,.brk)=>Za (e,.nx)
   |some (e,.ret r)=>Za (e,.ret r)
   |none=>Zb
  |#v[a,6]=>Za (a,.nx)
  |none=>Zb
theorem zqd (h:tS K mp (zc2 c body n) D σ H):zzy (tT K c) (tS K mp body) D σ H:=by
 nofun;obtain⟨F,t,P,l,fl,R,h,q⟩:=h;ac_rfl;refine⟨λm e E=>∃w j,Same F w/\Rel K w t j e E/\Keep mp σ e/\zc2 c body m j=Za (l,fl),⟨n,F,P,.refl _,R,.refl _ _,h⟩,?_⟩;rintro m e E ⟨w,j,I,N,o,a⟩;cases m with
 |zero=>exact noSome a
 | succ m =>
  unfold zc2 at a;cases ec:c j with
  |none=>simp only [ec] at a;exact noSome a
  | some p =>
   obtain⟨y,b⟩:=p;refine⟨w,t,j,y,b,N,ec,λA O J L=>?_⟩;cases b with
   | false =>
    simp only [ec] at a;cases a;exact iteF (q A e O (I.trans J) L o)
   | true =>
    simp only [ec] at a;refine iteT ⟨λσ2 B=>∃G C,Same F G/\Rel K G t C σ2 B/\Keep mp σ σ2/\zc2 c body m C=Za (l,fl),λσ2 B z=>⟨m,Nat.lt_succ_self m,z⟩,?_⟩;cases eb:body y with
    |none=>simp only [eb] at a;exact noSome a
    | some p =>
     obtain⟨x,M⟩:=p;refine⟨A,t,y,x,M,L,eb,?_⟩;have u:Same F A:=I.trans J;cases M with
     | nx =>
      simp only [eb] at a;exact λf d i s g k=>⟨f,x,u.trans s,g,o.trans k,a⟩
     | cnt =>
      simp only [eb] at a;exact λf d i s g k=>⟨f,x,u.trans s,g,o.trans k,a⟩
     | brk =>
      simp only [eb] at a;cases a;exact λf d i s g k=>q f d i (u.trans s) g (o.trans k)
     | ret r =>
      simp only [eb] at a;cases a;exact λf d i v s g k z=>q f d i v (u.trans s) g (o.trans k) z
end
section
end
section
variable {K:Zg}
noncomputable def intW:W->Option Int
 |.int k=>Za k
 |_=>Zb
end
section
end
section
end
section
variable {K:Zg}
end
theorem Rel.drop {K:Zg}(R:Rel K F pr en σ H)(e:en[i]?=Za (#v[w,5])):∃v,σ[i]?=Za (Za v)/\Rel K F pr (en.set i Zb) σ H/\Res K F H pr (en.set i Zb) σ (w,Zd) v:=by
 have p:i<en.length:=(Ag.mp e).1;nofun;obtain⟨a,s,d,m,c,t,r,l⟩:=R.own i w e;ac_rfl;have g:∀(j:Nat) (x:W×Bool),(en.set i Zb)[j]?=Za (Za x)->j≠i/\en[j]?=Za (Za x):=λj x h=>by
  rcases zej p h with⟨_,q⟩|z
  ·cases q
  ·exact z
 refine⟨_,c,⟨by rw[Bq];exact R.len,R.sub,λj u q=>R.val j u (g j _ q).2,λj u q=>R.own j u (g j _ q).2,λj k b u n q f=>R.inj j k b u n (g j _ q).2 (g k _ f).2,λb o q=>⟨(R.prt b o q).1,(R.prt b o q).2.1,λj u z=>(R.prt b o q).2.2 j u (g j _ z).2⟩,R.tb⟩,a,s,d,m,rfl,t,r,l,λj u q z=>?_,λb o q z=>?_⟩
 ·exact (g j _ q).1 (R.inj j i a _ _ (g j _ q).2 e z c)
 ·subst z;exact (R.prt b o q).2.2 i w e c
section
end
noncomputable abbrev Cap:=List (Option Nat)
noncomputable def ze7 (cap:Cap) (en:En):En:=cap.map λo=>match o with
 |some i=>(en[i]?).getD Zb
 |none=>Zb
noncomputable def zar (cap:Cap) (i:Nat):Option Nat:=cap.findIdx? (· == Za i)
noncomputable def zb0 (cap:Cap):Bool:=(List.range cap.length).all λj=>match cap[j]? with
 |some (Za i)=>zar cap i==Za j
 |_=>Zd
noncomputable def capKeep (cap:Cap):List Nat:=(List.range cap.length).filter λj=>match cap[j]? with
 |some (Za _)=>Zd
 |_=>Zc
noncomputable def zax (cap:Cap) (en c:En):En:=en.mapIdx λi x=>match zar cap i with
 |some j=>(c[j]?).getD Zb
 |none=>x
theorem zbg (h:zar cap i=Za j):cap[j]?=Za (Za i):=by
 unfold zar at h;obtain⟨a,b,_⟩:=List.findIdx?_eq_some_iff_getElem.mp h;rw[Ac a];have:cap[j]=Za i:=by simpa using b
 rw[this]
theorem zcj (h:zar cap i=Zb)(j:Nat):cap[j]?≠Za (Za i):=λe=>by
 unfold zar at h;have:=List.findIdx?_eq_none_iff.mp h (Za i) (Bp e);simp at this
theorem zf2 (h:zb0 cap=Zd)(e:cap[j]?=Za (Za i)):zar cap i=Za j:=by
 unfold zb0 at h;have a:j<cap.length:=(Ag.mp e).1;have:=Be.mp h j (Bo.mpr a);simp only [e] at this;simpa using this
theorem znb (e:cap[j]?=Za (Za i)):j∈capKeep cap:=by
 unfold capKeep;exact Ch.mpr ⟨Bo.mpr (Ag.mp e).1,by simp only [e]⟩
theorem zdd {j:Nat}{x:W×Bool} (h:(ze7 cap en)[j]?=Za (Za x)):∃i,cap[j]?=Za (Za i)/\en[i]?=Za (Za x):=by
 unfold ze7 at h;rw[Am] at h;cases e:cap[j]? with
 |none=>rw[e] at h;exact noSome h
 | some o =>
  rw[e] at h;cases o with
  |none=>cases h
  | some i =>
   refine⟨i,rfl,?_⟩;have a:(en[i]?).getD Zb=Za x:=sI h;cases e2:en[i]? with
   |none=>rw[e2] at a;exact noSome a
   |some z=>rw[e2] at a;exact congrArg Za a
theorem zn5 {cap:Cap}{σ:St}{i j:Nat}(h:cap[j]?=Za (Za i)):(capSt cap σ)[j]?=Za ((σ[i]?).getD Zb):=by
 unfold capSt;rw[Am,h]
 rfl
theorem zey {i j:Nat}{v:V}(h:cap[j]?=Za (Za i))(a:σ[i]?=Za (Za v)):(capSt cap σ)[j]?=Za (Za v):=by
 rw[zn5 h,a];rfl
theorem backEn_get (h:(zax cap en ce)[i]?=Za (Za x)):(∃j,zar cap i=Za j/\ce[j]?=Za (Za x))\/(zar cap i=Zb/\en[i]?=Za (Za x)):=by
 unfold zax at h;rw[Gj] at h;cases e:en[i]? with
 |none=>rw[e] at h;exact noSome h
 | some o =>
  rw[e] at h;cases c:zar cap i with
  |none=>simp only [c,Gm] at h;exact .inr ⟨rfl,h⟩
  | some j =>
   simp only [c,Gm] at h;have a:(ce[j]?).getD Zb=Za x:=sI h;refine .inl ⟨j,rfl,?_⟩;cases e2:ce[j]? with
   |none=>rw[e2] at a;exact noSome a
   |some z=>rw[e2] at a;exact congrArg Za a
noncomputable def zbu (p:Prt) (cap:Cap) (en:En) (σ:St) (H:Hp):Prt:=λb o=>p b o\/∃(j:Nat) (w:W),en[j]?=Za (#v[w,5])/\zar cap j=Zb/\σ[j]?=Za (Za (V.ref b))/\H b=Za o
noncomputable def zhh (p:Prt) (a:Zh) (vs:List V):Prt:=λb o=>p b o\/(b=a/\o=.lst vs)
section
variable {K:Zg}
theorem Rel.ownT (R:Rel K F pr en σ H){j:Nat}{w:W}{b:Zh}{ps:Array Ze}(e:en[j]?=Za (#v[w,5]))(s:σ[j]?=Za (Za (V.ref b))):H b≠Za (.tbl ps):=λz=>by
 obtain⟨a,o,f,_,h,c,_,d⟩:=R.own j w e;rw[s] at h;cases h;rw[z] at c;obtain rfl:=sI c;cases d
theorem zhu {b:Zh}{ps:Array Ze}(R:Rel K F pr en σ H)(e:H b=Za (.tbl ps))(h:∀o,¬ pr b o):∀o,¬ zbu pr cap en σ H b o:=λo z=>by
 rcases z with z|⟨j,w,a,_,q,_⟩
 ·exact h o z
 ·exact R.ownT a q e
theorem zhv (R:Rel K F pr en σ H)(z:zbu pr cap en σ H b (.tup xs)):pr b (.tup xs):=by
 rcases z with z|⟨j,w,e,_,d,q⟩
 ·exact z
 ·obtain⟨a,o,g, _,h,c,_,f⟩:=R.own j w e;rw[d] at h;cases h;rw[q] at c;obtain rfl:=sI c;cases f
theorem Rel.accUpd (R:Rel K F (zhh pb acc vs) en σ H)(x:∀b o,pb b o->b≠acc):Rel K F (zhh pb acc us) en σ (upd H acc (.lst us)):=by
 obtain⟨g,c,d⟩:=R.prt acc (.lst vs) (.inr ⟨rfl,rfl⟩);have n:∀b p,H b=Za (.tbl p)->b≠acc:=λb p e z=>by subst z;rw[g] at e;cases e
 have nx:∀b φ,H b=Za (.ext φ)->b≠acc:=λb φ e z=>by subst z;rw[g] at e;cases e
 refine⟨R.len,λb o e=>?_,R.val,λi w e=>?_,R.inj,λb o q=>?_,R.tb.go (λb A z=>z.elim .inl λz=>nomatch z.2) (λb p e f=>⟨by rw[upd_ne (n b p e)];exact e,f⟩) (.refl F) λb p e u o z=>z.elim (λz=>u o (.inl z)) λz=>n b p e z.1⟩
 ·have:b≠acc:=λz=>by subst z;rw[c] at e;exact noSome e
  rw[upd_ne this];exact R.sub _ _ e
 ·refine aG λG qG => ?_;obtain⟨a,v,s,k,h,t,m,l⟩:=R.own i w e;ac_rfl;have:a≠acc:=λz=>by subst z;exact d i w e h
  exact⟨a,v,s,k,h,by rw[upd_ne this];exact t,m,l⟩
 ·rcases q with q|⟨rfl,rfl⟩
  ·obtain⟨y,j,r⟩:=R.prt b o (.inl q);exact⟨by rw[upd_ne (x b o q)];exact y,j,r⟩
  ·exact⟨upd_same,c,d⟩
theorem ztz (R:Rel K F pr en σ H)(h:H acc=Zb):∀b o,zbu pr cap en σ H b o->b≠acc:=λb o q=>by
 rcases q with q|⟨j,w,_,_,_,q⟩
 ·exact zac (R.prt b o q).1 h
 ·exact zac q h
theorem Rel.block {cap:Cap}{m:Zh}(R:Rel K F pr en σ H)(p:H m=Zb)(P:zb0 cap=Zd):Rel K F (zhh (zbu pr cap en σ H) m []) (ze7 cap en) (capSt cap σ) (upd H m (.lst [])):=by
 have Z:F m=Zb:=R.sub.free p;have R2:=R.lay p (.lst []);refine⟨by unfold ze7 capSt;rw[Ad,Ad],R2.sub,λj w e=>?_,λj w e=>?_,λj l a w w' C A D E=>?_,λb o q=>?_,R.tb.go (λb xs z=>z.elim (zhv R) λz=>nomatch z.2) (λb T e f=>⟨by rw[upd_ne (zac e p)];exact e,f⟩) (.refl F) λb T e Y o z=>z.elim (zhu R e Y o) λz=>zac e p z.1⟩
 ·refine aG λG qG => ?_;obtain⟨i,c,e⟩:=zdd e;obtain⟨v,r,h⟩:=R.val i w e;ac_rfl;exact⟨v,zey c r,h⟩
 ·refine aG λG qG => ?_;obtain⟨i,c,e⟩:=zdd e;obtain⟨a,B,y,r,h,g,n,u⟩:=R2.own i w e;ac_rfl;exact⟨a,B,y,r,zey c h,g,n,u⟩
 ·refine aG λG qG => ?_;obtain⟨i,I,C⟩:=zdd C;obtain⟨k,J,A⟩:=zdd A;obtain⟨i',s,D⟩:=capSt_get D;obtain⟨k',t,E⟩:=capSt_get E;ac_rfl;rw[I] at s;cases s;rw[J] at t;cases t;have:=R.inj i k a _ _ C A D E;subst this;have x:=zf2 P I;rw[zf2 P J] at x;exact (sI x).symm
 ·have d:∀(j:Nat) (w:W),(ze7 cap en)[j]?=Za (Za (w,Zd))->∃(i:Nat) (a:Zh),cap[j]?=Za (Za i)/\en[i]?=Za (Za (w,Zd))/\σ[i]?=Za (Za (V.ref a))/\(capSt cap σ)[j]?=Za (Za (V.ref a))/\∃o,H a=Za o:=λj w e=>by
   nofun;obtain⟨i,c,e⟩:=zdd e;obtain⟨a,B,y,r,h,g,n,u⟩:=R.own i w e;ac_rfl;exact⟨i,a,c,e,h,zey c h,_,g⟩
  rcases q with (q|⟨M,Q,N,X,O,L⟩)|⟨rfl,rfl⟩
  ·obtain⟨b1,S,U⟩:=R2.prt b o q;refine⟨b1,S,λj w e=>?_⟩;nofun;obtain⟨i,a,_,e,h,g,_⟩:=d j w e;ac_rfl;rw[g];intro z;cases z;exact U i w e h
  ·refine aG λG qG => ?_;obtain⟨a,B,y,r,h,g,n,u⟩:=R.own M Q N;ac_rfl;rw[O] at h;cases h;refine⟨by rw[upd_ne (zac L p)];exact L,n,λj w e=>?_⟩;nofun;obtain⟨i,a,c,e,h,g,_⟩:=d j w e;ac_rfl;rw[g];intro z;cases z;have:=R.inj i M _ _ _ e N h O;subst this;exact zcj X j c
  ·refine⟨upd_same,Z,λj w e => ?_⟩;nofun;obtain⟨i,a,c,e,h,g,o,n⟩:=d j w e;ac_rfl;rw[g];intro z;cases z;rw[p] at n;exact noSome n
theorem Rel.unblock {cap:Cap}{p:Zh}{r H':Hp}{E:En}{σc:St}{vs:List V}{ws:List W} (R:Rel K F pr en σ H) (S:H p=Zb) (s:Same F r) (y:Rel K r (zhh (zbu pr cap en σ H) p vs) E σc H') (kp:Keep (capKeep cap) (capSt cap σ) σc) (rs:Reps K r ws vs) :
  Rel K r pr (zax cap en E) σ H'/\Res K r H' pr (zax cap en E) σ (.lst ws,Zd) (.ref p):=by
 have slot:∀(i j:Nat) (v:V),zar cap i=Za j->σc[j]?=Za (Za v)->σ[i]?=Za (Za v):=λi j v c e=>by
  have T:=zbg c;rw[kp j (znb T),zn5 T] at e;have J:(σ[i]?).getD Zb=Za v:=sI e;cases q:σ[i]? with
  |none=>rw[q] at J;exact noSome J
  |some z=>rw[q] at J;exact congrArg Za J
 obtain⟨Z,U,Y⟩:=y.prt p (.lst vs) (.inr ⟨rfl,rfl⟩);have un:∀(i:Nat) (w:W),zar cap i=Zb->en[i]?=Za (#v[w,5])->∃(a:Zh) (vs:HO) (ws:W),w=ws/\σ[i]?=Za (Za (V.ref a))/\H a=Za vs/\H' a=Za vs/\r a=Zb/\OwnR K F ws vs/\∀(j:Nat) (D:W),E[j]?=Za (#v[D,5])->σc[j]?≠Za (Za (V.ref a)):=λi w c e=>by
  nofun;obtain⟨a,vs,ws,n,h,d,C,A⟩:=R.own i w e;obtain⟨Q,N,O⟩:=y.prt a vs (.inl (.inr ⟨i,w,e,c,h,d⟩));ac_rfl;exact⟨a,vs,ws,n,h,d,Q,N,A,O⟩
 have g:∀(i j:Nat) (w:W),zar cap i=Za j->E[j]?=Za (#v[w,5])->∃(a:Zh) (vs:HO) (ws:W),w=ws/\σ[i]?=Za (Za (V.ref a))/\σc[j]?=Za (Za (V.ref a))/\H' a=Za vs/\r a=Zb/\OwnR K r ws vs:=λi j w c e=>by
  nofun;obtain⟨a,vs,ws,n,h,d,C,A⟩:=y.own j w e;ac_rfl;exact⟨a,vs,ws,n,slot i j _ c h,h,d,C,A⟩
 refine⟨⟨by unfold zax;rw[List.length_mapIdx];exact R.len,y.sub,λi w e=>?_,λi w e=>?_,λi k a w D u m P L=>?_,λb o q=>?_,y.tb.go (λb xs z=>.inl (.inl z)) (λb X e f=>⟨e,f⟩) (.refl r) λb X e hh o z=>hh o (.inl (.inl z))⟩,p,_,_,rfl,rfl,Z,U,.lst rs,λi w e=>?_,λb o q=>zac (R.prt b o q).1 S⟩
 ·rcases backEn_get e with⟨j,c,e⟩|⟨c,e⟩
  ·obtain⟨v,n,h⟩:=y.val j w e;exact⟨v,slot i j v c n,h⟩
  ·obtain⟨v,n,h⟩:=R.val i w e;exact⟨v,n,h.mono s⟩
 ·rcases backEn_get e with⟨j,c,e⟩|⟨c,e⟩
  ·refine aG λG qG => ?_;obtain⟨a,vs,ws,n,h,_,d,C,A⟩:=g i j w c e;ac_rfl;exact⟨a,vs,ws,n,h,d,C,A⟩
  ·refine aG λG qG => ?_;obtain⟨a,vs,ws,n,h,_,d,C,A,_⟩:=un i w c e;ac_rfl;exact⟨a,vs,ws,n,h,d,C,A.mono s⟩
 ·rcases backEn_get u with⟨j,c,u⟩|⟨c,u⟩
  ·refine aG λG qG => ?_;obtain⟨M,_,_,_,h,d,_⟩:=g i j w c u;ac_rfl;rw[P] at h;cases h;rcases backEn_get m with⟨l,B,m⟩|⟨B,m⟩
   ·refine aG λG qG => ?_;obtain⟨M,_,_,_,t,I,_⟩:=g k l D B m;ac_rfl;rw[L] at t;cases t;have:=y.inj j l a _ _ u m d I;subst this;have x:=zbg c;rw[zbg B] at x;cases x;rfl
   ·refine aG λG qG => ?_;obtain⟨M,_,_,_,t,_,_,_,_,I⟩:=un k D B m;ac_rfl;rw[L] at t;cases t;exact absurd d (I j w u)
  ·refine aG λG qG => ?_;obtain⟨M,_,_,_,h,_,_,_,_,d⟩:=un i w c u;ac_rfl;rw[P] at h;cases h;rcases backEn_get m with⟨l,B,m⟩|⟨B,m⟩
   ·refine aG λG qG => ?_;obtain⟨M,_,_,_,t,I,_⟩:=g k l D B m;ac_rfl;rw[L] at t;cases t;exact absurd I (d l D m)
   ·exact R.inj i k a _ _ u m P L
 ·obtain⟨Q,N,O⟩:=y.prt b o (.inl (.inl q));refine⟨Q,N,λi w e=>?_⟩;rcases backEn_get e with⟨j,c,e⟩|⟨c,e⟩
  ·refine aG λG qG => ?_;obtain⟨a,_,_,_,h,d,_⟩:=g i j w c e;ac_rfl;rw[h];intro z;cases z;exact O j w e d
  ·exact (R.prt b o q).2.2 i w e
 ·rcases backEn_get e with⟨j,c,e⟩|⟨c,e⟩
  ·refine aG λG qG => ?_;obtain⟨a,_,_,_,h,d,_⟩:=g i j w c e;ac_rfl;rw[h];intro z;cases z;exact Y j w e d
  ·refine aG λG qG => ?_;obtain⟨a,_,_,_,h,d,_⟩:=un i w c e;ac_rfl;rw[h];intro z;cases z;rw[S] at d;exact noSome d
end
noncomputable def zgu (mp:List Nat) (T:Tg) (tc:GT) (te:GE):List W->En->Option (En×List W)
 |[],c=>Za (c,[])
 | w::b,c=>(tgSet mp T w c).bind λd=>match tc d with
  |#v[a,5]=>(te a).bind λp=>(zgu mp T tc te b p.1).bind λq=>Za (q.1,p.2.1::q.2)
  |#v[a,6]=>zgu mp T tc te b a
  |none=>Zb
noncomputable def zbq (cap:Cap) (T:Tg) (it:GL) (tc:GT) (te:GE):GE:=λe=>(it e).bind λp=>if zb0 cap&&decide (p.2.length<=sizeLine) then (zgu (capKeep cap) T tc te p.2 (ze7 cap p.1)).bind λq=>Za (zax cap p.1 q.1,(.lst q.2,Zd)) else Zb
noncomputable def gYes:GT:=λe=>#v[e,5]
noncomputable def zex (mp:List Nat) (T:Tg) (tc:GT) (e:GL):List W->En->Option (En×List W)
 |[],c=>Za (c,[])
 | w::b,c=>(tgSet mp T w c).bind λd=>match tc d with
  |#v[a,5]=>(e a).bind λp=>(zex mp T tc e b p.1).bind λq=>Za (q.1,p.2++q.2)
  |#v[a,6]=>zex mp T tc e b a
  |none=>Zb
noncomputable def gOne (te:GE):GL:=λe=>(te e).bind λp=>Za (p.1,[p.2.1])
noncomputable def z0a (cap:Cap) (T:Tg) (it:GL) (tc:GT) (e:GL):GE:=λa=>(it a).bind λp=>if zb0 cap then (zex (capKeep cap) T tc e p.2 (ze7 cap p.1)).bind λq=>if q.2.length<=sizeLine then Za (zax cap p.1 q.1,(.lst q.2,Zd)) else Zb else Zb
theorem zhb:∀{ws:List W}{a c:En}{out:List W},zgu mp T tc te ws a=Za (c,out)->zex mp T tc (gOne te) ws a=Za (c,out)/\out.length<=ws.length
 |[],_,_,_,h=>by cases h;exact⟨rfl,Ae _⟩
 | w::ws,a,c,out,h=>by
  obtain ⟨f,j,h⟩:=bS (show (tgSet mp T w a).bind _=_ from h);have e:zex mp T tc (gOne te) (w::ws) a=match tc f with
   |#v[d,5]=>(gOne te d).bind λp=>(zex mp T tc (gOne te) ws p.1).bind λq=>Za (q.1,p.2++q.2)
   |#v[d,6]=>zex mp T tc (gOne te) ws d
   |none=>Zb:=by rw[zex,j];rfl
  rw[e];cases et:tc f with
  |none=>simp only [et] at h;exact noSome h
  | some p =>
   obtain⟨d,b⟩:=p;cases b with
   |false=>simp only [et] at h;exact⟨(zhb h).1,Nat.le_succ_of_le (zhb h).2⟩
   | true =>
    simp only [et] at h;obtain⟨⟨k,r⟩,i,h⟩:=bS h;obtain⟨⟨l,rest⟩,g,h⟩:=bS h;cases h;refine⟨?_,Nat.succ_le_succ (zhb g).2⟩;show (gOne te d).bind _=_;rw[gOne,i];show (zex mp T tc (gOne te) ws k).bind _=_;rw[(zhb g).1]
    rfl
noncomputable def MOk (K:Zg) (mp:List Nat) (p:Prt) (b:Zh) (g:GL) (t:TM):Prop:=∀(F:Hp) (e:En) (σ:St) (H:Hp) (v:List V) (c:En) (out:List W) (N:St->Hp->Prop),Rel K F (zhh p b v) e σ H->g e=Za (c,out)->v.length+out.length<=sizeLine ->
 (∀d a f u,Same F d->Rel K d (zhh p b (v++u)) c a f->Keep mp σ a->Reps K d out u->N a f)->t σ H N
section
variable {K:Zg}
theorem ya6 (p:∀b o,pb b o->b≠acc):MOk K mp pb acc (gOne te) (zyv acc (tE K te)):=by
 intro F g σ H c l out N R h f q;nofun;obtain⟨⟨e,r⟩,d,h⟩:=bS h;ac_rfl;cases h;refine⟨F,_,g,e,r,R,d,λu t v m i n=>?_⟩;nofun;obtain⟨k,s,a,y⟩:=n.freeze i;obtain⟨j,_,_⟩:=a.prt acc (.lst c) (.inr ⟨rfl,rfl⟩);ac_rfl;exact⟨c,j,f,q k σ _ [v] (m.trans s) (a.accUpd p) (.refl _ _) (.cons y .nil)⟩
theorem z3z (M:MOk K mp pb acc em tm) (R:Rel K F1 (zhh pb acc vs0) ce0 σ0 H0) (ok:ItOk K F1 J ws) (h:zex mp T tc em ws ce0=Za (ce',out)) (Z:vs0.length+out.length<=sizeLine)
  (q:∀F g H' u,Same F1 F->Rel K F (zhh pb acc (vs0++u)) ce' g H'->Keep mp σ0 g->Reps K F out u->N0 g H'):zns J (TGof K T) (tT K tc) tm σ0 H0 N0:=by
 refine ⟨λi m σc H=>m=ws.length-i/\i<=ws.length/\∃F f d u rest,Same F1 F/\Rel K F (zhh pb acc (vs0++u)) f σc H/\Keep mp σ0 σc/\Reps K F d u/\zex mp T tc em (ws.drop i) f=Za (ce',rest)/\d++rest=out,
  ⟨_,rfl,Cj _,F1,ce0,[],[],out,.refl _,by rw[Bm];exact R,.refl _ _,.nil,h,rfl⟩,?_⟩
 rintro i m σc H ⟨rfl,hi,F,f,d,u,rest,j,l,D,rd,a,k⟩;by_cases c:i<ws.length
 ·refine .inr ⟨ok.go i H (j.trans l.sub) c, ?_⟩
  have V:ws.drop i=ws[i]::ws.drop (i+1):=(Ct c);rw[V] at a;obtain⟨G,h3,a⟩:=bS (show (tgSet mp T ws[i] f).bind _=_ from a);refine⟨λσ2 n=>∃F f d u rest,Same F1 F/\Rel K F (zhh pb acc (vs0++u)) f σ2 n/\Keep mp σ0 σ2/\Reps K F d u/\zex mp T tc em (ws.drop (i+1)) f=Za (ce',rest)/\d++rest=out,λσ2 n z=>⟨ws.length-(i+1),by symm,rfl,c,z⟩,?_⟩;intro x n y;obtain⟨w,E,o⟩:=ok.yld i H x n (j.trans l.sub) c y;rw[Ac c] at E;obtain rfl:=sI E;nofun;obtain⟨F3,A,R3,z3⟩:=(o.mono j).close l;ac_rfl;refine znn (w:=ws[i]) R3 z3 h3 λC R4 P=>?_;cases et:tc G with
  |none=>simp only [et] at a;exact noSome a
  | some p =>
   obtain⟨t,b⟩:=p;refine⟨F3,_,G,t,b,R4,et,λI X B Q=>?_⟩;cases b with
   | false =>
    simp only [et] at a;exact iteF ⟨I,t,d,u,rest,j.trans (A.trans B),Q,D.trans P,rd.mono (A.trans B),a,k⟩
   | true =>
    simp only [et] at a;nofun;obtain⟨⟨N,L⟩,U,a⟩:=bS a;obtain⟨⟨c4,r⟩,Y,a⟩:=bS a;ac_rfl;cases a;refine iteT (M I t C X (vs0++u) N L _ Q U ?_ λO σ6 H6 v s6 R6 W S=>?_)
    ·dsimp only at k
     rw[<-k,Bf,Bf,rd.length] at Z;rw[Bf];symm
    ·have s:Same F O:=A.trans (B.trans s6)
     exact⟨O,N,d++L,u++v,r,j.trans s,by rw[<-Bb];exact R6,D.trans (P.trans W),(rd.mono s).append S,Y,by rw[Bb];exact k⟩
 ·have e:i=ws.length:=by symm
  subst e;rw[List.drop_length] at a;cases a;rw[Bm] at k;subst k;exact .inl ⟨ok.stop H (j.trans l.sub),q F σc H u j l D rd⟩
end
theorem zpn {K:Zg}(M:∀(p:Prt) (a:Zh),(∀b o,p b o->b≠a)->MOk K (capKeep cap) p a em (tm a))(h:tE K (z0a cap T it tc em) σ H Q):zre (tI K it) cap (TGof K T) (tT K tc) tm σ H Q:=by
 nofun;obtain⟨F,n,j,v,r,R,h,q⟩:=h;obtain⟨⟨t,w⟩,i,h⟩:=bS h;ac_rfl;refine⟨F,n,j,t,w,R,i,λD C J z d ok a c=>?_⟩;split at h
 ·rename_i B;nofun;obtain⟨⟨y,out⟩,u,h⟩:=bS h;ac_rfl;split at h
  ·rename_i l;cases h;refine z3z (M _ a (ztz (cap:=cap) d c)) (d.block c B) ok u (by rw[List.length_nil,Cr];exact l) λm x k E s e A rd=>?_;obtain⟨f,g⟩:=d.unblock c s e A rd;exact q m k _ (z.trans s) f g
  ·exact noSome h
 ·exact noSome h
theorem zr6 {K:Zg}(h:tE K (zbq cap T it tc te) σ H Q):zre (tI K it) cap (TGof K T) (tT K tc) (λa=>zyv a (tE K te)) σ H Q:=by
 refine zpn (λl a f=>ya6 f) ?_;obtain⟨F,p,i,e,r,R,h,q⟩:=h;refine⟨F,p,i,e,r,R,?_,q⟩;nofun;obtain⟨⟨b,w⟩,c,h⟩:=bS h;ac_rfl;split at h
 ·rename_i z;rw[Af] at z;nofun;obtain⟨⟨j,out⟩,d,h⟩:=bS h;ac_rfl;obtain⟨g,k⟩:=zhb d;rw[z0a,c];show (if zb0 cap=Zd then (zex (capKeep cap) T tc (gOne te) w (ze7 cap b)).bind _ else Zb)=_;rw[if_pos z.1,g];show (if out.length<=sizeLine then _ else Zb)=_;rw[if_pos (Bz k (Ap z.2))];exact h
 ·exact noSome h
noncomputable def yai:GE:=λe=>Za (e,(.dic,Zc))
noncomputable def keyW:W->Bool
 |.int _=>Zd
 |.str _=>Zd
 |_=>Zc
noncomputable def ya2 (k v:GE):GE:=λe=>(k e).bind λp=>if keyW p.2.1 then (v p.1).bind λq=>Za (q.1,(.dic,Zc)) else Zb
noncomputable def Src (h:Heap) (it l:Zh) (k:Nat) (xs:Array Ze):Prop:=(h.IsListIter it l k/\h.IsList l xs)\/(h.IsTupleIter it l k/\h.IsTuple l xs)
theorem Src.at (c:Src h it l k xs)(a:∀o,h.get? it=Za o->h'.get? it=Za o)(b:∀o,h.get? l=Za o->h'.get? l=Za o):Src h' it l k xs:=by
 rcases c with⟨p,q⟩|⟨p,q⟩
 ·exact .inl ⟨p.at a,q.at b⟩
 ·obtain⟨o,e,r⟩:=q;exact .inr ⟨p.at a,o,b o e,r⟩
theorem Src.src (c:Src h it l k xs):∃o,h.get? l=Za o:=by
 rcases c with⟨_,⟨o,e,_⟩⟩|⟨_,⟨o,e,_⟩⟩<;>exact⟨o,e⟩
section
theorem zfy (c:Src s.heap it l k xs) (i:xs[k]?=Za x) (ne:l≠it)
  (q:∀h',Src h' it l (k+1) xs->Heap.SameBut it s.heap h'->Q x { s with heap:=h' }):wpAny (model prog w) A (Builtin.SmallTypes.nextOf (.ref it)) Q E s:=by
 rcases c with⟨d,g⟩|⟨d,g⟩
 ·exact wpAny_nextOf_list_item d g i λh' a b=>q h' (.inl ⟨a,g.at λo e=>(b.2 l ne).trans e⟩) b
 ·refine aG λG qG => ?_;obtain⟨t,h,m,f⟩:=id d;obtain⟨p,j,r,n,ds⟩:=id g;ac_rfl;unfold Builtin.SmallTypes.nextOf;refine Aa (De (name:=Str.ofString "__next__") d.typeIs Fp (Er Fp d.typeIs F.entry_tuple_iterator_next ?_ (F.args_tuple_iterator_next_1 _)));refine (show wpAny _ _ (field (.ref it) 0>>=_) _ _ s from Aa (Cv h f (x:=.ref l) rfl ?_));refine (show wpAny _ _ (if (Ze.ref l==Ze.none)=Zd then _ else _) _ _ s from ?_);rw[if_neg (by intro z;cases z)];refine (show wpAny _ _ (field (.ref it) 1>>=_) _ _ s from Aa (Cv h f (x:=.int k 0) rfl ?_));refine (show wpAny _ _ (seqItems? (.ref l)>>=_) _ _ s from Aa (Eo j ds ?_));simp only [Dl,i];refine Aa (wpAny_setField h f (by simp) (Ar ⟨x,rfl,Ar ?_⟩));refine q _ (.inr ⟨⟨_,Heap.get?_update_self _ h (Obj.isFreed_of_fields (Obj.data_mapFields f _)),(Obj.cls_mapFields ..).trans m,by rw[Obj.data_mapFields f];simp [rawInt]⟩,p,?_,r,n,ds⟩) (Dv ..);exact ((Dv ..).2 l ne).trans j
theorem zi5 (i:A.handled=Zb) (c:Src s.heap it l k xs) (h:xs[k]?=Zb)
  (q:∀h' e,Heap.ExtBut it s.heap h'->(∃o,h'.get? e=Za o/\o.cls=.type "StopIteration")->E (.ref e) { s with heap:=h' }):wpAny (model prog w) A (Builtin.SmallTypes.nextOf (.ref it)) Q E s:=by
 rcases c with⟨b,d⟩|⟨b,d⟩
 ·exact wpAny_nextOf_list_end i b d h q
 ·obtain⟨n,f,r,g⟩:=id b;obtain⟨t,j,u,p,ds⟩:=id d;unfold Builtin.SmallTypes.nextOf;refine Aa (De (name:=Str.ofString "__next__") b.typeIs Fp (Er Fp b.typeIs F.entry_tuple_iterator_next ?_ (F.args_tuple_iterator_next_1 _)));refine (show wpAny _ _ (field (.ref it) 0>>=_) _ _ s from Aa (Cv f g (x:=.ref l) rfl ?_));refine (show wpAny _ _ (if (Ze.ref l==Ze.none)=Zd then _ else _) _ _ s from ?_);rw[if_neg (by intro z;cases z)];refine (show wpAny _ _ (field (.ref it) 1>>=_) _ _ s from Aa (Cv f g (x:=.int k 0) rfl ?_));refine (show wpAny _ _ (seqItems? (.ref l)>>=_) _ _ s from Aa (Eo j ds ?_));simp only [Dl,h];refine Aa (Ei (Aa (wpAny_setField f g (by simp) (show wpAny _ _ (newExc (.type "StopIteration") []>>=_) _ _ _ from Aa ?_))));simp only [newExc,newTuple];refine Aa (Ed (Aa (m:=firstArgMember _ _) (wpAny_of_eq (a:=Ze.none) (by first|rfl|(simp only [firstArgMember];rfl)) (Ed ?_ (by size_fits)))) (by size_fits));simp only [raiseNew];refine Aa (wpAny_handled ?_);rw[show A.in1.handled=Zb from i];exact Aa (Ar (wpAny_throw (q _ _ (((Dv ..).extBut.push _).push _) ⟨_,Aq _ rfl,rfl⟩)))
theorem z1h {z TI TO i d H F:Zh}{x y a b:Ze}{Q:Ze->Zf->Prop} (D:ZipApart z TI TO i d H F) (l:IsZip s.heap z TI TO .none) (gi:IsPair s.heap TI (.ref i) (.ref d)) (go:IsPair s.heap TO a b)
  (Y:Src s.heap i H k1 xs) (c2:Src s.heap d F k2 ys) (ex:xs[k1]?=Za x) (ey:ys[k2]?=Za y)
  (q:∀h',IsZip h' z TI TO (rawInt s.heap.objs.size)->IsPair h' TO x y->Src h' i H (k1+1) xs->Src h' d F (k2+1) ys->IsPair h' s.heap.objs.size x y ->
   (∀c o,c≠z->c≠TO->c≠i->c≠d->s.heap.get? c=Za o->h'.get? c=Za o)->Q (.ref s.heap.objs.size) { s with heap:=h' }) :
  wpAny (model prog w) A (Builtin.«zip.__next__» ⟨[.ref z],[]⟩) (λfin s'=>∃v,fin=.done (.ret v)/\Q v s') E s:=by
 refine (show wpAny _ _ (field (.ref z) 2>>=_) _ _ _ from Aa (Cv l rfl (x:=.bool Zc) rfl ?_));refine (show wpAny _ _ (field (.ref z) 3>>=_) _ _ _ from Aa (Cv l rfl (x:=.ref TI) rfl (Aa (Eo gi rfl ?_))));refine (show wpAny _ _ (Builtin.SmallTypes.ownedTupleIsFree (.ref z)>>=_) _ _ _ from Aa ?_);unfold Builtin.SmallTypes.ownedTupleIsFree;refine Aa (Cv l rfl (x:=.none) rfl (Ar ?_));simp only [Fe];refine Aa (Ei (Aa (Cv l rfl (x:=.ref TO) rfl (Aa (Ex l (by simp) λU z1 W=>?_)))));have L:IsZip U z TI TO .ellipsis:=z1;refine Aa ?_;simp only [List.zipIdx_cons,List.zipIdx_nil,Gn,Fb];have h : ∀c o,c≠z->s.heap.get? c=Za o->U.get? c=Za o:=λc o n e=>W.extBut _ _ n e;refine Aa (Aa (wpAny_onRaise (show wpAny _ _ (Builtin.SmallTypes.nextOf (.ref i)>>=_) _ _ _ from Aa (zfy (Y.at (λo=>h _ o D.i1z) λo=>h _ o D.l1z) ex D.l1i1 λg2 d2 M=>Ar ?_))));have k : ∀c o,c≠z->c≠i->s.heap.get? c=Za o->g2.get? c=Za o:=λc o n m e=>M.extBut _ _ m (h c o n e);refine Aa (Eo (k _ _ D.TOz D.TOi1 go) rfl (Aa (wpAny_updateSeq_pair (k _ _ D.TOz D.TOi1 go) λS t3 B=>Aa (wpAny_letGo (Ar ?_)))));have J:IsPair S TO x b:=t3;have f : ∀c o,c≠z->c≠i->c≠TO->s.heap.get? c=Za o->S.get? c=Za o:=λc o n m r e=>B.extBut _ _ r (k c o n m e);refine Aa (Aa (wpAny_onRaise (show wpAny _ _ (Builtin.SmallTypes.nextOf (.ref d)>>=_) _ _ _ from Aa (zfy (c2.at (λo=>f _ o D.i2z D.i12.symm D.TOi2.symm) λo=>f _ o D.l2z D.l2i1 D.l2TO) ey D.l2i2 λZ d4 j=>Ar ?_))));have X:IsPair Z TO x b:=j.extBut _ _ D.TOi2 J;refine Aa (Eo X rfl (Aa (wpAny_updateSeq_pair X λg t5 u=>Aa (wpAny_letGo (Ar (Ar ?_))))));have C:IsPair g TO x y:=t5;refine Aa (Eo C rfl (Aa (wpAny_newTuple ?_)));have O:g.objs.size=s.heap.objs.size:=by rw[u.1,j.1,B.1,M.1,W.1]
 have T:IsZip g z TI TO .ellipsis:=u.extBut _ _ D.TOz.symm (j.extBut _ _ D.i2z.symm (B.extBut _ _ D.TOz.symm (M.extBut _ _ D.i1z.symm L)));have k5:∀c o,c≠z->c≠TO->c≠i->c≠d->s.heap.get? c=Za o->g.get? c=Za o:=λc o n r m p e=>u.extBut _ _ r (j.extBut _ _ p (f c o n m r e));have I:Src g i H (k1+1) xs:=d2.at (λo e=>u.extBut _ _ D.TOi1.symm (j.extBut _ _ D.i12 (B.extBut _ _ D.TOi1.symm e))) λo e=>u.extBut _ _ D.l1TO (j.extBut _ _ D.l1i2 (B.extBut _ _ D.l1TO e));have K:Src g d F (k2+1) ys:=d4.at (λo e=>u.extBut _ _ D.TOi2.symm e) λo e=>u.extBut _ _ D.l2TO e;refine (show wpAny _ _ (Builtin.SmallTypes.ownedTupleHandOut (.ref z) (.ref g.objs.size)>>=_) _ _ _ from Aa ?_);unfold Builtin.SmallTypes.ownedTupleHandOut;have z6:IsZip (g.push { cls:=.type "tuple",data:=.seq #[x,y] }) z TI TO .ellipsis:=Ab _ T;refine Aa (Ex z6 (by simp) λg7 z7 V=>Ex (show IsZip g7 z TI TO (rawInt g.objs.size) from z7) (by simp) λG z8 N=>Ar ⟨_,rfl,?_⟩);have up:∀c o,c≠z->g.get? c=Za o->G.get? c=Za o:=λc o n e=>N.extBut _ _ n (V.extBut _ _ n (Ab _ e));have P:g.objs.size≠z:=Nat.ne_of_gt (Ao T);have R:IsPair G g.objs.size x y:=N.extBut _ _ P (V.extBut _ _ P (Aq _ rfl));have t:IsZip G z TI TO (rawInt g.objs.size):=z8;rw[O] at R t;show Q (.ref g.objs.size) _;rw[O];exact q G t (up _ _ D.TOz C) (I.at (λo=>up _ o D.i1z) λo=>up _ o D.l1z) (K.at (λo=>up _ o D.i2z) λo=>up _ o D.l2z) R λc o n r m p e=>up c o n (k5 c o n r m p e)
theorem z75 {z TI TO i j y J:Zh} (M:A.handled=Zb) (D:ZipApart z TI TO i j y J) (h:IsZip s.heap z TI TO .none) (W:IsPair s.heap TI (.ref i) (.ref j)) (go:IsPair s.heap TO a b)
  (P:Src s.heap i y k1 xs) (T:Src s.heap j J k2 ys) (X:xs[k1]?=Zb\/ys[k2]?=Zb)
  (q:∀h' e,(∀c o,c≠z->c≠TO->c≠i->c≠j->s.heap.get? c=Za o->h'.get? c=Za o)->(∃o,h'.get? e=Za o/\o.cls=.type "StopIteration")->E (.ref e) { s with heap:=h' }) :
  wpAny (model prog w) A (Builtin.«zip.__next__» ⟨[.ref z],[]⟩) Q E s:=by
 refine (show wpAny _ _ (field (.ref z) 2>>=_) _ _ _ from Aa (Cv h rfl (x:=.bool Zc) rfl ?_));refine (show wpAny _ _ (field (.ref z) 3>>=_) _ _ _ from Aa (Cv h rfl (x:=.ref TI) rfl (Aa (Eo W rfl ?_))));refine (show wpAny _ _ (Builtin.SmallTypes.ownedTupleIsFree (.ref z)>>=_) _ _ _ from Aa ?_);unfold Builtin.SmallTypes.ownedTupleIsFree;refine Aa (Cv h rfl (x:=.none) rfl (Ar ?_));simp only [Fe];refine Aa (Ei (Aa (Cv h rfl (x:=.ref TO) rfl (Aa (Ex h (by simp) λG U Y=>?_)))));have t:IsZip G z TI TO .ellipsis:=U;refine Aa ?_;simp only [List.zipIdx_cons,List.zipIdx_nil,Gn,Fb];have k : ∀c o,c≠z->s.heap.get? c=Za o->G.get? c=Za o:=λc o n e=>Y.extBut _ _ n e;refine Aa (Aa (wpAny_onRaise (show wpAny _ _ (Builtin.SmallTypes.nextOf (.ref i)>>=_) _ _ _ from Aa ?_)));have I:Src G i y k1 xs:=P.at (λo=>k _ o D.i1z) λo=>k _ o D.l1z;cases hx:xs[k1]? with
 | none =>
  refine zi5 M I hx λB e v H=>?_;obtain⟨F,g,l⟩:=H;have K:IsZip B z TI TO .ellipsis:=v _ _ D.i1z.symm t;have ne:e≠z:=λr=>by subst r;rw[K] at g;obtain rfl:=sI g;simp at l
  exact Ex K (by simp) λC _ u=>q C e (λc o n _ m _ x=>u.extBut _ _ n (v _ _ m (k c o n x))) ⟨F,u.extBut _ _ ne g,l⟩
 | some x =>
  have V:ys[k2]?=Zb:=X.resolve_left (by rw[hx];simp);refine zfy I hx D.l1i1 λB Z v=>Ar ?_;have d : ∀c o,c≠z->c≠i->s.heap.get? c=Za o->B.get? c=Za o:=λc o n m e=>v.extBut _ _ m (k c o n e);refine Aa (Eo (d _ _ D.TOz D.TOi1 go) rfl (Aa (wpAny_updateSeq_pair (d _ _ D.TOz D.TOi1 go) λC t3 u=>Aa (wpAny_letGo (Ar ?_)))));have f : ∀c o,c≠z->c≠i->c≠TO->s.heap.get? c=Za o->C.get? c=Za o:=λc o n m r e=>u.extBut _ _ r (d c o n m e);refine Aa (Aa (wpAny_onRaise (show wpAny _ _ (Builtin.SmallTypes.nextOf (.ref j)>>=_) _ _ _ from Aa (zi5 M (T.at (λo=>f _ o D.i2z D.i12.symm D.TOi2.symm) λo=>f _ o D.l2z D.l2i1 D.l2TO) V λR e N H=>?_))));obtain⟨F,g,l⟩:=H;have O:IsZip R z TI TO .ellipsis:=N _ _ D.i2z.symm (u.extBut _ _ D.TOz.symm (v.extBut _ _ D.i1z.symm t));have ne:e≠z:=λr=>by subst r;rw[O] at g;obtain rfl:=sI g;simp at l
  exact Ex O (by simp) λS _ L=>q S e (λc o n r m p x=>L.extBut _ _ n (N _ _ p (f c o n m r x))) ⟨F,L.extBut _ _ ne g,l⟩
theorem z20 {z TI TO d i e l:Zh} (D:ZipApart z TI TO d i e l) (g:IsZip s.heap z TI TO .none) (u:IsPair s.heap TI (.ref d) (.ref i)) (go:IsPair s.heap TO a b)
  (f:Src s.heap d e k1 xs) (k:Src s.heap i l k2 ys) (m:xs[k1]?=Za x) (n:ys[k2]?=Za y)
  (q:∀h',IsZip h' z TI TO (rawInt s.heap.objs.size)->IsPair h' TO x y->Src h' d e (k1+1) xs->Src h' i l (k2+1) ys->IsPair h' s.heap.objs.size x y ->
   (∀c o,c≠z->c≠TO->c≠d->c≠i->s.heap.get? c=Za o->h'.get? c=Za o)->Q (Za (.ref s.heap.objs.size)) { s with heap:=h' }):wpAny (model prog w) A (pyNext (.ref z)) Q E s:=by
 have t:s.TypeIs (.ref z) "zip" := ⟨_,g,rfl⟩;unfold pyNext;exact Aa (Hk (De (name:=Str.ofString "__next__") t F.slot_zip_next (Er F.slot_zip_next t F.entry_zip_next (z1h D g u go f k m n λh' r h p j v B=>Ar (q h' r h p j v B)) (F.args_zip_next_1 _))))
theorem z5j {z TI TO d i h l:Zh} (v:A.handled=Zb) (D:ZipApart z TI TO d i h l) (f:IsZip s.heap z TI TO .none) (n:IsPair s.heap TI (.ref d) (.ref i)) (go:IsPair s.heap TO a b)
  (j:Src s.heap d h k1 xs) (r:Src s.heap i l k2 ys) (u:xs[k1]?=Zb\/ys[k2]?=Zb)
  (q:∀h',(∀c o,c≠z->c≠TO->c≠d->c≠i->s.heap.get? c=Za o->h'.get? c=Za o)->Q Zb { s with heap:=h' }):wpAny (model prog w) A (pyNext (.ref z)) Q E s:=by
 have t:s.TypeIs (.ref z) "zip" := ⟨_,f,rfl⟩;unfold pyNext;refine Aa (Hk (De (name:=Str.ofString "__next__") t F.slot_zip_next (Er F.slot_zip_next t F.entry_zip_next (z75 v D f n go j r u λh' e k m=>?_) (F.args_zip_next_1 _))));obtain⟨o,g,p⟩:=m;exact Aa (wpAny_isInstance (T := "StopIteration") (b:=Zd) ⟨o,g,p⟩ isSubtype_stop (Ar (q _ k)))
end
noncomputable def SrcO (h:Heap) (b:Bool) (l:Zh) (xs:Array Ze):Prop:=match b with
 |true=>h.IsList l xs
 |false=>h.IsTuple l xs
noncomputable def itO (b:Bool) (l:Zh):Obj:={ cls:=.type (if b then "list_iterator" else "tuple_iterator"),data:=.fields #[.ref l,.int 0 0] }
theorem SrcO.push (c:SrcO h b l xs) (o:Obj):SrcO (h.push o) b l xs:=by
 cases b with
 |true=>exact Heap.IsList.push c o
 | false =>
  obtain⟨q,e,r⟩:=c;exact⟨q,Ab _ e,r⟩
section
theorem zlt (c:SrcO s.heap b l xs)(q:Q (.ref s.heap.objs.size) { s with heap:=s.heap.push (itO b l) }):wpAny (model prog w) A (pyIter (.ref l)) Q E s:=by
 cases b with
 |true=>exact Ec c q
 |false=>exact Hg c q
end
noncomputable abbrev zA (h:Heap) (b:Bool) (l:Zh):Heap:=h.push (itO b l)
noncomputable abbrev zB (h:Heap) (b c:Bool) (l m:Zh):Heap:=(zA h b l).push (itO c m)
noncomputable abbrev zC (h:Heap) (b c:Bool) (l m:Zh):Heap:=(zB h b c l m).push { cls:=.type "tuple",data:=.seq #[.ref h.objs.size,.ref (zA h b l).objs.size] }
noncomputable abbrev zD (h:Heap) (b c:Bool) (l m:Zh):Heap:=(zC h b c l m).push { cls:=.type "tuple",data:=.seq #[.none,.none] }
noncomputable abbrev zE (h:Heap) (b c:Bool) (l m:Zh):Heap:=(zD h b c l m).push { cls:=.type "zip",data:=.fields #[.none,.bool Zc,.bool Zc,.ref (zB h b c l m).objs.size,.ref (zC h b c l m).objs.size] }
theorem zqs (b c:Bool)(l m:Zh)(xs ys:Array Ze):Meets (Builtin.«zip.__new__» ⟨[.type "zip",.ref l,.ref m],[]⟩) (λ_ R s=>SrcO s.heap b l xs/\SrcO s.heap c m ys/\R (.ok (.ret (.ref (zD s.heap b c l m).objs.size))) { s with heap:=zE s.heap b c l m }) :=
 .of_wp λprog w A R s h=>by
  obtain⟨a,g,d,t,o⟩:=s;obtain⟨i,x,h⟩:=h;have e:=sub_zip;have y:SrcO (Zf.heap ⟨a,g,d,t,o⟩) b l xs:=i;have f:SrcO (Zf.heap ⟨a.push (itO b l),g,d,t,o⟩) c m ys:=SrcO.push x _
  wp_walk using zlt y,zlt f
  exact⟨_,rfl,h⟩
section
theorem zx6 (q:SrcO s.heap b l xs) (p:SrcO s.heap c m ys)
  (h:∀h',IsZip h' (s.heap.objs.size+4) (s.heap.objs.size+2) (s.heap.objs.size+3) .none->IsPair h' (s.heap.objs.size+2) (.ref s.heap.objs.size) (.ref #v[5,10])->IsPair h' (s.heap.objs.size+3) .none .none ->
   h'.get? s.heap.objs.size=Za (itO b l)->h'.get? #v[5,10]=Za (itO c m)->(∀c o,s.heap.get? c=Za o->h'.get? c=Za o)->Q (.ref (s.heap.objs.size+4)) { s with heap:=h' }) :
  wpAny (model prog w) A (call (.type "zip") [.ref l,.ref m]) Q E s:=by
 refine callType_new F.called_zip (by decide) (F.typeCall_zip_2 _ _) (F.newCall_zip_2 _ _) (λobj=>F.args_object_init_3 obj _ _) F.entry_zip_new (zqs b c l m xs ys) ⟨q,p,?_⟩;have a:(zA s.heap b l).objs.size=s.heap.objs.size+1:=Dh ..;have d:(zB s.heap b c l m).objs.size=s.heap.objs.size+2:=by rw[Dh,a]
 have n:(zC s.heap b c l m).objs.size=s.heap.objs.size+3:=by rw[Dh,d]
 have f:(zD s.heap b c l m).objs.size=s.heap.objs.size+4:=by rw[Dh,n]
 have up:∀r o,s.heap.get? r=Za o->(zE s.heap b c l m).get? r=Za o:=λr o x=>Ab _ (Ab _ (Ab _ (Ab _ (Ab _ x))));have e:(zE s.heap b c l m).get? (zD s.heap b c l m).objs.size=Za _:=Aq _ rfl;have g:(zE s.heap b c l m).get? (zC s.heap b c l m).objs.size=Za _:=Ab _ (Aq _ rfl);have j:(zE s.heap b c l m).get? (zB s.heap b c l m).objs.size=Za _:=Ab _ (Ab _ (Aq _ rfl));have i:(zE s.heap b c l m).get? (zA s.heap b l).objs.size=Za (itO c m):=Ab _ (Ab _ (Ab _ (Aq _ rfl)));have k:(zE s.heap b c l m).get? s.heap.objs.size=Za (itO b l):=Ab _ (Ab _ (Ab _ (Ab _ (Aq _ rfl))));show _/\_;rw[d,n,f] at e;rw[a,d] at j;rw[n] at g;rw[a] at i;rw[f];exact⟨⟨_,e,rfl⟩,h _ e j g k i up⟩
end
noncomputable def SqK (K:Zg) (k:Bool) (H:Hp) (a:Zh) (xs:List V):Prop:=match k with
 |true=>SqL K H a xs
 |false=>SqT K H a xs
noncomputable def ItI (h:Heap) (k:Bool) (it l:Zh) (i:Nat):Prop:=match k with
 |true=>h.IsListIter it l i
 |false=>h.IsTupleIter it l i
theorem SqK.mono {K:Zg}(s:Same F H)(h:SqK K k F a xs):SqK K k H a xs:=by
 cases k with
 |true=>exact s.seq h
 |false=>exact zb5 s h
theorem Inv.sqK (I:Inv X pins σ H s)(h:SqK X.K k H a xs):∃i:List Ze,Vals xs i/\SrcO s.heap k a i.toArray:=by
 cases k with
 |true=>obtain⟨i,r,p,_⟩:=I.list h;exact⟨i,r,p.isList⟩
 |false=>obtain⟨i,r,p,_⟩:=I.tuple h;exact⟨i,r,p⟩
theorem Inv.sqK_inj (I:Inv X pins σ H s)(h:SqK X.K k H a xs)(h':SqK X.K k H a ys):xs=ys:=by
 cases k with
 |true=>exact I.list_inj h h'
 |false=>exact I.tuple_inj h h'
theorem ItI.src (a:ItI h k it l i)(b:SrcO h k l xs):Src h it l i xs:=by
 cases k with
 |true=>exact .inl ⟨a,b⟩
 |false=>exact .inr ⟨a,b⟩
theorem Src.itI (c:Src h it l i xs) (b:SrcO h k l xs):ItI h k it l i:=by
 cases k with
 | true =>
  rcases c with⟨c,_⟩|⟨_,⟨o,e,q,_⟩⟩
  ·exact c
  ·obtain ⟨f, a, d, _⟩:=b
   rw[e] at a;obtain rfl:=sI a;rw[q] at d;simp at d
 | false =>
  rcases c with⟨_,⟨o,e,q,_⟩⟩|⟨c,_⟩
  ·obtain ⟨f, a, d, _⟩:=b
   rw[e] at a;obtain rfl:=sI a;rw[q] at d;simp at d
  ·exact c
theorem ItI.at (a:ItI h k it l i)(q:∀o,h.get? it=Za o->h'.get? it=Za o):ItI h' k it l i:=by
 cases k with
 |true=>exact Heap.IsListIter.at a q
 |false=>exact Heap.IsTupleIter.at a q
theorem ItI.obj (a:ItI h k it l i):∃o,h.get? it=Za o/\∀v,o.data≠.cell v:=by
 cases k with
 |true=>obtain⟨o,e,_,d⟩:=a;exact⟨o,e,λv z=>by rw[d] at z;cases z⟩
 |false=>obtain⟨o,e,_,d⟩:=a;exact⟨o,e,λv z=>by rw[d] at z;cases z⟩
noncomputable def Itz (K:Zg) (k e:Bool) (a b:Zh):It :=
 ⟨λi H=>∃d c x y,SqK K k H a d/\SqK K e H b c/\d[i]?=Za x/\c[i]?=Za y,
  λi H x f=>∃p v u,x=.ref p/\H p=Zb/\f=upd H p (.tup [v,u])/\(∀d,SqK K k H a d->d[i]?=Za v)/\(∀c,SqK K e H b c->c[i]?=Za u),
  λi H=>∃d c,SqK K k H a d/\SqK K e H b c/\(d.length<=i\/c.length<=i)⟩
noncomputable def zSt (k e:Bool) (z TI TO d c a b:Zh) (i:Nat) (h:Heap):Prop:=IsZip h z TI TO .none/\IsPair h TI (.ref d) (.ref c)/\(∃u v,IsPair h TO u v)/\ItI h k d a i/\ItI h e c b i
theorem zv2 {K:Zg}{x1}(S T:Bool)(z TI TO B m a b:Zh)(D:ZipApart z TI TO B m a b):Turn P w K (.Tuple es x1 px) (Itz K S T a b) [z,TI,TO,B,m] z (zSt S T z TI TO B m a b) where
 mem:=by simp
 obj:=λi h n c R=>by
  nofun;obtain⟨l,p,⟨u,v,go⟩,t,A⟩:=n;ac_rfl;simp only [Ak,Ax,Cc,Fm] at R;rcases R with rfl|rfl|rfl|rfl|rfl
  ·exact⟨_,l,λv q=>by cases q⟩
  ·exact⟨_,p,λv q=>by cases q⟩
  ·exact⟨_,go,λv q=>by cases q⟩
  ·exact t.obj
  ·exact A.obj
 keep:=λi h V n k=>by
  nofun;obtain⟨l,p,⟨u,v,go⟩,t,A⟩:=n;ac_rfl;exact⟨k z (by simp) _ l,k TI (by simp) _ p,⟨u,v,k TO (by simp) _ go⟩,t.at λo e=>k B (by simp) o e,A.at λo e=>k m (by simp) o e⟩
 item:=by
  intro X hP hw hK R i pins s σ H E I W n Z;subst hP hw hK;nofun;obtain⟨xs,ys,x,y,U,Y,e1,e2⟩:=Z;obtain⟨l,p,⟨u0,v0,go⟩,t,A⟩:=n;obtain⟨J,r1,g⟩:=I.sqK U;obtain⟨its',r2,f⟩:=I.sqK Y;obtain⟨u,hu,ru⟩:=r1.get e1;obtain⟨v,hv,rv⟩:=r2.get e2;ac_rfl;refine z20 D l p go (t.src g) (A.src f) (x:=u) (y:=v) (by simpa using hu) (by simpa using hv) λV g1 g2 g3 g4 g5 C=>⟨_,rfl,?_⟩;refine wpAny_letOwnedTupleGo_zip g1 λj k1 F=>?_;have lt:∀c o,s.heap.get? c=Za o->c≠s.heap.objs.size:=λc o e=>Bc (Ao e);have kk:∀c o,c ∉ [z,TI,TO,B,m]->s.heap.get? c=Za o->j.get? c=Za o:=λc o d e=>by
   simp only [Ak,Ax,Cc,Fm,not_or] at d;exact (F.2 c d.1).trans (C c o d.1 d.2.2.1 d.2.2.2.1 d.2.2.2.2 e)
  obtain⟨o1,eo1⟩:=(t.src g).src;obtain⟨o2,eo2⟩:=(A.src f).src;have N:SrcO V S a J.toArray:=by
   cases S with
   |true=>exact g.at λo e=>C a o D.l1z D.l1TO D.l1i1 D.l1i2 e
   |false=>obtain⟨o,e,r⟩:=g;exact⟨o,C a o D.l1z D.l1TO D.l1i1 D.l1i2 e,r⟩
  have G:SrcO V T b its'.toArray:=by
   cases T with
   |true=>exact f.at λo e=>C b o D.l2z D.l2TO D.l2i1 D.l2i2 e
   |false=>obtain⟨o,e,r⟩:=f;exact⟨o,C b o D.l2z D.l2TO D.l2i1 D.l2i2 e,r⟩
  have M:ItI j S B a (i+1):=(g3.itI N).at λo e=>(F.2 B D.i1z).trans e;have L:ItI j T m b (i+1):=(g4.itI G).at λo e=>(F.2 m D.i2z).trans e;have O:IsPair j TI (.ref B) (.ref m):=(F.2 TI D.TIz).trans (C TI _ D.TIz D.TITO D.TIi1 D.TIi2 p);have Q:IsPair j TO u v:=(F.2 TO D.TOz).trans g2;have Tz:s.heap.objs.size≠z:=(lt z _ l).symm;refine⟨.ref s.heap.objs.size,upd H s.heap.objs.size (.tup [x,y]),I.turnLay kk (λc d=>?_) W (Ae _) ⟨by show 2<=sizeLine;decide,[u,v],.cons ru (.cons rv .nil),?_⟩,rfl,⟨_,x,y,rfl,I.hok.fresh (Ae _),rfl,λzs hz=>by rw[I.sqK_inj hz U];exact e1,λzs hz=>by rw[I.sqK_inj hz Y];exact e2⟩,⟨k1,O,⟨u,v,Q⟩,M,L⟩,λc d=>?_⟩
  ·simp only [Ak,Ax,Cc,Fm] at d;rcases d with rfl|rfl|rfl|rfl|rfl
   ·exact⟨_,k1⟩
   ·exact⟨_,O⟩
   ·exact⟨_,Q⟩
   ·obtain⟨o,e,_⟩:=M.obj;exact⟨o,e⟩
   ·obtain⟨o,e,_⟩:=L.obj;exact⟨o,e⟩
  ·exact⟨_,(F.2 _ Tz).trans g5,⟨rfl,_,rfl⟩,rfl⟩
  ·have ne:c≠s.heap.objs.size:=by
    simp only [Ak,Ax,Cc,Fm] at d;rcases d with rfl|rfl|rfl|rfl|rfl
    ·exact lt _ _ l
    ·exact lt _ _ p
    ·exact lt _ _ go
    ·obtain⟨o,e,_⟩:=t.obj;exact lt _ _ e
    ·obtain⟨o,e,_⟩:=A.obj;exact lt _ _ e
   rw[upd_ne ne];exact (W c d).1
 done:=by
  intro X hP hw hK R i pins s σ H E I W n Z;subst hP hw hK;nofun;obtain⟨xs,ys,U,Y,he⟩:=Z;obtain⟨l,p,⟨u0,v0,go⟩,t,A⟩:=n;obtain⟨J,r1,g⟩:=I.sqK U;obtain⟨its',r2,f⟩:=I.sqK Y;ac_rfl;have l1:=r1.length;have l2:=r2.length;refine z5j (I.ok.hd R) D l p go (t.src g) (A.src f) ?_ λV k=>⟨rfl,I.turnL (t':=s.toks) (ch:=[z,TI,TO,B,m]) (λc o d e=>?_) W⟩
  ·rcases he with he|he
   ·exact .inl (Em (by simp;symm))
   ·exact .inr (Em (by simp;symm))
  ·simp only [Ak,Ax,Cc,Fm,not_or] at d;exact k c o d.1 d.2.2.1 d.2.2.2.1 d.2.2.2.2 e
 self:=λ_ _ _ _ _ n h=>wpAny_pyIter_zip n.1 h
theorem zwf:bootBuiltins "zip" = Za (.type "zip"):=by decide +kernel
section
noncomputable def iZip (K:Zg) (t:TA):TI:=λσ H R=>t σ H λv c=>∃a b k d x y,v=[.ref a,.ref b]/\SqK K k c a x/\SqK K d c b y/\R (Itz K k d a b) c
theorem z64 {L} (G:Gl X "zip") (F:X.mg "zip" = Zb) (U:PA X [l,m] tl) (O:starEach [l,m] X.env=[(Zc,eval l X.env),(Zc,eval m X.env)]) (j:starEach [m] X.env=[(Zc,eval m X.env)]) :
  PI X (.Tuple es L px) (.Call (.Name "zip" p) [l,m] [] pos) (iZip X.K tl):=by
 intro pins s σ H R I h;refine Call_ (zdq I G F zwf (Ck (thn (U pos pins s σ H _ I h) λus d ⟨vs,E,i,Y,S⟩=>?_) (by rw[O,j]) (by rw[j];rfl)));nofun;obtain⟨a,b,u,v,xs,ys,e,W,N,q⟩:=S;ac_rfl;subst e;cases Y with
 | cons r w =>
  cases w with
  | cons Z w =>
   cases w;cases r;cases Z;refine aG λ_ qG=>?_;obtain ⟨C,B,g⟩:=i.sqK W;obtain ⟨its',M,f⟩:=i.sqK N;refine qG ?_;clear qG;refine zx6 g f λx y Q T J K up=>wpAny_pyIter_zip y ?_;have n:a<d.heap.objs.size:=by
    cases u with
    |true=>obtain⟨o,e,_⟩:=g;exact Ao e
    |false=>obtain⟨o,e,_⟩:=g;exact Ao e
   have t:b<d.heap.objs.size:=by
    cases v with
    |true=>obtain⟨o,e,_⟩:=f;exact Ao e
    |false=>obtain⟨o,e,_⟩:=f;exact Ao e
   have D:ZipApart (d.heap.objs.size+4) (d.heap.objs.size+2) (d.heap.objs.size+3) d.heap.objs.size (d.heap.objs.size+1) a b:=by
    have up:∀{c:Zh} (k:Nat),c<d.heap.objs.size->c≠d.heap.objs.size+k:=λk h=>Bc (At h (Dr _ k));refine⟨?_,?_,?_,?_,?_,?_,?_,?_,?_,?_,up 4 n,up 3 n,up 0 n,up 1 n,up 4 t,up 3 t,up 0 t,up 1 t⟩<;>(intro z;have z':(_:Nat)=_:=z;symm)
   have P:ItI x u d.heap.objs.size a 0:=by cases u<;>exact⟨_,J,rfl,rfl⟩
   have V:ItI x v (d.heap.objs.size+1) b 0:=by cases v<;>exact⟨_,K,rfl,rfl⟩
   refine ⟨_,_,_,_,E,rfl,i.kept (t':=d.toks) up,zv2 u v _ _ _ _ _ a b D,⟨y,Q,⟨_,_,T⟩,P,V⟩,λc A=>?_,q⟩;have le:d.heap.objs.size<=c:=by
    simp only [Ak,Ax,Cc,Fm] at A;rcases A with rfl|rfl|rfl|rfl|rfl
    ·exact Dr _ _
    ·exact Dr _ _
    ·exact Dr _ _
    ·exact Ae _
    ·exact Dr _ _
   exact i.fpOk le (i.hok.fresh le)
end
noncomputable def zipW:List W->List W->List W
 |x::b,y::a=>.tup [x,y]::zipW b a
 |_,_=>[]
theorem zek:∀(xs ys:List W),(zipW xs ys).length=min xs.length ys.length
 |[],_=>by simp [zipW]
 |_::_,[]=>by simp [zipW]
 |_::xs,_::ys=>by simp only [zipW,Bd,zek xs ys];symm
theorem zie:∀{xs ys:List W}{i:Nat}{x y:W},xs[i]?=Za x->ys[i]?=Za y->(zipW xs ys)[i]?=Za (.tup [x,y])
 |[],_,_,_,_,e,_=>by simp at e
 |_::_,[],_,_,_,_,e=>by simp at e
 |_::xs,_::ys,0,_,_,e,a=>by simp at e a;subst e a;rfl
 | _::xs,_::ys,i+1,x,y,e,a=>by
  show (zipW xs ys)[i]?=_;exact zie (by simpa using e) (by simpa using a)
noncomputable def gZip (g g':GE):GL:=λe=>(g e).bind λp=>(g' p.1).bind λq=>(seqW p.2.1).bind λw=>(seqW q.2.1).bind λu=>Za (q.1,zipW w u)
section
variable {K:Zg}
theorem zdu (y:Rep K F w v) (h:seqW w=Za ws):∃a k vs,v=.ref a/\SqK K k F a vs/\Reps K F ws vs:=by
 cases w with
 | lst x=>obtain rfl:=sI h;cases y with
  |lst y r=>exact⟨_,Zd,_,rfl,SqL.of' y,r⟩
 | frl x=>obtain rfl:=sI h;cases y with
  |frl y r=>exact⟨_,Zd,_,rfl,y,r⟩
 | tup x=>obtain rfl:=sI h;cases y with
  |tup y r=>exact⟨_,Zc,_,rfl,.inl (.inl y),r⟩
 |_=>exact noSome h
theorem z54 (h:SqK K ka F a vs)(h':SqK K kb F b us)(r:Reps K F ws vs)(c:Reps K F zs us):ItOk K F (Itz K ka kb a b) (zipW ws zs) where
 go:=λi H s d=>by
  rw[zek] at d;have t:i<vs.length:=by rw[<-r.length];symm
  have l:i<us.length:=by rw[<-c.length];symm
  exact⟨vs,us,vs[i],us[i],h.mono s,h'.mono s,Ac t,Ac l⟩
 stop:=λH s=>⟨vs,us,h.mono s,h'.mono s,by rw[zek,r.length,c.length];symm⟩
 yld:=λi H x z s d y=>by
  nofun;obtain⟨p,v,u,e,j,n,g,m⟩:=y;ac_rfl;subst e n;nofun;obtain⟨w,k,f⟩:=r.getV (g vs (h.mono s));obtain⟨A,o,q⟩:=c.getV (m us (h'.mono s));ac_rfl;exact⟨_,zie k o,.tup j (.cons f (.cons q .nil))⟩
theorem zxl (h:tI K (gZip g g') σ H R):iZip K (zaw (tE K g) (zaw (tE K g') tNil)) σ H R:=by
 nofun;obtain⟨F,p,o,J,V,Re,h,q⟩:=h;obtain⟨⟨f,Q⟩,l,h⟩:=bS h;obtain⟨⟨A,x⟩,I,h⟩:=bS h;obtain⟨Z,w,h⟩:=bS h;obtain⟨W,e,h⟩:=bS h;ac_rfl;cases h;refine⟨F,p,o,f,Q,Re,l,λY T v N O z=>?_⟩;nofun;obtain⟨C,n,R2,y⟩:=z.freeze O;ac_rfl;refine⟨C,p,f,A,x,R2,I,λX t U k E u=>?_⟩;nofun;obtain⟨L,s,d,m⟩:=u.freeze E;obtain⟨a,D,S,M,i,B⟩:=zdu (y.mono (k.trans s)) w;obtain⟨b,G,c,P,j,r⟩:=zdu m e;ac_rfl;subst M P;exact⟨a,b,D,G,S,c,rfl,i.mono d.sub,j.mono d.sub,q L t _ (N.trans (n.trans (k.trans s))) d (z54 i j B r)⟩
end
open AutoSeq1 (wpAny_loadPart')
section
variable {prog:Program}{w:World}{A:Around}{E:Ze->Zf->Prop}{s:Zf}
theorem zri {it l:Zh}{xs:Array Ze}(ne:l≠it)(u:A.handled=Zb):Draws prog w A.in1 it [it,l] xs.size (λi x=>xs[i]?=Za x) (λk h=>h.IsTupleIter it l k/\h.IsTuple l xs) where
 live:=λi h a=>let ⟨⟨o,e,_⟩,_⟩:=a;⟨o,e⟩
 frame:=λi h j a k=>⟨a.1.at λo e=>k it (by simp) o e,let ⟨o,e,r⟩:=a.2;⟨o,k l (by simp) o e,r⟩⟩
 item:=λi s Q E m a q=>zfy (k:=i) (xs:=xs) (x:=xs[i]) (.inr a) (Array.getElem?_eq_getElem m) ne λj c d=>by
  rcases c with⟨⟨o,e,z,_⟩,b⟩|c
  ·obtain ⟨y, B, t, _⟩:=a.1;have:=a.2;exact absurd b (λb=>by
   obtain⟨C,f,g,_⟩:=b;obtain⟨D,n,p,_⟩:=a.2;rw[(d.2 l ne).trans n] at f;obtain rfl:=sI f;rw[p] at g;exact absurd (Ze.type.inj g) (by decide))
  ·exact q xs[i] j s.toks (Array.getElem?_eq_getElem m) c d
 done:=λs Q E a q=>zi5 (k:=xs.size) (xs:=xs) (show A.in1.handled=Zb from u) (.inr a) (Em (Ae _)) q
theorem zl1 (l:Zh) (items:Array Ze) (n:Nat) (dct:Option Zh) (i:Array (Option Ze)) :
  Meets (Builtin.«enumerate.__new__» ⟨[.type "enumerate",.ref l],[]⟩) (λ_ R s=>s.heap.get? l=Za { cls:=.type "tuple",dict:=dct,data:=.seq items n,slots:=i } /\
   R (.ok (.ret (.ref (s.heap.push { cls:=.type "tuple_iterator",data:=.fields #[.ref l,.int 0 0] }).objs.size)))
    { s with heap:=(s.heap.push { cls:=.type "tuple_iterator",data:=.fields #[.ref l,.int 0 0] }).push { cls:=.type "enumerate",data:=.fields #[.none,.bool Zc,.ref s.heap.objs.size,rawInt 0,.none,.none] } }) :=
 .of_wp λprog w A R s h=>by
  obtain⟨f,g,d,t,o⟩:=s;obtain⟨a,h⟩:=h;have b:=sub_enumerate;have e:Heap.IsTuple (Zf.heap ⟨f,g,d,t,o⟩) l items:=⟨_,a,rfl,n,rfl⟩
  wp_walk using Dd a
  refine wpAny_stack_any λj=>Ar ?_;split
  ·rename_i c _ _ _ _ _;cases (c==Ze.type "enumerate")<;>(wp_walk using Dd a,Hg e)<;>exact⟨_,rfl,h⟩
  ·wp_walk using Dd a,Hg e
   exact⟨_,rfl,h⟩
theorem zqj (k:s.heap.IsTuple l items)
  (h:∀h',IsEnum h' #v[5,10] s.heap.objs.size 0 .none->h'.IsTupleIter s.heap.objs.size l 0->(∀b o,s.heap.get? b=Za o->h'.get? b=Za o)->Q (.ref #v[5,10]) { s with heap:=h' }) :
  wpAny (model prog w) A (call (.type "enumerate") [.ref l]) Q E s:=by
 nofun;obtain⟨⟨c,dct,g,i⟩,j,e,n,f⟩:=k;ac_rfl;cases (show c=.type "tuple" from e);cases (show g=.seq items n from f);refine callType_new F.called_enumerate (by decide) (F.typeCall_enumerate_1 _) (F.newCall_enumerate_1 _) (λobj=>F.args_object_init_2 obj _) F.entry_enumerate_new (zl1 l items n dct i) ⟨j,?_⟩;have d:(s.heap.push { cls:=.type "tuple_iterator",data:=.fields #[.ref l,.int 0 0] }).objs.size=s.heap.objs.size+1:=Dh ..;show _/\_;rw[d];have a:=Aq (s.heap.push { cls:=.type "tuple_iterator",data:=.fields #[.ref l,.int 0 0] }) (o:={ cls:=.type "enumerate",data:=.fields #[.none,.bool Zc,.ref s.heap.objs.size,rawInt 0,.none,.none] }) rfl;rw[d] at a;exact⟨⟨_,a,rfl⟩,h _ a ⟨_,Ab _ (Aq _ rfl),rfl,rfl⟩ λb o x=>Ab _ (Ab _ x)⟩
end
noncomputable def IteT (K:Zg) (a:Zh):It :=
 ⟨λi H=>∃b x,SqT K H a b/\b[i]?=Za x,λi H x c=>∃p v,x=.ref p/\H p=Zb/\c=upd H p (.tup [.int i,v])/\∀b,SqT K H a b->b[i]?=Za v,λi H=>∃b,SqT K H a b/\b.length<=i⟩
theorem zqh {K:Zg}{x1}(a e it:Zh)(B:e≠it)(Q:e≠a)(Z:a≠it):Turn P w K (.Tuple es x1 px) (IteT K a) [e,it] e (λi h=>(∃g,IsEnum h e it i g)/\h.IsTupleIter it a i) where
 mem:=by simp
 obj:=λi h r b f=>by
  nofun;obtain⟨⟨g,m⟩,o,hi,c,d⟩:=r;ac_rfl;rcases Ak.mp f with rfl|f
  ·exact⟨_,m,λv z=>by cases z⟩
  ·have:b=it:=by simpa using f
   subst this;exact⟨o,hi,λv z=>by rw[d] at z;cases z⟩
 keep:=λi h h' r k=>⟨let ⟨g,m⟩:=r.1;⟨g,k e (by simp) _ m⟩,r.2.at λo z=>k it (by simp) o z⟩
 item:=by
  intro X hP N V Y i pins s σ H E I L r M;subst hP N V;nofun;obtain⟨xs,x,J,hx⟩:=M;obtain⟨j,W,p,hz⟩:=I.tuple J;obtain⟨u,hu,ru⟩:=W.get hx;obtain⟨⟨g,m⟩,t⟩:=r;ac_rfl;have hT:s.heap.IsTuple a j.toArray:=p;have lt:i<j.toArray.size:=by
   rw[Aj];exact (Ag.mp hu).1
  refine wpAny_pyNext_enum_itemD (zri Z (I.ok.hd Y)) m ⟨t,hT⟩ lt B (by simp [B,Q]) λy h' tk S R hst hT' hsz hk=>⟨_,rfl,?_⟩;have eu:y=u:=by
   have:j[i]?=Za y:=by simpa using S
   rw[hu] at this;exact (sI this).symm
  subst eu;refine wpAny_letOwnedTupleGo_enum R λD A l=>?_;have kk:∀b o,b ∉ [e,it]->s.heap.get? b=Za o->D.get? b=Za o:=λb o f q=>by
   have h1:b≠e:=λz=>f (by simp [z]);have h2:b≠it:=λz=>f (by simp [z]);exact (l.2 b h1).trans (hk b o h1 h2 q)
  have G:s.heap.objs.size≠e:=λz=>absurd (Ao m) (by rw[z];exact Ce _);have n:D.IsTupleIter it a (i+1):=hst.1.at λo y=>(l.2 it B.symm).trans y;refine⟨.ref s.heap.objs.size,upd H s.heap.objs.size (.tup [.int i,x]),I.turnLay kk (λb f=>?_) L (Ae _) ⟨by show 2<=sizeLine;decide,[.int i tk,y],.cons ⟨_,rfl⟩ (.cons ru .nil),?_⟩,rfl,⟨_,x,rfl,I.hok.fresh (Ae _),rfl,λys S=>by rw[I.tuple_inj S J];exact hx⟩,⟨⟨_,by simpa using A⟩,n⟩,λb f=>?_⟩
  ·rcases Ak.mp f with rfl|f
   ·exact⟨_,A⟩
   ·have:b=it:=by simpa using f
    subst this;obtain⟨o,z,_⟩:=n;exact⟨o,z⟩
  ·exact⟨_,(l.2 _ G).trans hT',⟨rfl,_,rfl⟩,rfl⟩
  ·have:b≠s.heap.objs.size:=by
    rcases Ak.mp f with rfl|f
    ·exact G.symm
    ·have e2:b=it:=by simpa using f
     subst e2;obtain⟨o,z,_⟩:=t;exact Bc (Ao z)
   rw[upd_ne this];exact (L b f).1
 done:=by
  intro X hP N V Y i pins s σ H E I L r M;subst hP N V;nofun;obtain⟨xs,J,hx⟩:=M;obtain⟨j,W,p,hz⟩:=I.tuple J;obtain⟨⟨g,m⟩,t⟩:=r;obtain⟨f0,f1,f2,f3,f4,f5⟩:=L it (by simp);ac_rfl;have hl:=W.length;have hT:s.heap.IsTuple a j.toArray:=p;have C:s.TypeIs (.ref e) "enumerate" := ⟨_,m,rfl⟩;unfold pyNext;refine Aa (Hk (De (name:=Str.ofString "__next__") C F.slot_enumerate_next (Er F.slot_enumerate_next C F.entry_enumerate_next ?_ (F.args_enumerate_next_1 _))));show wpAny _ _ (field (.ref e) 2>>=_) _ _ _;refine Aa (Cv m rfl (x:=.ref it) rfl ?_);refine Aa (zi5 (show _=Zb from I.ok.hd Y) (.inr ⟨t,hT⟩) (Em (by simp;symm)) λh' x eb U=>?_);obtain⟨o,R,O⟩:=U;refine Aa (wpAny_isInstance (T := "StopIteration") (b:=Zd) ⟨o,R,O⟩ isSubtype_stop ?_);exact Ar ⟨rfl,I.turned (t':=s.toks) (λb o f e=>eb b o f e) f0 f1 f3 f4 f5⟩
 self:=λ_ _ _ _ _ r h=>let ⟨_,m⟩:=r.1;Hi m h
section
noncomputable def z0b (K:Zg) (t:TA):TI:=λσ H R=>t σ H λv b=>∃a x,v=[.ref a]/\(SqL K b a x/\R (Ite K a) b\/SqT K b a x/\R (IteT K a) b)
theorem zvx {y} (x:Gl X "enumerate") (w:X.mg "enumerate" = Zb) (F:PA X [l] tl) (z:starEach [l] X.env=[(Zc,eval l X.env)]:=by rfl) :
  PI X (.Tuple es y px) (.Call (.Name "enumerate" p) [l] [] pos) (z0b X.K tl):=by
 intro pins s σ H R I h;refine Call_ (zdq I x w boot_enumerate (Ck (thn (F pos pins s σ H _ I h) λN c ⟨M,j,f,G,D⟩=>?_) z rfl));obtain⟨a,L,e,q⟩:=D;subst e;cases G with
 | cons r K =>
  cases K;cases r;have fp:∀b∈[c.heap.objs.size+1,c.heap.objs.size],FpOk X pins j b:=λb t=>by
   have e:c.heap.objs.size<=b:=by
    rcases Ak.mp t with rfl|t
    ·exact Nat.le_succ _
    ·have A:b=c.heap.objs.size:=by simpa using t
     rw[A];exact Ae _
   exact f.fpOk e (f.hok.fresh e)
  rcases q with⟨k,q⟩|⟨k,q⟩
  ·obtain ⟨i,C,n, B⟩:=f.list k
   refine call_enumerate_list n.isList λE g d J m=>Hi g ?_;exact⟨c.heap.objs.size+1,[c.heap.objs.size+1,c.heap.objs.size],_,_,j,rfl,f.kept (t':=c.toks) m,zux a _ _ (Nat.succ_ne_self _),⟨⟨_,by simpa using g⟩,d⟩,fp,q⟩
  ·obtain ⟨i,C,n, B⟩:=f.tuple k
   have v:c.heap.IsTuple a i.toArray:=n;have u:a<c.heap.objs.size:=let ⟨o,e,_⟩:=v;Ao e;refine zqj v λE g d m=>Hi g ?_;exact⟨c.heap.objs.size+1,[c.heap.objs.size+1,c.heap.objs.size],_,_,j,rfl,f.kept (t':=c.toks) m,zqh a _ _ (Nat.succ_ne_self _) (Nat.ne_of_gt (Ev u)) (Bc u),⟨⟨_,by simpa using g⟩,d⟩,fp,q⟩
end
section
variable {K:Zg}
theorem zwo (h:SqT K F a vs)(r:Reps K F ws vs):ItOk K F (IteT K a) (zhi ws 0) where
 go:=λi H s b=>by rw[zce] at b;exact⟨vs,vs[i]'(by rw[<-r.length];exact b),zb5 s h,by rw[Ac]⟩
 stop:=λH s=>⟨vs,zb5 s h,by rw[zce,r.length];exact Ae _⟩
 yld:=λi H x f s b y=>by
  nofun;obtain⟨p,v,e,c,d,y⟩:=y;ac_rfl;subst e d;obtain⟨w,e,q⟩:=r.getV (y vs (zb5 s h));refine⟨_,zer e,?_⟩;rw[Cr];exact .tup c (.cons (.int _) (.cons q .nil))
noncomputable def zs6 (g:GE):GL:=λe=>(g e).bind λp=>(seqW p.2.1).bind λw=>Za (p.1,zhi w 0)
theorem zro (h:tI K (zs6 g) σ H R):z0b K (zaw (tE K g) tNil) σ H R:=by
 nofun;obtain⟨F,p,l,t,w,Re,h,q⟩:=h;obtain⟨⟨o,n⟩,j,h⟩:=bS h;obtain⟨A,m,h⟩:=bS h;ac_rfl;cases h;refine⟨F,p,l,o,n,Re,j,λx c v f u z=>?_⟩;nofun;obtain⟨d,s,R2,y⟩:=z.freeze u;obtain⟨a,k,i,e,b,r⟩:=zdu y m;ac_rfl;subst e;cases k with
 |true=>exact⟨a,i,rfl,.inl ⟨R2.sub.seq b,q d c _ (f.trans s) R2 (z2b b r)⟩⟩
 |false=>exact⟨a,i,rfl,.inr ⟨zb5 R2.sub b,q d c _ (f.trans s) R2 (zwo b r)⟩⟩
end
end L2
namespace L2
open PySem PySem.Spec PyProof.Rows
section
end
section
variable {K:Zg}
end
noncomputable abbrev Fn:=List W->Option (List W×(W×Bool))
noncomputable def zav (m:List Bool) (ws:List W):En:=List.zipWith (λw b=>Za (w,b)) ws m
noncomputable def spF (K:Zg) (m:List Bool) (Φ:Fn):Sp:=λd H Q _=>∃F p a w r,a.length=m.length/\w.length=m.length/\Rel K F p (zav m a) (d.map Za) H/\Φ a=Za (w,r) /\
 ∀c b v,Same F c->Rel K c p (zav m w) (d.map Za) b->Res K c b p (zav m w) (d.map Za) r v->Q v b
theorem zed {k:Nat}{w:W}{b:Bool}:(zav m ws)[k]?=Za (Za (w,b))↔ws[k]?=Za w/\m[k]?=Za b:=by
 unfold zav;rw[List.getElem?_zipWith];cases ws[k]?<;>cases m[k]?<;>simp
theorem zeo (h:ws.length=m.length):(zav m ws).length=m.length:=by
 unfold zav;rw[List.length_zipWith,h,Nat.min_self]
theorem zgx {K:Zg}(h:spF K m Φ vs H Q E):vs.length=m.length:=by
 obtain⟨F,p,b,w,r,a,_,R,_⟩:=h;have:=R.len;rw[zeo a,Ad] at this;exact this.symm
noncomputable def isR:W ⊕ Nat->Bool
 |.inr _=>Zd
 |.inl _=>Zc
noncomputable def za7 (xs:List (W ⊕ Nat)):Cap:=xs.map λx=>match x with
 |.inr i=>Za i
 |.inl _=>Zb
noncomputable def zat (en:En) (xs:List (W ⊕ Nat)):Bool:=xs.all λx=>match x with
 | .inr i=>match en[i]? with
  |some (#v[_,5])=>Zd
  |_=>Zc
 |.inl _=>Zd
noncomputable def zaa (m:List Bool) (Φ:Fn) (as:GAs):GE:=λe=>(as e).bind λp=>if decide (p.2.map isR=m)&&zat p.1 p.2&&zb0 (za7 p.2) then (za2 p.1 p.2).bind λw=>(Φ w).bind λq=>if q.1.length=m.length then Za (zax (za7 p.2) p.1 (zav m q.1),q.2) else Zb else Zb
theorem ArgRs.get {K:Zg}:∀{xs:List (W ⊕ Nat)}{vs:List V}{k:Nat}{x:W ⊕ Nat},ArgRs K F σ xs vs->xs[k]?=Za x->∃v,vs[k]?=Za v/\ArgR K F σ x v
 |_,_,_,_,.nil,e=>by simp at e
 |_,_,0,_,.cons h _,e=>by simp at e;subst e;exact⟨_,rfl,h⟩
 | _,_,k+1,x,.cons _ r,e=>by
  obtain⟨v,a,b⟩:=ArgRs.get (k:=k) (x:=x) r (by simpa using e);exact⟨v,by simpa using a,b⟩
theorem ArgRs.length {K:Zg}:∀{xs:List (W ⊕ Nat)}{vs:List V},ArgRs K F σ xs vs->xs.length=vs.length
 |_,_,.nil=>rfl
 |_,_,.cons _ r=>congrArg (· + 1) (ArgRs.length r)
theorem zku:∀{xs:List (W ⊕ Nat)}{ws:List W},za2 en xs=Za ws->ws.length=xs.length
 |[],_,e=>by obtain rfl:=sI e;rfl
 | x::xs,_,e=>by
  obtain⟨w,_,e⟩:=bS e;obtain⟨ws,h,e⟩:=bS e;obtain rfl:=sI e;exact congrArg (· + 1) (zku h)
theorem zlj:∀{xs:List (W ⊕ Nat)}{ws:List W}{k:Nat}{w:W},za2 en xs=Za ws->ws[k]?=Za w->∃x,xs[k]?=Za x/\resA en x=Za w
 |[],_,_,_,e,h=>by obtain rfl:=sI e;simp at h
 | x::xs,_,k,w,e,h=>by
  obtain⟨u,a,e⟩:=bS e;obtain⟨f,b,e⟩:=bS e;obtain rfl:=sI e;cases k with
  |zero=>simp at h;subst h;exact⟨x,rfl,a⟩
  |succ k=>obtain⟨y,d,c⟩:=zlj (k:=k) b (by simpa using h);exact⟨y,by simpa using d,c⟩
theorem zes {xs:List (W ⊕ Nat)}{k i:Nat}:(za7 xs)[k]?=Za (Za i)↔xs[k]?=Za (.inr i):=by
 unfold za7;rw[Am];cases e:xs[k]? with
 |none=>simp
 |some x=>cases x<;>simp
section
variable {K:Zg}
theorem Rel.back (R:Rel K F pr en σ H) (s:Same F F') (G:Rel K F' (zbu pr cap en σ H) ce σc H') (slot:∀(i j:Nat) (v:V),zar cap i=Za j->σc[j]?=Za (Za v)->σ[i]?=Za (Za v)) :
  Rel K F' pr (zax cap en ce) σ H'/\∀r v,Res K F' H' (zbu pr cap en σ H) ce σc r v->Res K F' H' pr (zax cap en ce) σ r v:=by
 have un:∀(i:Nat) (w:W),zar cap i=Zb->en[i]?=Za (Za (w,Zd))->∃(a:Zh) (m:HO) (n:W),w=n/\σ[i]?=Za (Za (V.ref a))/\H a=Za m/\H' a=Za m/\F' a=Zb/\OwnR K F n m/\∀(j:Nat) (y:W),ce[j]?=Za (Za (y,Zd))->σc[j]?≠Za (Za (V.ref a)):=λi w c e=>by
  obtain⟨a,m,n,t,h,g,D,A⟩:=R.own i w e;obtain⟨Q,N,O⟩:=G.prt a m (.inr ⟨i,w,e,c,h,g⟩);exact⟨a,m,n,t,h,g,Q,N,A,O⟩
 have d:∀(i j:Nat) (w:W),zar cap i=Za j->ce[j]?=Za (Za (w,Zd))->∃(a:Zh) (m:HO) (n:W),w=n/\σ[i]?=Za (Za (V.ref a))/\σc[j]?=Za (Za (V.ref a))/\H' a=Za m/\F' a=Zb/\OwnR K F' n m:=λi j w c e=>by
  obtain⟨a,m,n,t,h,g,D,A⟩:=G.own j w e;exact⟨a,m,n,t,slot i j _ c h,h,g,D,A⟩
 refine⟨⟨by unfold zax;rw[List.length_mapIdx];exact R.len,G.sub,λi w e=>?_,λi w e=>?_,λi k a w y C u L I=>?_,λb o q=>?_,G.tb.go (λb xs z=>.inl z) (λb U e f=>⟨e,f⟩) (.refl F') λb U e hh o z=>hh o (.inl z)⟩,λr v z=>?_⟩
 ·rcases backEn_get e with ⟨j,c,e⟩ | ⟨c,e⟩
  ·obtain ⟨v,t,h⟩:=G.val j w e
   exact⟨v,slot i j v c t,h⟩
  ·obtain ⟨v,t,h⟩:=R.val i w e
   exact⟨v,t,h.mono s⟩
 ·rcases backEn_get e with ⟨j,c,e⟩ | ⟨c,e⟩
  ·obtain ⟨a,m,n,t,h,_,g,D,A⟩:=d i j w c e
   exact⟨a,m,n,t,h,g,D,A⟩
  ·obtain ⟨a,m,n,t,h,_,g,D,A,_⟩:=un i w c e
   exact⟨a,m,n,t,h,g,D,A.mono s⟩
 ·rcases backEn_get C with ⟨j,c,C⟩ | ⟨c,C⟩
  ·obtain ⟨J, _,_,_,h,g,_⟩:=d i j w c C
   rw[L] at h;cases h;rcases backEn_get u with⟨l,E,u⟩|⟨E,u⟩
   ·obtain ⟨J, _,_,_,B,M,_⟩:=d k l y E u
    rw[I] at B;cases B;have:=G.inj j l a _ _ C u g M;subst this;have x:=zbg c;rw[zbg E] at x;cases x;rfl
   ·obtain ⟨J, _,_,_,B,_,_,_,_,M⟩:=un k y E u
    rw[I] at B;cases B;exact absurd g (M j w C)
  ·obtain ⟨J, _,_,_,h,_,_,_,_,g⟩:=un i w c C
   rw[L] at h;cases h;rcases backEn_get u with⟨l,E,u⟩|⟨E,u⟩
   ·obtain ⟨J, _,_,_,B,M,_⟩:=d k l y E u
    rw[I] at B;cases B;exact absurd M (g l y u)
   ·exact R.inj i k a _ _ C u L I
 ·obtain ⟨Q,N,O⟩:=G.prt b o (.inl q)
  refine⟨Q,N,λi w e=>?_⟩;rcases backEn_get e with⟨j,c,e⟩|⟨c,e⟩
  ·obtain ⟨a,_,_,_,h,g,_⟩:=d i j w c e
   rw[h];intro z;cases z;exact O j w e g
  ·exact (R.prt b o q).2.2 i w e
 ·obtain ⟨w,fl⟩:=r
  cases fl with
  |false=>exact z
  | true =>
   obtain⟨a,m,n,L,I,Y,X,Z,T,S⟩:=z;refine⟨a,m,n,L,I,Y,X,Z,λi y e=>?_,λb o p=>S b o (.inl p)⟩;rcases backEn_get e with⟨j,c,e⟩|⟨c,e⟩
   ·obtain ⟨J, _,_,_,h,g,_⟩:=d i j y c e
    rw[h];intro z;cases z;exact T j y e g
   ·obtain ⟨J, P, ws', t,h,g,D,A⟩:=R.own i y e
    rw[h];intro z;cases z;exact S a P (.inr ⟨i,y,e,c,h,g⟩) rfl
theorem zr5 {m:List Bool}{Φ:Fn}{xs:List (W ⊕ Nat)}{e1 en':En}{F H:Hp}{vs:List V}{r:W×Bool}{Q:VK}{E:XK} (R:Rel K F pr e1 σ H) (L:ArgRs K F σ xs vs)
  (h:(if decide (xs.map isR=m)&&zat e1 xs&&zb0 (za7 xs) then (za2 e1 xs).bind λws=>(Φ ws).bind λq=>if q.1.length=m.length then Za (zax (za7 xs) e1 (zav m q.1),q.2) else Zb else Zb)=Za (en',r))
  (q:∀O H' v,Same F O->Rel K O pr en' σ H'->Res K O H' pr en' σ r v->Q v H'):spF K m Φ vs H Q E:=by
 split at h
 ·rename_i z
  rw[Af,Af] at z;obtain⟨⟨z1,z2⟩,nd⟩:=z;have U:xs.map isR=m:=Ap z1;nofun;obtain⟨ws,Y,h⟩:=bS h;obtain⟨⟨S,r'⟩,h3,h⟩:=bS h;ac_rfl;split at h
  ·rename_i hl
   cases h;have lx:ws.length=xs.length:=zku Y;have lm:xs.length=m.length:=by rw[<-U,Ad]
   have lv:=L.length;have C : ∀(k:Nat) (w:W) (b:Bool),(zav m ws)[k]?=Za (Za (w,b))->∃x v,xs[k]?=Za x/\isR x=b/\resA e1 x=Za w/\vs[k]?=Za v/\ArgR K F σ x v:=λk w b e=>by
    nofun;obtain⟨s,d⟩:=zed.mp e;obtain⟨x,g,n⟩:=zlj Y s;obtain⟨v,A,g6⟩:=L.get g;ac_rfl;rw[<-U,Am,g] at d;exact⟨x,v,g,sI d,n,A,g6⟩
   have t:∀(k:Nat) (w:W),(zav m ws)[k]?=Za (Za (w,Zd))->∃i v,xs[k]?=Za (.inr i)/\e1[i]?=Za (Za (w,Zd))/\vs[k]?=Za v/\σ[i]?=Za (Za v):=λk w e=>by
    nofun;obtain⟨x,v,s,d,g,n,A⟩:=C k w Zd e;ac_rfl;cases x with
    |inl _=>cases d
    | inr i =>
     refine⟨i,v,s,?_,n,A⟩;have o:=Be.mp z2 _ (Bp s);simp only at o;split at o
     ·rename_i w0 Z
      unfold resA at g;simp only [Z] at g;obtain rfl:=sI g;exact Z
     ·cases o
   have RC:Rel K F (zbu pr (za7 xs) e1 σ H) (zav m ws) (vs.map Za) H:=by
    refine⟨by rw[zeo (by symm),Ad];symm,R.sub,λk w e=>?_,λk w e=>?_,λk l a w N s d g n=>?_,λb o p=>?_,R.tb.go (λb xs z=>zhv R z) (λb ps e f=>⟨e,f⟩) (.refl F) λb ps e hh o z=>zhu R e hh o z⟩
    ·refine aG λM qG => ?_
     obtain⟨x,v,s,d,g,n,A⟩:=C k w Zc e;ac_rfl;cases x with
     |inr _=>cases d
     |inl u=>obtain rfl:=sI g;exact⟨v,by rw[Am,n];rfl,A⟩
    ·refine aG λM qG => ?_
     obtain⟨i,v,s,d,g,n⟩:=t k w e;obtain⟨a,us,T,D,I,G,P,p5⟩:=R.own i w d;ac_rfl;rw[n] at I;cases I;exact⟨a,us,T,D,by rw[Am,g];rfl,G,P,p5⟩
    ·refine aG λM qG => ?_
     obtain⟨i,v,k1,k2,k3,k4⟩:=t k w s;obtain⟨i',v',l1,l2,l3,l4⟩:=t l N d;ac_rfl;rw[Am,k3] at g;cases g;rw[Am,l3] at n;cases n;have:=R.inj i i' a _ _ k2 l2 k4 l4;subst this;have y:=zf2 nd (zes.mpr k1);rw[zf2 nd (zes.mpr l1)] at y;exact (sI y).symm
    ·rcases p with p | ⟨j,w,D,I,G,P⟩
     ·obtain ⟨b1,b2,b3⟩:=R.prt b o p
      refine⟨b1,b2,λk w e=>?_⟩;nofun;obtain⟨i,v,s,d,g,n⟩:=t k w e;ac_rfl;rw[Am,g];intro y;cases y;exact b3 i w d n
     ·refine aG λM qG => ?_
      obtain⟨a,us,T,p1',B,p3',J,p5'⟩:=R.own j w D;ac_rfl;rw[G] at B;cases B;refine⟨P,J,λk N e=>?_⟩;nofun;obtain⟨i,v,s,d,g,n⟩:=t k N e;ac_rfl;rw[Am,g];intro y;cases y;have:=R.inj i j _ _ _ d D n G;subst this;exact zcj I k (zes.mpr s)
   refine ⟨F,zbu pr (za7 xs) e1 σ H,ws,S,_,by symm,hl,RC,h3,λF2 H2 v X R2 y2=>?_⟩;obtain ⟨Ro,rz⟩:=R.back X R2 λi j v c e=>by
    have c':=zes.mp (zbg c);obtain⟨v',s,d⟩:=L.get c';rw[Am,s] at e;cases e;exact d
   exact q F2 H2 v X Ro (rz _ _ y2)
  ·cases h
 ·cases h
theorem zg5 (h:tE K (zaa m Φ as) σ H Q):zni (spF K m Φ) [] E0 (tAs K as) σ H Q:=by
 nofun;obtain⟨F,p,g,f,r,R,h,q⟩:=h;obtain⟨⟨e,x⟩,d,h⟩:=bS h;ac_rfl;refine⟨F,p,g,e,x,R,d,λn a j k l b=>?_⟩;show spF K m Φ (j++[]) a Q E0;rw[Bm];exact zr5 l b h λi c v s=>q i c v (k.trans s)
end
noncomputable def outsW:List Bool->List W->En->Option (List W)
 |[],[],_=>Za []
 |true::m,_::a,#v[w,5]::e=>(outsW m a e).bind λr=>Za (w::r)
 |false::m,w::a,_::e=>(outsW m a e).bind λr=>Za (w::r)
 |_,_,_=>Zb
noncomputable def mpOf (m:List Bool):List Nat:=(List.range m.length).filter λk=>m[k]? == Za Zd
noncomputable def zag (m:List Bool) (n:Nat) (g:GS):Fn:=λa=>if a.length=m.length then match g (zav m a++List.replicate (n-m.length) Zb) with
 |some (e,.ret r)=>(outsW m a e).bind λw=>Za (w,r)
 |some (e,.nx)=>(outsW m a e).bind λw=>Za (w,(.non,Zc))
 |_=>Zb else Zb
theorem zjo:∀{m:List Bool}{ws:List W}{en:En}{ws':List W},outsW m ws en=Za ws'->ws'.length=m.length/\∀(k:Nat) (w:W),ws'[k]?=Za w->(m[k]?=Za Zd->en[k]?=Za (Za (w,Zd)))/\(m[k]?=Za Zc->ws[k]?=Za w)
 |[],[],_,_,e=>by obtain rfl:=sI e;exact⟨rfl,λk w h=>by simp at h⟩
 | true::m,_::ws,Za (u,Zd)::en,_,e=>by
  obtain⟨r,h,e⟩:=bS (show (outsW m ws en).bind _=_ from e);obtain rfl:=sI e;obtain⟨b,c⟩:=zjo h;refine⟨congrArg (· + 1) b,λk w a=>?_⟩;cases k with
  |zero=>simp at a;subst a;exact⟨λ_=>rfl,λz=>by simp at z⟩
  | succ k =>
   have:=c k w (by simpa using a);exact⟨λz=>by simpa using this.1 (by simpa using z),λz=>by simpa using this.2 (by simpa using z)⟩
 | false::m,u::ws,_::en,_,e=>by
  obtain⟨r,h,e⟩:=bS (show (outsW m ws en).bind _=_ from e);obtain rfl:=sI e;obtain⟨b,c⟩:=zjo h;refine⟨congrArg (· + 1) b,λk w a=>?_⟩;cases k with
  |zero=>simp at a;subst a;exact⟨λz=>by simp at z,λ_=>rfl⟩
  | succ k =>
   have:=c k w (by simpa using a);exact⟨λz=>by simpa using this.1 (by simpa using z),λz=>by simpa using this.2 (by simpa using z)⟩
 |[],_::_,_,_,e=>by exact noSome e
 |true::_,[],_,_,e=>by exact noSome e
 |false::_,[],_,_,e=>by exact noSome e
 |true::_,_::_,[],_,e=>by exact noSome e
 |false::_,_::_,[],_,e=>by exact noSome e
 |true::_,_::_,Zb::_,_,e=>by exact noSome e
 |true::_,_::_,#v[_,6]::_,_,e=>by exact noSome e
theorem zgd {K:Zg}{vs:List V}{H:Hp}{Q:VK}{E:XK} (h:spF K m (zag m N.length g) vs H Q E):tS K (mpOf m) g { nx:=λ_ H'=>Q .non H',rt:=Q } (start N vs) H:=by
 have hv:=zgx h;refine aG λ_ qG=>?_;obtain ⟨F,I,G,T,r,h1,h2,R,n,q⟩:=h;refine qG ?_;clear qG;unfold zag at n;rw [if_pos h1] at n;have la:=zeo h1;have f:∀(i:Nat) (x:W×Bool),(zav m G++List.replicate (N.length-m.length) Zb)[i]?=Za (Za x)->(zav m G)[i]?=Za (Za x):=λi x e=>by
  by_cases hi:i<(zav m G).length
  ·rw[Dg hi] at e;exact e
  ·rw [Ez (by symm),List.getElem?_replicate] at e
   split at e<;>cases e
 have st:∀(i:Nat) (v:V),(vs.map Za)[i]?=Za (Za v)->(start N vs)[i]?=Za (Za v):=λi v e=>by
  unfold start;rw[Dg (by have:=(Ag.mp e).1;exact this)];exact e
 have C : ∀(i:Nat) (v:V),i<m.length->(start N vs)[i]?=Za (Za v)->(vs.map Za)[i]?=Za (Za v):=λi v hi e=>by
  unfold start at e;rw[Dg (by rw[Ad];symm)] at e;exact e
 have R0:Rel K F I (zav m G++List.replicate (N.length-m.length) Zb) (start N vs) H:=by
  refine⟨?_,R.sub,λi w e=>?_,λi w e=>?_,λi j a w w' X U L O=>?_,λb o p=>?_,R.tb⟩
  ·unfold start
   rw[Bf,Bf,Gh,Gh,Ad,la,hv]
  ·obtain ⟨v,s,d⟩:=R.val i w (f i _ e)
   exact⟨v,st i v s,d⟩
  ·refine aG λGg qG => ?_
   obtain⟨a,S,u,s,d,M⟩:=R.own i w (f i _ e);ac_rfl;exact⟨a,S,u,s,st i _ d,M⟩
  ·have l1:i<m.length:=by have:=(Ag.mp (f i _ X)).1;symm
   have l2:j<m.length:=by have:=(Ag.mp (f j _ U)).1;symm
   exact R.inj i j a w w' (f i _ X) (f j _ U) (C i _ l1 L) (C j _ l2 O)
  ·obtain ⟨b1,Y,b3⟩:=R.prt b o p
   refine⟨b1,Y,λi w e z=>?_⟩;have l1:i<m.length:=by have:=(Ag.mp (f i _ e)).1;symm
   exact b3 i w (f i _ e) (C i _ l1 z)
 have back:∀(B:En) (u:List W) (t:Hp) (c:St) (H':Hp),outsW m G B=Za u->Same F t->Rel K t I B c H'->Keep (mpOf m) (start N vs) c ->
   Rel K t I (zav m u) (vs.map Za) H'/\∀r v,Res K t H' I B c r v->Res K t H' I (zav m u) (vs.map Za) r v:=λB u t c H' J D A P=>by
  obtain ⟨o1,o2⟩:=zjo J;have own:∀(k:Nat) (w:W),(zav m u)[k]?=Za (Za (w,Zd))->B[k]?=Za (Za (w,Zd))/\∀v,c[k]?=Za (Za v)↔(vs.map Za)[k]?=Za (Za v):=λk w e=>by
   obtain⟨s,d⟩:=zed.mp e;have lk:k<m.length:=(Ag.mp d).1;have hk:k∈mpOf m:=Ch.mpr ⟨Bo.mpr lk,by rw[d];simp⟩;refine⟨(o2 k w s).1 d,λv=>?_⟩;rw[P k hk];exact⟨C k v lk,st k v⟩
  refine⟨⟨by rw[zeo o1,Ad,hv],A.sub,λk w e=>?_,λk w e=>?_,λk l a w w' X U L O=>?_,λb o p=>?_,A.tb⟩,λr v z=>?_⟩
  ·refine aG λGg qG => ?_
   obtain⟨s,d⟩:=zed.mp e;obtain⟨v,M,g4⟩:=R.val k w (zed.mpr ⟨(o2 k w s).2 d,d⟩);ac_rfl;exact⟨v,M,g4.mono D⟩
  ·refine aG λGg qG => ?_
   obtain⟨s,d⟩:=own k w e;obtain⟨a,S,u,p1,p2,p3⟩:=A.own k w s;ac_rfl;exact⟨a,S,u,p1,(d _).mp p2,p3⟩
  ·obtain ⟨s,d⟩:=own k w X
   obtain⟨M,g4⟩:=own l w' U;exact A.inj k l a _ _ s M ((d _).mpr L) ((g4 _).mpr O)
  ·obtain ⟨b1,Y,b3⟩:=A.prt b o p
   refine⟨b1,Y,λk w e z=>?_⟩;obtain⟨s,d⟩:=own k w e;exact b3 k w s ((d _).mpr z)
  ·obtain ⟨w0,fl⟩:=r
   cases fl with
   |false=>exact z
   | true =>
    nofun;obtain⟨a,S,Z,L,O,q3,q4,q5,q6,q7⟩:=z;ac_rfl;refine⟨a,S,Z,L,O,q3,q4,q5,λk w e y=>?_,q7⟩;obtain⟨s,d⟩:=own k w e;exact q6 k w s ((d _).mpr y)
 cases eg:g (zav m G++List.replicate (N.length-m.length) Zb) with
 |none=>simp only [eg] at n;exact noSome n
 | some p =>
  obtain⟨B,fl⟩:=p;refine⟨F,I,_,B,fl,R0,eg,?_⟩;cases fl with
  |brk=>simp only [eg] at n;exact noSome n
  |cnt=>simp only [eg] at n;exact noSome n
  | nx =>
   simp only [eg] at n;obtain⟨u,J,n⟩:=bS n;cases n;intro t c H' D A P;obtain⟨Rb,_⟩:=back B T t c H' J D A P;exact q t H' .non D Rb .non
  | ret r' =>
   simp only [eg] at n;obtain⟨u,J,n⟩:=bS n;cases n;intro t c H' v D A P z;obtain⟨Rb,rb⟩:=back B T t c H' J D A P;exact q t H' v D Rb (rb _ _ z)
end L2
set_option maxHeartbeats 4000000
namespace L2
open PySem PyProof.Rows
namespace Tim
noncomputable def gal:Bool->Keyed->Array Keyed->Nat->Nat->Nat->StateT SortSt Sem (Option Nat):=sortPriv% PySem.Builtin.gallop
noncomputable def mLo:Array Keyed->Array Keyed->StateT SortSt Sem (Array Keyed):=sortPriv% PySem.Builtin.mergeLo
noncomputable def mHi:Array Keyed->Array Keyed->StateT SortSt Sem (Array Keyed):=sortPriv% PySem.Builtin.mergeHi
theorem aG {P:Prop}(h:∀G:Prop,(P->G)->G):P:=h P id
structure Ord (lt:Keyed->Keyed->Bool) (bf le:Keyed->Keyed->Prop):Prop where
 tr:∀{x y z},le x y->le y z->le x z
 tot:∀x y,le x y\/le y x
 f1:∀{x y},bf x y->(lt y x=Zc↔le x y)
 f2:∀{x y},lt x y=Zd->le x y
 irr:∀x,lt x x=Zc
 ltr:∀{x y z},lt x y=Zd->lt y z=Zd->lt x z=Zd
 nt:∀{x z} (y),lt x z=Zd->lt x y=Zd\/lt y z=Zd
section
variable (O:Ord lt bf le)
include O
theorem Ord.rf (x:Keyed):le x x:=(O.tot x x).elim id id
theorem Ord.f3 (h:bf x y)(q:lt y x=Zd):¬ le x y:=λz=>by rw[(O.f1 h).mpr z] at q;cases q
end
noncomputable abbrev d0:Keyed:=(Ze.none,Ze.none)
noncomputable def G (xs:Array Keyed) (i:Nat):Keyed:=(xs[i]?).getD d0
theorem zz4 (h:i<xs.size):xs[i]?=Za (G xs i):=by unfold G;rw[getElem?_pos xs i h];rfl
theorem z2l (p:xs.Perm a₀)(h:i<xs.size):G xs i∈a₀.toList:=by
 refine (Gy.mp p).mem_iff.mp ?_;unfold G;rw[getElem?_pos xs i h];simp
theorem zg4 (h:xs[i]?=ys[j]?):G xs i=G ys j:=by unfold G;rw[h]
noncomputable def Asks (prog:Program) (w:World) (A:Around) (E:Ze->Zf->Prop) (s:Zf) (κ:SortKind) (a₀:Array Keyed) (lt:Keyed->Keyed->Bool):Prop :=
 ∀(x y:Keyed) (a:SortSt) (Q:Option Bool->SortSt->Prop),x∈a₀.toList->y∈a₀.toList->kindOf a=κ->Q (Za (lt x y)) a->wpS (model prog w) A E s (lt' x y) Q a
section
variable {st:SortSt}
theorem zaz (a:i<arr.size)(h:Q (G arr i) st):wpS (model prog w) A E s (elem' arr i) Q st:=by
 rw[elem'_eq,zz4 a];exact As h
theorem zht (C:Asks prog w A E s κ a₀ lt) (a:kindOf st=κ) (p:(arrOf st).Perm a₀) (b:i<a₀.size) (c:j<a₀.size) (h:Q (Za (lt (G (arrOf st) i) (G (arrOf st) j))) st) :
  wpS (model prog w) A E s (ltAt' i j) Q st:=by
 have e:=p.size_eq;rw[ltAt'_eq];refine An (Hl ?_);exact An (zaz (by symm) (An (zaz (by symm) (C _ _ _ _ (z2l p (by symm)) (z2l p (by symm)) a h))))
theorem zpp {base n hint:Nat}{B:Nat->Bool}{Q:Option Nat->SortSt->Prop} (C:Asks prog w A E s κ a₀ lt) (O:kindOf st=κ) (H:key∈a₀.toList)
  (V:base+n<=arr.size) (N:∀i,i<n->G arr (base+i)∈a₀.toList) (T:∀i,i<n->B i=if left then lt (G arr (base+i)) key else !lt key (G arr (base+i)))
  (mono:∀i j,i<=j->j<n->B j=Zd->B i=Zd) (U:hint<n)
  (h:∀k,k<=n->(∀i,i<k->B i=Zd)->(∀i,k<=i->i<n->B i=Zc)->Q (Za k) st):wpS (model prog w) A E s (gal left key arr base n hint) Q st:=by
 have t : ∀i j,i<=j->j<n->B i=Zc->B j=Zc:=λi j J F P=>by
  cases q:B j with
  |false=>rfl
  |true=>rw[mono i j J F q] at P;cases P
 let D:Nat->StateT SortSt Sem (Option Bool):=λi=>do
  let x <- elem' arr (base+i)
  if left=Zd then lt' x key else do
   let r <- lt' key x
   pure (r.map (!·))
 have K:∀(i:Nat) (R:Option Bool->SortSt->Prop),i<n->R (Za (B i)) st->wpS (model prog w) A E s (D i) R st:=λi R a S=>by
  refine An (zaz (by symm) ?_);have e:=T i a;cases left with
  | true =>
   rw[if_pos rfl] at e;rw[if_pos rfl];exact C _ _ _ _ (N i a) H O (by rw[<-e];exact S)
  | false =>
   rw[if_neg (by decide)] at e;rw[if_neg (by decide)];exact An (C _ _ _ _ H (N i a) O (As (by show R (Za (!lt key (G arr (base+i)))) st;rw[<-e];exact S)))
 show wpS (model prog w) A E s (do let o <- D hint;_) Q st;refine An (K _ _ U ?_);cases q:B hint with
 | true =>
  refine An (Dw (Cg (I:=λx c f=>f=st/\∃l o,c=(Zb,l,o)/\l<o/\x<o/\hint+l<n/\B (hint+l)=Zd)
   (Q:=λc f=>f=st/\∃l o,c=(Zb,l,o)/\l<o/\hint+l<n/\B (hint+l)=Zd/\(n-hint<=o\/hint+o<n/\B (hint+o)=Zc)) ?step ?fin ⟨rfl,0,1,rfl,by symm,by symm,by symm,q⟩) ?post)
  case fin =>
   rintro c f ⟨rfl,l,o,rfl,z,u,y,m⟩;exact⟨rfl,l,o,rfl,z,y,m,.inl (by symm)⟩
  case step =>
   rintro x c f _ M ⟨rfl,l,o,rfl,z,u,y,m⟩;dsimp only;by_cases g:o ≥ n-hint
   ·rw [if_pos g]
    exact As ⟨rfl,l,o,rfl,z,y,m,.inl g⟩
   ·rw [if_neg g]
    refine An (K _ _ (by symm) ?_);cases q2:B (hint+o) with
    | true =>
     dsimp only;rw[if_neg (by decide)];exact As ⟨rfl,o,2*o+1,rfl,by symm,by symm,by symm,q2⟩
    | false =>
     dsimp only;rw[if_pos (by decide)];exact As ⟨rfl,l,o,rfl,z,y,m,.inr ⟨by symm,q2⟩⟩
  case post =>
   rintro c f ⟨rfl,l,o,rfl,z,y,m,p⟩;dsimp only;refine An (Dw (Cg (I:=λx c d=>d=f/\∃b a,c=(Zb,b,a)/\b<=a/\a<=n/\a-b<=n-x/\(∀i,i<b->B i=Zd)/\∀i,a<=i->i<n->B i=Zc)
    (Q:=λc d=>d=f/\∃b a,c=(Zb,b,a)/\b=a/\a<=n/\(∀i,i<b->B i=Zd)/\∀i,a<=i->i<n->B i=Zc) ?s3 ?f3 ⟨rfl,hint+l+1,hint+min o (n-hint),rfl,by symm,by symm,by symm,λi a=>mono i _ (by symm) y m,λi J F=>p.elim (λp=>by symm) λp=>t _ i (by symm) F p.2⟩) ?p3)
   case f3 =>
    rintro c d ⟨rfl,b,a,rfl,z,u,y,m,p⟩;exact⟨rfl,b,a,rfl,by symm,u,m,p⟩
   case s3 =>
    rintro x c d _ M ⟨rfl,b,a,rfl,z,u,y,m,p⟩;dsimp only;by_cases g:b ≥ a
    ·rw [if_pos g]
     exact As ⟨rfl,b,a,rfl,by symm,u,m,p⟩
    ·rw [if_neg g]
     refine An (K _ _ (by symm) ?_);cases q:B (b+(a-b)/2) with
     | true =>
      dsimp only;rw[if_pos rfl];refine As ⟨rfl,b+(a-b)/2+1,a,rfl,by symm,u,by symm,λi L=>?_,p⟩;exact mono i _ (by symm) (by symm) q
     | false =>
      dsimp only;rw[if_neg (by decide)];refine As ⟨rfl,b,b+(a-b)/2,rfl,by symm,by symm,by symm,m,λi J F=>?_⟩;exact t _ i J F q
   case p3 =>
    rintro c d ⟨rfl,b,a,rfl,rfl,u,m,p⟩;exact As (h b u m p)
 | false =>
  refine An (Dw (Cg (I:=λx c f=>f=st/\∃l o,c=(Zb,l,o)/\l<o/\x<o/\l<=hint/\B (hint-l)=Zc)
   (Q:=λc f=>f=st/\∃l o,c=(Zb,l,o)/\l<o/\l<=hint/\B (hint-l)=Zc/\(hint+1<=o\/o<=hint/\B (hint-o)=Zd)) ?step ?fin ⟨rfl,0,1,rfl,by symm,by symm,by symm,q⟩) ?post)
  case fin =>
   rintro c f ⟨rfl,l,o,rfl,z,u,y,m⟩;exact⟨rfl,l,o,rfl,z,y,m,.inl (by symm)⟩
  case step =>
   rintro x c f _ M ⟨rfl,l,o,rfl,z,u,y,m⟩;dsimp only;by_cases g:o ≥ hint+1
   ·rw [if_pos g]
    exact As ⟨rfl,l,o,rfl,z,y,m,.inl g⟩
   ·rw [if_neg g]
    refine An (K _ _ (by symm) ?_);cases q2:B (hint-o) with
    | true =>
     dsimp only;rw[if_pos rfl];exact As ⟨rfl,l,o,rfl,z,y,m,.inr ⟨by symm,q2⟩⟩
    | false =>
     dsimp only;rw[if_neg (by decide)];exact As ⟨rfl,o,2*o+1,rfl,by symm,by symm,by symm,q2⟩
  case post =>
   rintro c f ⟨rfl,l,o,rfl,z,y,m,p⟩;dsimp only;refine An (Dw (Cg (I:=λx c d=>d=f/\∃b a,c=(Zb,b,a)/\b<=a/\a<=n/\a-b<=n-x/\(∀i,i<b->B i=Zd)/\∀i,a<=i->i<n->B i=Zc)
    (Q:=λc d=>d=f/\∃b a,c=(Zb,b,a)/\b=a/\a<=n/\(∀i,i<b->B i=Zd)/\∀i,a<=i->i<n->B i=Zc) ?s4 ?f4 ⟨rfl,hint+1-min o (hint+1),hint-l,rfl,by symm,by symm,by symm,λi a=>p.elim (λp=>by symm) λp=>mono i _ (by symm) (by symm) p.2,λi J F=>t _ i J F m⟩) ?p4)
   case f4 =>
    rintro c d ⟨rfl,b,a,rfl,z,u,y,m,p⟩;exact⟨rfl,b,a,rfl,by symm,u,m,p⟩
   case s4 =>
    rintro x c d _ M ⟨rfl,b,a,rfl,z,u,y,m,p⟩;dsimp only;by_cases g:b ≥ a
    ·rw [if_pos g]
     exact As ⟨rfl,b,a,rfl,by symm,u,m,p⟩
    ·rw [if_neg g]
     refine An (K _ _ (by symm) ?_);cases q:B (b+(a-b)/2) with
     | true =>
      dsimp only;rw[if_pos rfl];refine As ⟨rfl,b+(a-b)/2+1,a,rfl,by symm,u,by symm,λi L=>?_,p⟩;exact mono i _ (by symm) (by symm) q
     | false =>
      dsimp only;rw[if_neg (by decide)];refine As ⟨rfl,b,b+(a-b)/2,rfl,by symm,by symm,by symm,m,λi J F=>?_⟩;exact t _ i J F q
   case p4 =>
    rintro c d ⟨rfl,b,a,rfl,rfl,u,m,p⟩;exact As (h b u m p)
end
end Tim
namespace Tim
noncomputable def Srt (le:Keyed->Keyed->Prop) (xs:Array Keyed) (lo h:Nat):Prop:=∀i j,lo<=i->i<j->j<h->le (G xs i) (G xs j)
noncomputable def Cut (bf:Keyed->Keyed->Prop) (xs:Array Keyed) (c:Nat):Prop:=∀i j,i<c->c<=j->j<xs.size->bf (G xs i) (G xs j)
structure Re (xs ys:Array Keyed) (lo hi:Nat):Prop where
 perm:ys.Perm xs
 out:∀i,i<lo\/hi<=i->G ys i=G xs i
 inn:∀i,lo<=i->i<hi->∃j,lo<=j/\j<hi/\G ys i=G xs j
theorem Re.refl (xs:Array Keyed)(lo b:Nat):Re xs xs lo b:=⟨.refl _,λ_ _=>rfl,λi h a=>⟨i,h,a,rfl⟩⟩
theorem Re.trans {lo c:Nat}(a:Re xs ys lo c)(b:Re ys zs lo c):Re xs zs lo c :=
 ⟨b.perm.trans a.perm,λi h=>(b.out i h).trans (a.out i h),λi f g=>by
  obtain⟨j,o,n,e⟩:=b.inn i f g;obtain⟨k,d,l,m⟩:=a.inn j o n;exact⟨k,d,l,e.trans m⟩⟩
theorem Re.mono {lo d l b:Nat}(a:Re xs ys lo d)(m:l<=lo)(n:d<=b):Re xs ys l b :=
 ⟨a.perm,λi h=>a.out i (by symm),λi f g=>by
  by_cases c:lo<=i/\i<d
  ·obtain⟨j,k,o,e⟩:=a.inn i c.1 c.2;exact⟨j,by symm,by symm,e⟩
  ·exact⟨i,f,g,a.out i (by symm)⟩⟩
theorem Re.size {lo h:Nat}(a:Re xs ys lo h):ys.size=xs.size:=a.perm.size_eq
theorem Cut.re {lo f c:Nat}(h:Cut bf xs c)(a:Re xs ys lo f)(x:f<=xs.size)(u:c<=lo\/f<=c):Cut bf ys c:=λi j n o y=>by
 have e:=a.size;have w:∃d,d<c/\G ys i=G xs d:=by
  by_cases k:lo<=i/\i<f
  ·obtain⟨d, t,s,e⟩:=a.inn i k.1 k.2;exact⟨d,by symm,e⟩
  ·exact⟨i,n,a.out i (by symm)⟩
 have q:∃b,c<=b/\b<xs.size/\G ys j=G xs b:=by
  by_cases k:lo<=j/\j<f
  ·obtain⟨b, t,s,e⟩:=a.inn j k.1 k.2;exact⟨b,by symm,by symm,e⟩
  ·exact⟨j,o,by symm,a.out j (by symm)⟩
 obtain⟨d,g,p⟩:=w;obtain⟨b,r,m,l⟩:=q;rw[p,l];exact h d b g r m
theorem Srt.re {lo c a b:Nat}(h:Srt le xs a b)(r:Re xs ys lo c)(g:b<=lo\/c<=a):Srt le ys a b:=λi j d e f=>by
 rw[r.out i (by symm),r.out j (by symm)];exact h i j d e f
noncomputable def mir (xs:Array Keyed) (i j:Nat):Array Keyed:=mirror xs i j ((j-i)/2)
theorem zhe (a:j<=xs.size)(k:Nat):G (mir xs i j) k=if i<=k/\k<j then G xs (i+j-1-k) else G xs k:=by
 have e:=getElem?_mirror_all (i:=i) a k;unfold mir;by_cases h:i<=k/\k<j
 ·rw[if_pos h] at e ⊢;exact zg4 e
 ·rw[if_neg h] at e ⊢;exact zg4 e
theorem Re.mir (a:j<=xs.size):Re xs (mir xs i j) i j :=
 ⟨mirror_perm _ _ _ _,λk h=>by rw[zhe a,if_neg (by symm)],λk c b=>⟨i+j-1-k,by symm,by symm,by rw[zhe a,if_pos ⟨c,b⟩]⟩⟩
theorem zwu (b:src<xs.size)(c:d<=src)(k:Nat):G (bubble xs src d) k=if k=src-d then G xs src else if src-d<k/\k<=src then G xs (k-1) else G xs k:=by
 have e:=getElem?_bubble b d c k;by_cases h:k=src-d
 ·rw[if_pos h] at e ⊢;exact zg4 e
 ·rw[if_neg h] at e ⊢;by_cases a:src-d<k/\k<=src
  ·rw[if_pos a] at e ⊢;exact zg4 e
  ·rw[if_neg a] at e ⊢;exact zg4 e
theorem Re.bub (a:src<xs.size)(b:d<=src):Re xs (bubble xs src d) (src-d) (src+1) :=
 ⟨bubble_perm _ _ _,λk h=>by rw[zwu a b,if_neg (by symm),if_neg (by symm)],λk e f=>by
  rw[zwu a b];by_cases c:k=src-d
  ·exact⟨src,by symm,by symm,by rw[if_pos c]⟩
  ·exact⟨k-1,by symm,by symm,by rw[if_neg c,if_pos ⟨by symm,by symm⟩]⟩⟩
structure SI (κ:SortKind) (a₀:Array Keyed) (pd:Array (Nat×Nat×Nat)) (st:SortSt):Prop where
 kind:kindOf st=κ
 failed:failedOf st=Zb
 perm:(arrOf st).Perm a₀
 pend:pendingOf st=pd
theorem SI.size {κ a₀ p st}(h:SI κ a₀ p st):(arrOf st).size=a₀.size:=h.perm.size_eq
theorem SI.set {κ a₀ a st}(h:SI κ a₀ a st)(p:ys.Perm (arrOf st)):SI κ a₀ a (setArr st ys):=⟨h.kind,h.failed,p.trans h.perm,h.pend⟩
section
variable {st:SortSt}
theorem zwq (h:Q () (setArr st (mir (arrOf st) i j))):wpS (model prog w) A E s (reverseSlice' i j) Q st:=by
 rw[reverseSlice'_eq];exact wpS_modify h
theorem z6i (h:Q () (setArr st (bubble (arrOf st) i (i-j)))):wpS (model prog w) A E s (moveDown' i j) Q st:=by
 rw[moveDown'_eq];exact wpS_modify h
theorem grp (O:Ord lt bf le) {lo n c:Nat} (r:lo<=c) (s:c<lo+n) (e:∀k,G ys k=if c<=k/\k<lo+n then G xs (c+(lo+n)-1-k) else G xs k)
  (l:∀i j,lo<=i->i<j->j<c->le (G xs j) (G xs i)) (g:∀i j,lo<=i->i<c->c<=j->j<lo+n->lt (G xs j) (G xs i)=Zd)
  (o:∀i j,c<=i->i<j->j<lo+n->le (G xs i) (G xs j)) (m:∀i j,c<=i->i<lo+n->c<=j->j<lo+n->lt (G xs i) (G xs j)=Zc) :
  (∀i j,lo<=i->i<j->j<lo+n->le (G ys j) (G ys i))/\∀y,lt y (G xs (lo+n-1))=Zd->∀i,lo<=i->i<lo+n->lt y (G ys i)=Zd:=by
 constructor
 ·intro i j d f p;rw[e i,e j];by_cases a:j<c
  ·rw[if_neg (by symm),if_neg (by symm)];exact l i j d f a
  ·rw[if_pos ⟨by symm,p⟩];by_cases b:i<c
   ·rw[if_neg (by symm)];exact O.f2 (g i _ d b (by symm) (by symm))
   ·rw[if_pos ⟨by symm,by symm⟩];exact o _ _ (by symm) (by symm) (by symm)
 ·intro y h i d f;rw[e i];by_cases b:c<=i/\i<lo+n
  ·rw[if_pos b];exact (O.nt _ h).resolve_right (λq=>by rw[m _ _ (by symm) (by symm) (by symm) (by symm)] at q;cases q)
  ·rw[if_neg b];exact O.ltr h (g i _ d (by symm) (by symm) (by symm))
structure DI (lt:Keyed->Keyed->Bool) (le:Keyed->Keyed->Prop) (lo n neq:Nat) (xs:Array Keyed):Prop where
 nq:neq+1<=n
 d1:∀i j,lo<=i->i<j->j<lo+n-(neq+1)->le (G xs j) (G xs i)
 d2:∀i j,lo<=i->i<lo+n-(neq+1)->lo+n-(neq+1)<=j->j<lo+n->lt (G xs j) (G xs i)=Zd
 d3:∀i j,lo+n-(neq+1)<=i->i<j->j<lo+n->le (G xs i) (G xs j)
 d4:∀i j,lo+n-(neq+1)<=i->i<lo+n->lo+n-(neq+1)<=j->j<lo+n->lt (G xs i) (G xs j)=Zc
theorem DI.turn (O:Ord lt bf le) {lo n neq:Nat} (d:DI lt le lo n neq xs) (h:lo+n<=xs.size) :
  (∀i j,lo<=i->i<j->j<lo+n->le (G (mir xs (lo+n-(neq+1)) (lo+n)) j) (G (mir xs (lo+n-(neq+1)) (lo+n)) i))/\∀y,lt y (G xs (lo+n-1))=Zd->∀i,lo<=i->i<lo+n->lt y (G (mir xs (lo+n-(neq+1)) (lo+n)) i)=Zd :=
 grp O (by have:=d.nq;symm) (by have:=d.nq;symm) (λk=>zhe h k) d.d1 d.d2 d.d3 d.d4
theorem DI.turn0 (O:Ord lt bf le) {lo n:Nat} (d:DI lt le lo n 0 xs) :
  (∀i j,lo<=i->i<j->j<lo+n->le (G xs j) (G xs i))/\∀y,lt y (G xs (lo+n-1))=Zd->∀i,lo<=i->i<lo+n->lt y (G xs i)=Zd :=
 grp (c:=lo+n-1) O (by have:=d.nq;symm) (by have:=d.nq;symm) (λk=>by
  split
  ·congr 1;symm
  ·rfl) d.d1 d.d2 d.d3 d.d4
theorem DI.next (O:Ord lt bf le){lo n:Nat}(h:∀i j,lo<=i->i<j->j<lo+n->le (G xs j) (G xs i))(f:∀i,lo<=i->i<lo+n->lt (G xs (lo+n)) (G xs i)=Zd):DI lt le lo (n+1) 0 xs :=
 ⟨by symm,λi j a b c=>h i j a b (by symm),λi j a b c d=>by
  have e:j=lo+n:=by symm
  rw[e];exact f i a (by symm),λi j a b c=>by symm,λi j a b c d=>by
  have e:j=i:=by symm
  rw[e];exact O.irr _⟩
theorem DI.like (O:Ord lt bf le) {lo n neq:Nat} (d:DI lt le lo n neq xs) (p:∀i,lo<=i->i<lo+n->bf (G xs i) (G xs (lo+n))) (m:lt (G xs (lo+n)) (G xs (lo+n-1))=Zc) (l:lt (G xs (lo+n-1)) (G xs (lo+n))=Zc):DI lt le lo (n+1) (neq+1) xs:=by
 have s:=d.nq;have o:lo+(n+1)-(neq+1+1)=lo+n-(neq+1):=by symm
 have t:∀i,lo+n-(neq+1)<=i->i<lo+n->lt (G xs (lo+n)) (G xs i)=Zc:=λi a b=>by
  cases q:lt (G xs (lo+n)) (G xs i) with
  |false=>rfl
  | true =>
   rcases O.nt (G xs (lo+n-1)) q with z|z
   ·rw[m] at z;cases z
   ·rw[d.d4 _ _ (by symm) (by symm) a b] at z;cases z
 have r:∀i,lo+n-(neq+1)<=i->i<lo+n->lt (G xs i) (G xs (lo+n))=Zc:=λi a b=>by
  cases q:lt (G xs i) (G xs (lo+n)) with
  |false=>rfl
  | true =>
   rcases O.nt (G xs (lo+n-1)) q with z|z
   ·rw[d.d4 _ _ a b (by symm) (by symm)] at z;cases z
   ·rw[l] at z;cases z
 refine⟨by symm,?_,?_,?_,?_⟩<;>rw[o]
 ·exact d.d1
 ·intro i j a b c e
  by_cases k:j<lo+n
  ·exact d.d2 i j a b c k
  ·have f:j=lo+n:=by symm
   rw[f];exact (O.nt (G xs (lo+n)) (d.d2 i (lo+n-1) a b (by symm) (by symm))).resolve_left (λz=>by rw[l] at z;cases z)
 ·intro i j a b c
  by_cases k:j<lo+n
  ·exact d.d3 i j a b k
  ·have f:j=lo+n:=by symm
   rw[f];exact (O.f1 (p i (by symm) (by symm))).mp (t i a (by symm))
 ·intro i j a b c e
  by_cases k:j<lo+n
  ·by_cases g:i<lo+n
   ·exact d.d4 i j a g c k
   ·have h:i=lo+n:=by symm
    rw[h];exact t j c k
  ·have f:j=lo+n:=by symm
   rw[f];by_cases g:i<lo+n
   ·exact r i a g
   ·have h:i=lo+n:=by symm
    rw[h];exact O.irr _
theorem z68 {α:Type}{c:Prop} [Decidable c] {x y:StateT SortSt Sem α}{Q:α->SortSt->Prop}{T:SortSt->Prop}(h:∀a,T a->wpS (model prog w) A E s y Q a)(h0:¬ c->T st)(b:c->(∀a,T a->wpS (model prog w) A E s y Q a)->wpS (model prog w) A E s x Q st):wpS (model prog w) A E s (if c then x else y) Q st:=by
 by_cases k:c
 ·rw[if_pos k];exact b k h
 ·rw[if_neg k];exact h st (h0 k)
theorem z1s (C:Asks prog w A E s κ a₀ lt) (O:Ord lt bf le) {lo a:Nat}{Q:Option Nat->SortSt->Prop} (I:SI κ a₀ pd st) (hsz:lo+a<=a₀.size) (u:1<=a) (Z:∀c,lo<=c->Cut bf (arrOf st) c)
  (h:∀m r,SI κ a₀ pd r->1<=m->m<=a->Re (arrOf st) (arrOf r) lo (lo+m)->Srt le (arrOf r) lo (lo+m)->Q (Za m) r):wpS (model prog w) A E s (countRun' lo a) Q st:=by
 have sz:=I.size;rw [countRun'_eq];refine An (Dw (Cg (I:=λx c d=>d=st/\c=(Zb,x)/\1<=x/\x<=a/\Srt le (arrOf st) lo (lo+x))
  (Q:=λc d=>d=st/\∃k,c=(Zb,k)/\1<=k/\k<=a/\Srt le (arrOf st) lo (lo+k)/\(k=a\/lt (G (arrOf st) (lo+k)) (G (arrOf st) (lo+k-1))=Zd)) ?as1 ?af1 ⟨rfl,rfl,Ae _,u,(λi j L J g3=>by symm)⟩) ?ap1)
 case af1 =>
  rintro c d ⟨t,rfl,P,W,g⟩;rw[show max 1 a=a by symm] at *
  exact⟨t,a,rfl,by symm,Ae _,g,.inl rfl⟩
 case as1 =>
  rintro x c d N b2 ⟨t,rfl,P,W,g⟩;subst t;dsimp only;refine An (zht C I.kind I.perm (by symm) (by symm) ?_);cases q:lt (G (arrOf d) (lo+x)) (G (arrOf d) (lo+x-1)) with
  | true =>
   dsimp only;rw[if_pos rfl];exact As ⟨rfl,x,rfl,P,W,g,.inr q⟩
  | false =>
   dsimp only;rw[if_neg (by decide)];refine As ⟨rfl,rfl,by symm,by symm,λi j u h2 h3=>?_⟩;by_cases hj:j<lo+x
   ·exact g i j u h2 hj
   ·have ej:j=lo+x:=by symm
    subst ej;have b:le (G (arrOf d) (lo+x-1)) (G (arrOf d) (lo+x)):=(O.f1 (Z (lo+x) (by symm) (lo+x-1) (lo+x) (by symm) (Ae _) (by rw[I.size];symm))).mp q;by_cases hi:i=lo+x-1
    ·rw[hi];exact b
    ·exact O.tr (g i (lo+x-1) u (by symm) (by symm)) b
 case ap1 =>
  rintro c d ⟨t,n,rfl,P,W,g,a3⟩;subst t;dsimp only;by_cases en:n=a
  ·rw [if_pos (by simpa using en)]
   exact As (h n d I P W (.refl _ _ _) g)
  ·rw [if_neg (by simpa using en)]
   have q3:=a3.resolve_left en;refine z68 (T:=λp=>SI κ a₀ pd p/\Re (arrOf d) (arrOf p) lo (lo+(n+1))/\DI lt le lo (n+1) 0 (arrOf p)) (λp ⟨I3,R3,D3⟩=>?main) (λn1=>?no) (λn1 H=>?yes)
   case yes =>
    refine An (zht C I.kind I.perm (by symm) (by symm) ?_);cases q:lt (G (arrOf d) lo) (G (arrOf d) (lo+n-1)) with
    | true =>
     dsimp only;rw[if_pos rfl];exact As (h n d I P W (.refl _ _ _) g)
    | false =>
     dsimp only;rw [if_neg (by decide)];refine An (zwq ?_);have lk:∀i,lo<=i->i<lo+n->lt (G (arrOf d) (lo+n)) (G (arrOf d) i)=Zd:=λi L J=>by
      have z1:lt (G (arrOf d) i) (G (arrOf d) (lo+n-1))=Zc:=by
       cases z:lt (G (arrOf d) i) (G (arrOf d) (lo+n-1)) with
       |false=>rfl
       | true =>
        rcases O.nt (G (arrOf d) lo) z with y|y
        ·by_cases ei:i=lo
         ·rw[ei,O.irr] at y;cases y
         ·have:=O.f3 (Z i L lo i (by symm) (Ae _) (by symm)) y
          exact absurd (g lo i (Ae _) (by symm) J) this
        ·rw[q] at y;cases y
      exact (O.nt _ q3).resolve_right (λy=>by rw[z1] at y;cases y)
     obtain ⟨p,e3,I3,R3,D3⟩ : ∃p,p=(setArr d (mir (arrOf d) lo (lo+n)))/\SI κ a₀ pd p/\Re (arrOf d) (arrOf p) lo (lo+(n+1))/\DI lt le lo (n+1) 0 (arrOf p):=⟨_,rfl,I.set (Re.mir (by symm)).perm,(Re.mir (by symm)).mono (Ae _) (by symm),DI.next O (λi j L J g3=>by
           show le (G (mir (arrOf d) lo (lo+n)) j) (G (mir (arrOf d) lo (lo+n)) i);rw[zhe (by symm),zhe (by symm),if_pos ⟨by symm,by symm⟩,if_pos ⟨by symm,by symm⟩];exact g _ _ (by symm) (by symm) (by symm)) (λi L J=>by
           show lt (G (mir (arrOf d) lo (lo+n)) (lo+n)) (G (mir (arrOf d) lo (lo+n)) i)=Zd;rw[zhe (by symm),zhe (by symm),if_neg (by symm),if_pos ⟨by symm,by symm⟩];exact lk _ (by symm) (by symm))⟩
     rw[<-e3];exact H p ⟨I3,R3,D3⟩
   case no =>
    have en1:n=1:=by symm
    subst en1;exact ⟨I,.refl _ _ _,DI.next O (λi j L J g3=>by symm) (λi L J=>by
     have ei:i=lo:=by symm
     rw[ei];exact q3)⟩
   case main =>
    refine An (wpS_lift (Ei ⟨rfl,?_⟩));refine An (Dw (Cg (I:=λx c f=>∃neq,c=(Zb,x,neq)/\n+1<=x/\x<=a/\SI κ a₀ pd f/\Re (arrOf d) (arrOf f) lo (lo+x)/\DI lt le lo x neq (arrOf f))
     (Q:=λc f=>∃m neq,c=(Zb,m,neq)/\n+1<=m/\m<=a/\SI κ a₀ pd f/\Re (arrOf d) (arrOf f) lo (lo+m)/\DI lt le lo m neq (arrOf f)) ?dsd1 ?dfd1 ⟨0,rfl,Ae _,by symm,I3,R3,D3⟩) ?dpd1)
    case dfd1 =>
     rintro c f ⟨neq,rfl,S,N,b2,b3,b4⟩;have e:max (n+1) a=a:=by symm
     rw[e] at S N b3 b4 ⊢;exact⟨a,neq,rfl,S,N,b2,b3,b4⟩
    case dsd1 =>
     rintro x c f L J ⟨neq,rfl,S,N,o,R,D⟩;dsimp only;have z4:=o.size;have U:∀c,lo+x<=c->Cut bf (arrOf f) c:=λc B=>(Z c (by symm)).re R (by symm) (.inr B);refine An (zht C o.kind o.perm (by symm) (by symm) ?_);cases q5:lt (G (arrOf f) (lo+x)) (G (arrOf f) (lo+x-1)) with
     | true =>
      dsimp only;rw[if_pos rfl];by_cases nq:neq > 0
      ·rw [if_pos nq]
       refine An (zwq (As ⟨0,rfl,by symm,by symm,o.set (Re.mir (by symm)).perm,(R.trans ((Re.mir (by symm)).mono (by have:=D.nq;symm) (Ae _))).mono (Ae _) (by symm),?_⟩));obtain⟨F,t2⟩:=D.turn O (by symm);refine DI.next O F λi Y V=>?_;have:=t2 _ q5 i Y V;show lt (G (mir (arrOf f) (lo+x-(neq+1)) (lo+x)) (lo+x)) _=Zd;rw[zhe (by symm),if_neg (by symm)];exact this
      ·rw [if_neg nq]
       have e0:neq=0:=by symm
       subst e0;obtain⟨F,t2⟩:=D.turn0 O;exact As ⟨0,rfl,by symm,by symm,o,R.mono (Ae _) (by symm),DI.next O F λi Y V=>t2 _ q5 i Y V⟩
     | false =>
      dsimp only;rw[if_neg (by decide)];refine An (zht C o.kind o.perm (by symm) (by symm) ?_);cases q6:lt (G (arrOf f) (lo+x-1)) (G (arrOf f) (lo+x)) with
      | true =>
       dsimp only;rw[if_pos rfl];exact As ⟨x,neq,rfl,S,N,o,R,D⟩
      | false =>
       dsimp only;rw[if_neg (by decide)];exact As ⟨neq+1,rfl,by symm,by symm,o,R.mono (Ae _) (by symm),D.like O (λi Y V=>U (lo+x) (Ae _) i (lo+x) V (Ae _) (by symm)) q5 q6⟩
    case dpd1 =>
     rintro c f ⟨n,neq,rfl,S,n2,o,R,D⟩;dsimp only;have z4:=o.size;refine z68 (T:=λl=>SI κ a₀ pd l/\Re (arrOf d) (arrOf l) lo (lo+n)/\∀i j,lo<=i->i<j->j<lo+n->le (G (arrOf l) j) (G (arrOf l) i)) (λl ⟨I6,R6,F⟩=>?tl) (λnq=>?tn) (λnq H=>?ty)
     case ty =>
      refine An (zwq ?_);have I6:SI κ a₀ pd (setArr f (mir (arrOf f) (lo+n-(neq+1)) (lo+n))):=o.set (Re.mir (by symm)).perm;have R6:Re (arrOf d) (mir (arrOf f) (lo+n-(neq+1)) (lo+n)) lo (lo+n):=R.trans ((Re.mir (by symm)).mono (by have:=D.nq;symm) (Ae _));have F:=(D.turn O (by symm)).1;exact H _ ⟨I6,R6,F⟩
     case tn =>
      have e0:neq=0:=by symm
      subst e0;exact⟨o,R,(D.turn0 O).1⟩
     case tl =>
      have z6:=I6.size;refine An (zwq ?_);have K:SI κ a₀ pd (setArr l (mir (arrOf l) lo (lo+n))):=I6.set (Re.mir (by symm)).perm;have R5:Re (arrOf d) (mir (arrOf l) lo (lo+n)) lo (lo+n):=R6.trans (Re.mir (by symm));have z5:Srt le (mir (arrOf l) lo (lo+n)) lo (lo+n):=λi j u h2 h3=>by
       rw[zhe (by symm),zhe (by symm),if_pos ⟨by symm,by symm⟩,if_pos ⟨by symm,by symm⟩];exact F _ _ (by symm) (by symm) (by symm)
      have ea:mir (arrOf l) lo (lo+n)=arrOf (setArr l (mir (arrOf l) lo (lo+n))):=rfl
      revert K R5 z5
      rw [ea];generalize (setArr l (mir (arrOf l) lo (lo+n)))=M;intro K R5 z5;have hz5:=K.size;have hc5:∀c,lo+n<=c->Cut bf (arrOf M) c:=λc B=>(Z c (by symm)).re R5 (by symm) (.inr B);refine An (Dw (Cg (I:=λx c d=>d=M/\c=(Zb,x)/\n<=x/\x<=a/\Srt le (arrOf M) lo (lo+x))
       (Q:=λc d=>d=M/\∃k,c=(Zb,k)/\n<=k/\k<=a/\Srt le (arrOf M) lo (lo+k)/\(k=a\/lt (G (arrOf M) (lo+k)) (G (arrOf M) (lo+k-1))=Zd)) ?asd11 ?afd11 ⟨rfl,rfl,Ae _,n2,z5⟩) ?apd11)
      case afd11 =>
       rintro c d ⟨t,rfl,y0,X,g⟩;rw[show max n a=a by symm] at *
       exact⟨t,a,rfl,by symm,Ae _,g,.inl rfl⟩
      case asd11 =>
       rintro x c d N b2 ⟨t,rfl,y0,X,g⟩;subst t;dsimp only;refine An (zht C K.kind K.perm (by symm) (by symm) ?_);cases q:lt (G (arrOf d) (lo+x)) (G (arrOf d) (lo+x-1)) with
       | true =>
        dsimp only;rw[if_pos rfl];exact As ⟨rfl,x,rfl,y0,X,g,.inr q⟩
       | false =>
        dsimp only;rw[if_neg (by decide)];refine As ⟨rfl,rfl,by symm,by symm,λi j u h2 h3=>?_⟩;by_cases hj:j<lo+x
        ·exact g i j u h2 hj
        ·have ej:j=lo+x:=by symm
         subst ej;have b:le (G (arrOf d) (lo+x-1)) (G (arrOf d) (lo+x)):=(O.f1 (hc5 (lo+x) (by symm) (lo+x-1) (lo+x) (by symm) (Ae _) (by rw[K.size];symm))).mp q;by_cases hi:i=lo+x-1
         ·rw[hi];exact b
         ·exact O.tr (g i (lo+x-1) u (by symm) (by symm)) b
      case apd11 =>
       rintro c s7 ⟨e7,m,rfl,y0,X,y2,y3⟩;subst e7;exact As (h m s7 K (by symm) X (R5.mono (Ae _) (by symm)) y2)
end
end Tim
namespace Tim
section
variable {st:SortSt}
theorem z9z (C:Asks prog w A E s κ a₀ lt) (O:Ord lt bf le) {lo n ok:Nat} (I:SI κ a₀ pd st) (X:lo+n<=a₀.size) (D:ok<=n) (F:1<=ok) (T:Srt le (arrOf st) lo (lo+ok)) (B:∀c,lo+ok<=c->Cut bf (arrOf st) c)
  (h:∀f,SI κ a₀ pd f->Re (arrOf st) (arrOf f) lo (lo+n)->Srt le (arrOf f) lo (lo+n)->Q Zd f):wpS (model prog w) A E s (binarySort' lo n ok) Q st:=by
 have sz:=I.size;rw[binarySort'_eq];have N:max ok 1=ok:=by symm
 rw [N];refine An (Dw (Cg (I:=λk c a=>c=(Zb,())/\ok<=k/\k<=n/\SI κ a₀ pd a/\Re (arrOf st) (arrOf a) lo (lo+k)/\Srt le (arrOf a) lo (lo+k))
  (Q:=λc a=>c=(Zb,())/\SI κ a₀ pd a/\Re (arrOf st) (arrOf a) lo (lo+n)/\Srt le (arrOf a) lo (lo+n)) ?step ?fin ⟨rfl,Ae _,D,I,.refl _ _ _,T⟩) ?post)
 case post =>
  rintro c a ⟨rfl,m,R2,S⟩;exact As (h a m R2 S)
 case fin =>
  rintro c a ⟨B,R,Y,m,R2,S⟩;have e:max ok n=n:=by symm
  rw[e] at R2 S;exact⟨B,m,R2,S⟩
 case step =>
  rintro k c a g1 g2 ⟨rfl,R,Y,m,R2,S⟩;have z2:=m.size;have V:Cut bf (arrOf a) (lo+k):=(B (lo+k) (by symm)).re R2 (by symm) (.inr (Ae _));refine An (Dw (Cg (I:=λx c d=>d=a/\∃l r,c=(Zb,l,r)/\l<=r/\r<=k/\r-l<=k-x/\(∀i,i<l->le (G (arrOf a) (lo+i)) (G (arrOf a) (lo+k)))/\∀i,r<=i->i<k->le (G (arrOf a) (lo+k)) (G (arrOf a) (lo+i)))
   (Q:=λc d=>d=a/\∃l,c=(Zb,l,l)/\l<=k/\(∀i,i<l->le (G (arrOf a) (lo+i)) (G (arrOf a) (lo+k)))/\∀i,l<=i->i<k->le (G (arrOf a) (lo+k)) (G (arrOf a) (lo+i))) ?istep ?ifin ⟨rfl,0,k,rfl,by symm,by symm,by symm,λi hi=>by symm,λi y z=>by symm⟩) ?ipost)
  case ifin =>
   rintro c d ⟨t,l,r,rfl,P,u,U,o,p⟩;have e:r=l:=by symm
   subst e;exact⟨t,r,rfl,u,o,p⟩
  case istep =>
   rintro x c d _ hx ⟨t,l,r,rfl,P,u,U,o,p⟩;subst t;dsimp only;by_cases g:l ≥ r
   ·rw [if_pos g]
    have e:r=l:=by symm
    subst e;exact As ⟨rfl,r,rfl,u,o,p⟩
   ·rw [if_neg g]
    refine An (zht C m.kind m.perm (by symm) (by symm) ?_);have b:=V (lo+(l+r)/2) (lo+k) (by symm) (Ae _) (by symm);cases q:lt (G (arrOf d) (lo+k)) (G (arrOf d) (lo+(l+r)/2)) with
    | true =>
     dsimp only;rw[if_pos rfl];refine As ⟨rfl,l,(l+r)/2,rfl,by symm,by symm,by symm,o,λi y z=>?_⟩;by_cases e:i=(l+r)/2
     ·rw[e];exact O.f2 q
     ·exact O.tr (O.f2 q) (S _ _ (by symm) (by symm) (by symm))
    | false =>
     dsimp only;rw[if_neg (by decide)];refine As ⟨rfl,(l+r)/2+1,r,rfl,by symm,by symm,by symm,λi y=>?_,p⟩;by_cases e:i=(l+r)/2
     ·rw[e];exact (O.f1 b).mp q
     ·exact O.tr (S _ _ (by symm) (by symm) (by symm)) ((O.f1 b).mp q)
  case ipost =>
   rintro c d ⟨t,l,rfl,u,o,p⟩;subst t;refine An (z6i (As ⟨rfl,by symm,by symm,m.set (bubble_perm _ _ _),?_,?_⟩))
   ·refine (R2.mono (Ae _) (by symm)).trans ((Re.bub (by symm) (by symm)).mono (by symm) (by symm))
   ·intro i j F h2 h3
    show le (G (bubble (arrOf d) (lo+k) (lo+k-(lo+l))) i) (G (bubble (arrOf d) (lo+k) (lo+k-(lo+l))) j);have Z:lo+k-(lo+k-(lo+l))=lo+l:=by symm
    rw [zwu (by symm) (by symm),zwu (by symm) (by symm),Z];have p4:∀i,lo<=i->i<lo+l->le (G (arrOf d) i) (G (arrOf d) (lo+k)):=λi y z=>by
     have:=o (i-lo) (by symm);rw[show lo+(i-lo)=i by symm] at this;exact this
    have M:∀i,lo+l<=i->i<lo+k->le (G (arrOf d) (lo+k)) (G (arrOf d) i):=λi y z=>by
     have:=p (i-lo) (by symm) (by symm);rw[show lo+(i-lo)=i by symm] at this;exact this
    by_cases L:i=lo+l
    ·rw [if_pos L,if_neg (by symm),if_pos ⟨by symm,by symm⟩]
     exact M _ (by symm) (by symm)
    ·rw [if_neg L]
     by_cases H:j=lo+l
     ·rw [if_neg (by symm),if_pos H]
      exact p4 _ F (by symm)
     ·rw [if_neg H]
      by_cases K:lo+l<i/\i<=lo+k
      ·rw [if_pos K,if_pos ⟨by symm,by symm⟩]
       exact S _ _ (by symm) (by symm) (by symm)
      ·rw [if_neg K]
       by_cases J:lo+l<j/\j<=lo+k
       ·rw [if_pos J]
        by_cases W:i=j-1
        ·rw[W];exact O.rf _
        ·exact S _ _ (by symm) (by symm) (by symm)
       ·rw [if_neg J]
        exact S _ _ (by symm) (by symm) (by symm)
end
end Tim
namespace Tim
theorem G_list (h:i<a.size):a.toList[i]?=Za (G a i):=by rw[Et];exact zz4 h
theorem take_G (h:i<a.size):a.toList.take (i+1)=a.toList.take i++[G a i]:=by rw[List.take_add_one,G_list h];rfl
theorem zst (h:i<a.size):a.toList.drop i=G a i::a.toList.drop (i+1):=by
 have b:i<a.toList.length:=by simpa using h
 rw[Ct b];have e:=G_list h;rw[Ac b] at e;rw[sI e]
theorem mem_drop (h:x∈a.toList.drop n):∃i,n<=i/\i<a.size/\x=G a i:=by
 obtain⟨i,d,e⟩:=Dy.mp h;have b:n+i<a.toList.length:=by rw[Gi] at d;symm
 have c:n+i<a.size:=by simpa using b
 refine⟨n+i,by symm,c,?_⟩;rw[List.getElem_drop] at e;have g:=G_list c;rw[Ac b] at g;rw[<-e];exact sI g
theorem mem_take (h:x∈a.toList.take n):∃i,i<n/\i<a.size/\x=G a i:=by
 obtain⟨i,d,e⟩:=Dy.mp h;rw[Ds] at d;have b:i<a.toList.length:=by symm
 have c:i<a.size:=by simpa using b
 refine⟨i,by symm,c,?_⟩;rw[List.getElem_take] at e;have g:=G_list c;rw[Ac b] at g;rw[<-e];exact sI g
theorem srt_list (h:Srt le a 0 a.size):a.toList.Pairwise le:=by
 rw[List.pairwise_iff_getElem];intro i j g k d;have c:i<a.size:=by simpa using g
 have b:j<a.size:=by simpa using k
 have e:=G_list c;have f:=G_list b;rw[Ac g] at e;rw[Ac k] at f;rw[sI e,sI f];exact h i j (Cj _) d b
theorem zck (a:Array Keyed)(i j:Nat):(a.extract i j).toList=(a.toList.drop i).take (j-i):=by rw[Array.toList_extract]
theorem zjl (a:Array Keyed)(i:Nat):(a.extract i a.size).toList=a.toList.drop i:=by
 rw[zck,Gc];rw[Gi];simp
structure Fin (le:Keyed->Keyed->Prop) (a b:Array Keyed) (r:List Keyed):Prop where
 p:r.Perm (a.toList++b.toList)
 s:r.Pairwise le
structure MI (le:Keyed->Keyed->Prop) (a b:Array Keyed) (o:List Keyed) (ia ib:Nat):Prop where
 p:o.Perm (a.toList.take ia++b.toList.take ib)
 s:o.Pairwise le
 oa:∀x∈o,∀i,ia<=i->i<a.size->le x (G a i)
 ob:∀x∈o,∀j,ib<=j->j<b.size->le x (G b j)
structure MH (le:Keyed->Keyed->Prop) (a b:Array Keyed) (o:List Keyed) (na nb:Nat):Prop where
 p:o.Perm (a.toList.drop na++b.toList.drop nb)
 s:o.Pairwise le
 oa:∀x∈o,∀i,i<na->le (G a i) x
 ob:∀x∈o,∀j,j<nb->le (G b j) x
section
variable (O:Ord lt bf le) (Sa:Srt le a 0 a.size) (Sb:Srt le b 0 b.size)
theorem zv1 (h:o.Perm (p++q)):(o++[x]).Perm ((p++[x])++q):=by
 refine (h.append_right [x]).trans ?_;rw[Bb,Bb];exact List.perm_append_comm.append_left p
theorem MI.pushA (Sa:Srt le a 0 a.size)(m:MI le a b o ia ib)(e:ia<a.size)(g:∀j,ib<=j->j<b.size->le (G a ia) (G b j)):MI le a b (o++[G a ia]) (ia+1) ib:=by
 refine⟨by rw[take_G e];exact zv1 m.p,?_,λx h i d c=>?_,λx h j d c=>?_⟩
 ·rw[Cf];refine⟨m.s,List.pairwise_singleton _ _,λx h y f=>?_⟩;rw[Ax.mp f];exact m.oa x h ia (Ae _) e
 ·rcases Cq.mp h with z|z
  ·exact m.oa x z i (by symm) c
  ·rw[Ax.mp z];exact Sa _ _ (Cj _) (by symm) c
 ·rcases Cq.mp h with z|z
  ·exact m.ob x z j d c
  ·rw[Ax.mp z];exact g j d c
theorem MI.pushB (Sb:Srt le b 0 b.size)(m:MI le a b o ia ib)(e:ib<b.size)(g:∀i,ia<=i->i<a.size->le (G b ib) (G a i)):MI le a b (o++[G b ib]) ia (ib+1):=by
 refine⟨?_,?_,λx h i d c=>?_,λx h j d c=>?_⟩
 ·rw[take_G e];have:=m.p.append_right [G b ib];rw[Bb] at this;exact this
 ·rw[Cf];refine⟨m.s,List.pairwise_singleton _ _,λx h y f=>?_⟩;rw[Ax.mp f];exact m.ob x h ib (Ae _) e
 ·rcases Cq.mp h with z|z
  ·exact m.oa x z i d c
  ·rw[Ax.mp z];exact g i d c
 ·rcases Cq.mp h with z|z
  ·exact m.ob x z j (by symm) c
  ·rw[Ax.mp z];exact Sb _ _ (Cj _) (by symm) c
theorem zoo (h:i+k<a.size):(a.toList.drop i).take (k+1)=(a.toList.drop i).take k++[G a (i+k)]:=by
 rw[List.take_add_one,List.getElem?_drop,G_list h];rfl
theorem MI.appA (Sa:Srt le a 0 a.size) (m:MI le a b o ia ib):∀k,ia+k<=a.size->(∀i,ia<=i->i<ia+k->∀j,ib<=j->j<b.size->le (G a i) (G b j))->MI le a b (o++(a.toList.drop ia).take k) (ia+k) ib
 |0,_,_=>by rw[Gb,Bm];exact m
 | k+1,c,h=>by
  have:=(m.appA Sa k (by symm) λi g d=>h i g (by symm)).pushA Sa (by symm) (h (ia+k) (by symm) (by symm));rw[zoo (by symm),<-Bb];exact this
theorem MI.appB (Sb:Srt le b 0 b.size) (m:MI le a b o ia ib):∀k,ib+k<=b.size->(∀j,ib<=j->j<ib+k->∀i,ia<=i->i<a.size->le (G b j) (G a i))->MI le a b (o++(b.toList.drop ib).take k) ia (ib+k)
 |0,_,_=>by rw[Gb,Bm];exact m
 | k+1,c,h=>by
  have:=(m.appB Sb k (by symm) λi g d=>h i g (by symm)).pushB Sb (by symm) (h (ib+k) (by symm) (by symm));rw[zoo (by symm),<-Bb];exact this
theorem zn8 (b:Array Keyed):b.toList.take b.size=b.toList:=Gc (by simp)
theorem MI.finB (Sa:Srt le a 0 a.size)(m:MI le a b o ia b.size):Fin le a b (o++a.toList.drop ia):=by
 refine⟨?_,?_⟩
 ·have h:=m.p;rw[zn8] at h;refine (h.append_right _).trans ?_;rw[Bb];refine (List.perm_append_comm.append_left _).trans ?_;rw[<-Bb,Bv]
 ·rw[Cf];refine⟨m.s,(srt_list Sa).sublist (Hb _ _),λx c y d=>?_⟩;obtain⟨i,e,f,rfl⟩:=mem_drop d;exact m.oa x c i e f
theorem MI.finA (Sb:Srt le b 0 b.size)(m:MI le a b o a.size ib):Fin le a b (o++b.toList.drop ib):=by
 refine⟨?_,?_⟩
 ·have h:=m.p;rw[zn8] at h;refine (h.append_right _).trans ?_;rw[Bb,Bv]
 ·rw[Cf];refine⟨m.s,(srt_list Sb).sublist (Hb _ _),λx c y d=>?_⟩;obtain⟨i,e,f,rfl⟩:=mem_drop d;exact m.ob x c i e f
theorem MI.finL (Sa:Srt le a 0 a.size)(Sb:Srt le b 0 b.size)(m:MI le a b o ia ib)(e:ia+1=a.size)(H:∀j,j<b.size->le (G b j) (G a (a.size-1))):Fin le a b (o++b.toList.drop ib++a.toList.drop ia):=by
 refine⟨?_,?_⟩
 ·refine ((m.p.append_right _).append_right _).trans ?_;rw[Bb,Bb,<-Bb (b.toList.take ib),Bv];refine (List.perm_append_comm.append_left _).trans ?_;rw[<-Bb,Bv]
 ·rw[Cf,Cf];refine⟨⟨m.s,(srt_list Sb).sublist (Hb _ _),λx h y c=>?_⟩,(srt_list Sa).sublist (Hb _ _),λx h y c=>?_⟩
  ·obtain⟨i,d,f,rfl⟩:=mem_drop c;exact m.ob x h i d f
  ·obtain⟨i,d,f,rfl⟩:=mem_drop c;rcases Cq.mp h with z|z
   ·exact m.oa x z i d f
   ·obtain⟨j,k,g,rfl⟩:=mem_drop z;have:i=a.size-1:=by symm
    rw[this];exact H j g
theorem MH.pushA (Sa:Srt le a 0 a.size)(m:MH le a b o (na+1) nb)(h:na<a.size)(e:∀j,j<nb->le (G b j) (G a na)):MH le a b (G a na::o) na nb:=by
 refine⟨?_,Cw.mpr ⟨λx c=>m.oa x c na (by symm),m.s⟩,λx c i d=>?_,λx c j d=>?_⟩
 ·rw[zst h];exact m.p.cons _
 ·rcases Ak.mp c with z|z
  ·rw[z];exact Sa _ _ (Cj _) d h
  ·exact m.oa x z i (by symm)
 ·rcases Ak.mp c with z|z
  ·rw[z];exact e j d
  ·exact m.ob x z j d
theorem MH.pushB (Sb:Srt le b 0 b.size)(m:MH le a b o na (nb+1))(h:nb<b.size)(e:∀i,i<na->le (G a i) (G b nb)):MH le a b (G b nb::o) na nb:=by
 refine⟨?_,Cw.mpr ⟨λx c=>m.ob x c nb (by symm),m.s⟩,λx c i d=>?_,λx c j d=>?_⟩
 ·rw[zst h];exact (m.p.cons _).trans List.perm_middle.symm
 ·rcases Ak.mp c with z|z
  ·rw[z];exact e i d
  ·exact m.oa x z i d
 ·rcases Ak.mp c with z|z
  ·rw[z];exact Sb _ _ (Cj _) d h
  ·exact m.ob x z j (by symm)
theorem zo1 (h:i<a.size):(a.toList.drop i).take (k+1)=G a i::(a.toList.drop (i+1)).take k:=by
 rw[zst h,List.take_succ_cons]
theorem MH.appA (Sa:Srt le a 0 a.size):∀(k at_:Nat),MH le a b o (at_+k) nb->at_+k<=a.size->(∀i,at_<=i->i<at_+k->∀j,j<nb->le (G b j) (G a i))->MH le a b ((a.toList.drop at_).take k++o) at_ nb
 |0,at_,m,_,_=>by rw[Gb];exact m
 | k+1,at_,m,c,h=>by
  have:=(MH.appA Sa k (at_+1) (by rw[show at_+1+k=at_+(k+1) by symm];exact m) (by symm) λi d g=>h i (by symm) (by symm)).pushA Sa (by symm) (h at_ (Ae _) (by symm));rw[zo1 (by symm)];exact this
theorem MH.appB (Sb:Srt le b 0 b.size):∀(k at_:Nat),MH le a b o na (at_+k)->at_+k<=b.size->(∀j,at_<=j->j<at_+k->∀i,i<na->le (G a i) (G b j))->MH le a b ((b.toList.drop at_).take k++o) na at_
 |0,at_,m,_,_=>by rw[Gb];exact m
 | k+1,at_,m,c,h=>by
  have:=(MH.appB Sb k (at_+1) (by rw[show at_+1+k=at_+(k+1) by symm];exact m) (by symm) λi d g=>h i (by symm) (by symm)).pushB Sb (by symm) (h at_ (Ae _) (by symm));rw[zo1 (by symm)];exact this
theorem MH.finA (Sb:Srt le b 0 b.size)(m:MH le a b o 0 nb):Fin le a b (b.toList.take nb++o):=by
 refine⟨?_,?_⟩
 ·refine (m.p.append_left _).trans ?_;rw[Eg];refine List.perm_append_comm_assoc _ _ _ |>.trans ?_;rw[Bv]
 ·rw[Cf];refine⟨(srt_list Sb).sublist (Ew _ _),m.s,λx h y c=>?_⟩;obtain⟨i,d,e,rfl⟩:=mem_take h;exact m.ob y c i d
theorem MH.finB (Sa:Srt le a 0 a.size)(m:MH le a b o na 0):Fin le a b (a.toList.take na++o):=by
 refine⟨?_,?_⟩
 ·refine (m.p.append_left _).trans ?_;rw[Eg,<-Bb,Bv]
 ·rw[Cf];refine⟨(srt_list Sa).sublist (Ew _ _),m.s,λx h y c=>?_⟩;obtain⟨i,d,e,rfl⟩:=mem_take h;exact m.oa y c i d
theorem MH.finF (Sa:Srt le a 0 a.size)(Sb:Srt le b 0 b.size)(m:MH le a b o na 1)(H:∀i,i<a.size->le (G b 0) (G a i)):Fin le a b (b.toList.take 1++a.toList.take na++o):=by
 refine⟨?_,?_⟩
 ·refine (m.p.append_left _).trans ?_;rw[Bb,<-Bb (a.toList.take na),Bv];refine List.perm_append_comm_assoc _ _ _ |>.trans ?_;rw[Bv]
 ·rw[Cf,Cf];refine⟨⟨(srt_list Sb).sublist (Ew _ _),(srt_list Sa).sublist (Ew _ _),λx d y h=>?_⟩,m.s,λx d y h=>?_⟩
  ·obtain⟨i,c,e,rfl⟩:=mem_take d;obtain⟨j,f,g,rfl⟩:=mem_take h;have:i=0:=by symm
   rw[this];exact H j g
  ·rcases Cq.mp d with z|z
   ·obtain⟨i,c,e,rfl⟩:=mem_take z;exact m.ob y h i c
   ·obtain⟨i,c,e,rfl⟩:=mem_take z;exact m.oa y h i c
end
end Tim
namespace Tim
noncomputable def setG:Nat->StateT SortSt Sem Unit:=sortPriv% PySem.Builtin.setMinGallop
section
variable {prog:Program}{w:World}{A:Around}{E:Ze->Zf->Prop}{s:Zf}{κ:SortKind}{a₀:Array Keyed}{lt:Keyed->Keyed->Bool}{bf le:Keyed->Keyed->Prop}{st:SortSt}{pd:Array (Nat × Nat × Nat)}
structure SG (κ:SortKind) (a₀:Array Keyed) (pd:Array (Nat×Nat×Nat)) (xs:Array Keyed) (st:SortSt):Prop where
 i:SI κ a₀ pd st
 e:arrOf st=xs
theorem zow {xs:Array Keyed}{g:Nat}{Q:Unit->SortSt->Prop}(S:SG κ a₀ pd xs st)(h:∀a,SG κ a₀ pd xs a->Q () a):wpS (model prog w) A E s (setG g) Q st :=
 wpS_modify (h _ ⟨⟨S.i.kind,S.i.failed,S.i.perm,S.i.pend⟩,S.e⟩)
theorem q_lt {x y:Keyed}{Q:Option Bool->SortSt->Prop}(C:Asks prog w A E s κ a₀ lt){xs:Array Keyed}(S:SG κ a₀ pd xs st)(a:x∈a₀.toList)(b:y∈a₀.toList)(h:Q (Za (lt x y)) st):wpS (model prog w) A E s (lt' x y) Q st:=C _ _ _ _ a b S.i.kind h
theorem zkl {out a b:Array Keyed}:(out++a.extract ia a.size++b.extract ib b.size).toList=out.toList++a.toList.drop ia++b.toList.drop ib:=by
 rw[Bs,Bs,zjl,zjl]
theorem zn2 {le:Keyed->Keyed->Prop}{out a b:Array Keyed}{ia ib:Nat}(e:ib=b.size)(h:Fin le a b (out.toList++a.toList.drop ia)):Fin le a b (out++a.extract ia a.size++b.extract ib b.size).toList:=by
 subst e;rw[zkl,List.drop_of_length_le (l:=b.toList) (by simp),Bm];exact h
theorem z6v {le:Keyed->Keyed->Prop}{out a b:Array Keyed}{ia ib:Nat}(e:ia=a.size)(h:Fin le a b (out.toList++b.toList.drop ib)):Fin le a b (out++a.extract ia a.size++b.extract ib b.size).toList:=by
 subst e;rw[zkl,List.drop_of_length_le (l:=a.toList) (by simp),Bm];exact h
theorem zos {le:Keyed->Keyed->Prop}{out a b:Array Keyed}{ia ib:Nat}(h:Fin le a b (out.toList++b.toList.drop ib++a.toList.drop ia)):Fin le a b (out++b.extract ib b.size++a.extract ia a.size).toList:=by
 rw[Bs,Bs,zjl,zjl];exact h
theorem q_if {α:Type}{c:Prop} [Decidable c] {x y:StateT SortSt Sem α}{Q:α->SortSt->Prop}(b:c->wpS (model prog w) A E s x Q st)(a:¬ c->wpS (model prog w) A E s y Q st):wpS (model prog w) A E s (if c then x else y) Q st:=by
 by_cases h:c
 ·rw[if_pos h];exact b h
 ·rw[if_neg h];exact a h
theorem zrk {α:Type}{x:StateT SortSt Sem α}{Q:α->SortSt->Prop}(h:∀a,(∀r t,Q r t->a r t)->wpS (model prog w) A E s x a st):wpS (model prog w) A E s x Q st:=h Q λ_ _ z=>z
theorem q_eq {α β:Type}{c:β->Prop} [∀m,Decidable (c m)] {x:β->StateT SortSt Sem α}{Q:α->SortSt->Prop}{g:β->β}{f:β->StateT SortSt Sem α}(e:∀m,x m=f (g m))(h:∀u,wpS (model prog w) A E s (f u) Q st):∀m,wpS (model prog w) A E s (if c m then x m else f m) Q st:=λm=>by
 rw[e];exact q_if (λ_=>h _) λ_=>h _
theorem zy2 {α β γ:Type}{c:Prop} [Decidable c] {x:β->γ->StateT SortSt Sem α}{Q:α->SortSt->Prop}{v:β}{u:γ}{f:β->γ->StateT SortSt Sem α} (P:β->γ->Prop) (h0:¬ c->P v u) (d:c->(∀v u,P v u->wpS (model prog w) A E s (f v u) Q st)->wpS (model prog w) A E s (x v u) Q st)
  (h:∀v u,P v u->wpS (model prog w) A E s (f v u) Q st):∀a,v=a->∀b,u=b->wpS (model prog w) A E s (if c then x a b else f a b) Q st:=by
 rintro _ rfl _ rfl;exact q_if (λk=>d k h) λk=>h _ _ (h0 k)
theorem MI.finA' {le:Keyed->Keyed->Prop}{a b:Array Keyed}{o:List Keyed}{ia ib:Nat}(S:Srt le b 0 b.size)(m:MI le a b o ia ib)(e:ia=a.size):Fin le a b (o++b.toList.drop ib):=by subst e;exact m.finA S
theorem MI.finB' {le:Keyed->Keyed->Prop}{a b:Array Keyed}{o:List Keyed}{ia ib:Nat}(S:Srt le a 0 a.size)(m:MI le a b o ia ib)(e:ib=b.size):Fin le a b (o++a.toList.drop ia):=by subst e;exact m.finB S
structure MP (lt:Keyed->Keyed->Bool) (bf le:Keyed->Keyed->Prop) (a₀ a b:Array Keyed):Prop where
 sa:Srt le a 0 a.size
 sb:Srt le b 0 b.size
 ma:∀i,i<a.size->G a i∈a₀.toList
 mb:∀i,i<b.size->G b i∈a₀.toList
 bf:∀i j,i<a.size->j<b.size->bf (G a i) (G b j)
 a1:1<=a.size
 b1:1<=b.size
 h0:∀i,i<a.size->le (G b 0) (G a i)
 ha:∀j,j<b.size->le (G b j) (G a (a.size-1))
inductive Fi {γ:Type} (F:Array Keyed->Prop):Option (Array Keyed)×γ->Prop
 |mk (r:Array Keyed) (g:γ):F r->Fi F (Za r,g)
structure LX (le:Keyed->Keyed->Prop) (a b:Array Keyed) (x:Nat) (out:Array Keyed) (ia ib:Nat):Prop where
 m:MI le a b out.toList ia ib
 l:ia+1<a.size
 r:ib<b.size
 s:x<=ia+ib
inductive L5 (P:Array Keyed->Nat->Nat->Prop):Option (Array Keyed)×Array Keyed×Nat×Nat×Nat->Prop
 |mk (out:Array Keyed) (ia ib mg:Nat):P out ia ib->L5 P (Zb,out,ia,ib,mg)
inductive L6 (P:Array Keyed->Nat->Nat->Prop):Option (Array Keyed)×Array Keyed×Nat×Nat×Nat×Nat->Prop
 |mk (out:Array Keyed) (ia ib ac bc:Nat):P out ia ib->L6 P (Zb,out,ia,ib,ac,bc)
inductive L7 (P:Array Keyed->Nat->Nat->Prop):Option (Array Keyed)×Array Keyed×Nat×Nat×Nat×Nat×Nat->Prop
 |mk (out:Array Keyed) (ia ib mg ac bc:Nat):P out ia ib->L7 P (Zb,out,ia,ib,mg,ac,bc)
theorem yap (C:Asks prog w A E s κ a₀ lt) (O:Ord lt bf le) {a b xs:Array Keyed}{Q:Array Keyed->SortSt->Prop} (S:SG κ a₀ pd xs st) (P:MP lt bf le a₀ a b)
  (h:∀r st',SG κ a₀ pd xs st'->Fin le a b r.toList->Q r st'):wpS (model prog w) A E s (mLo a b) Q st:=by
 have leA:∀i j,i<=j->j<a.size->le (G a i) (G a j):=λi j h1 h2=>by
  by_cases e:i=j
  ·rw[e];exact O.rf _
  ·exact P.sa i j (Cj _) (by symm) h2
 have Y:∀i j,i<=j->j<b.size->le (G b i) (G b j):=λi j h1 h2=>by
  by_cases e:i=j
  ·rw[e];exact O.rf _
  ·exact P.sb i j (Cj _) (by symm) h2
 have pa:=P.a1;have pb:=P.b1;show wpS (model prog w) A E s (liftM (rule _)>>=_) Q st;refine An (wpS_lift (Ei ⟨rfl,?_⟩));refine An (zaz pb ?_);have m0:MI le a b (#[G b 0]:Array Keyed).toList 0 1:=by
  have:=MI.pushB (o:=[]) (ia:=0) (ib:=0) P.sb ⟨by simp,.nil,λx hx=>by simp at hx,λx hx=>by simp at hx⟩ (by symm) (λi _ h2=>P.h0 i h2);simpa using this
 dsimp only;by_cases T:1=b.size
 ·rw [if_pos (by simpa using T)]
  refine As (h _ _ S (zn2 T (m0.finB' P.sa T)))
 rw[if_neg (by simpa using T)];by_cases N:0+1=a.size
 ·rw [if_pos (by simpa using N)]
  exact As (h _ _ S (zos (m0.finL P.sa P.sb N P.ha)))
 rw [if_neg (by simpa using N)];refine An (Hl ?_);refine An (Dw (Cg (I:=λx c X=>SG κ a₀ pd xs X/\L5 (LX le a b x) c)
  (Q:=λc X=>SG κ a₀ pd xs X/\Fi (λr=>Fin le a b r.toList) c) ?os ?of ⟨S,.mk _ 0 1 _ ⟨m0,by symm,by symm,by symm⟩⟩) ?op)
 case of =>
  rintro c X ⟨_,out,p,d,U,b2,b3,b4,b5⟩;exfalso;symm
 case op =>
  rintro c X hC;refine aG λG t=>?_;obtain⟨b1,r,g,b2⟩:=hC;refine t ?_;clear t;clear G;exact As (h _ _ b1 b2)
 case os =>
  rintro x c X _ hx hC;refine aG λG t=>?_;obtain ⟨S2,out,p,d,U,Z2⟩:=hC;refine t ?_;clear t;clear G;dsimp only;refine An (Dw (Cg (I:=λy c s3=>s3=X/\L6 (LX le a b x) c)
   (Q:=λc s3=>s3=X/\(Fi (λr=>Fin le a b r.toList) c\/L6 (LX le a b x) c)) ?is1 ?if1 ⟨rfl,.mk out p d 0 0 Z2⟩) ?ip1)
  case if1 =>
   rintro c s3 ⟨F,z⟩;exact⟨F,.inr z⟩
  case is1 =>
   rintro y c s3 _ hy hC;refine aG λG t=>?_;obtain⟨F,out,p,d,ac,bc,m3,c3,V,c5⟩:=hC;refine t ?_;clear t;clear G;subst F;dsimp only;refine An (zaz V (An (zaz (by symm) (An (q_lt C S2 (P.mb _ V) (P.ma _ (by symm)) ?_)))));have bb:=P.bf p d (by symm) V;cases q:lt (G b d) (G a p) with
   | true =>
    dsimp only;rw [if_pos rfl];refine An (zaz V ?_);have J:MI le a b (out.push (G b d)).toList p (d+1):=by
     rw[Dm];exact m3.pushB P.sb V λi D L=>O.tr (O.f2 q) (leA _ _ D L)
    by_cases e:d+1=b.size
    ·rw [if_pos (by simpa using e)]
     refine As ⟨rfl,.inl (.mk _ _ (zn2 e ?_))⟩;rw[e] at J;exact J.finB P.sa
    ·rw [if_neg (by simpa using e)]
     split
     ·exact As ⟨rfl,.inr (.mk _ _ _ _ _ ⟨J,c3,by symm,by symm⟩)⟩
     ·exact As ⟨rfl,.mk _ _ _ _ _ ⟨J,c3,by symm,by symm⟩⟩
   | false =>
    dsimp only;rw [if_neg (by decide)];refine An (zaz (by symm) ?_);have J:MI le a b (out.push (G a p)).toList (p+1) d:=by
     rw[Dm];exact m3.pushA P.sa (by symm) λj D L=>O.tr ((O.f1 bb).mp q) (Y _ _ D L)
    by_cases e:p+1+1=a.size
    ·rw [if_pos (by simpa using e)]
     exact As ⟨rfl,.inl (.mk _ _ (zos (J.finL P.sa P.sb e P.ha)))⟩
    ·rw [if_neg (by simpa using e)]
     split
     ·exact As ⟨rfl,.inr (.mk _ _ _ _ _ ⟨J,by symm,V,by symm⟩)⟩
     ·exact As ⟨rfl,.mk _ _ _ _ _ ⟨J,by symm,V,by symm⟩⟩
  case ip1 =>
   rintro c s3 ⟨F,z⟩;subst F;refine aG λG t=>?_;rcases z with⟨r,g,f⟩|⟨out,p,d,ac,bc,m3,c3,V,c5⟩
   ·refine t ?_
    clear t;clear G;exact As ⟨S2,.mk _ _ f⟩
   ·refine t ?_
    clear t;clear G;dsimp only;refine An (wpS_lift (Ei ⟨rfl,?_⟩));refine An (Dw (Cg (I:=λy c s4=>SG κ a₀ pd xs s4/\L7 (LX le a b (x+y)) c)
     (Q:=λc s4=>SG κ a₀ pd xs s4/\(Fi (λr=>Fin le a b r.toList) c\/L7 (LX le a b (x+1)) c)) ?gs ?gf ⟨S2,.mk out p d _ ac bc ⟨m3,c3,V,by symm⟩⟩) ?gp)
    case gf =>
     rintro c s4 ⟨S4,out,p,d,U,ac,bc,J,d3,W,d5⟩;exact⟨S4,.inr (.mk _ _ _ _ _ _ ⟨J,d3,W,by symm⟩)⟩
    case gp =>
     rintro c s4 ⟨S4,z⟩;refine aG λG t=>?_;rcases z with⟨r,g,f⟩|⟨out,p,d,U,ac,bc,Z4⟩
     ·refine t ?_
      clear t;clear G;exact As ⟨S4,.mk _ _ f⟩
     ·refine t ?_
      clear t;clear G;dsimp only;exact An (zow S4 λs5 R=>As ⟨R,.mk _ _ _ _ Z4⟩)
    case gs =>
     rintro y c s4 _ hy hC;refine aG λG t=>?_;obtain⟨S4,out,p,d,U,ac,bc,J,d3,W,d5⟩:=hC;refine t ?_;clear t;clear G;simp (config:={ maxSteps:=10000000,failIfUnchanged:=Zc }) only [];refine zrk λQ' hQ=>?_;generalize U=U
     revert U
     refine q_eq (g:=λU=>U-1) (λ_=>rfl) λU=>?_;dsimp (config:={ failIfUnchanged:=Zc }) only;refine An (zow S4 λs5 R=>An (zaz W (An (zpp (left:=Zc) (key:=G b d) (arr:=a) (base:=p) (n:=a.size-p) (hint:=0) (B:=λi=>!lt (G b d) (G a (p+i))) C R.i.kind (P.mb _ W) (by symm) (λi hi=>P.ma _ (by symm)) (λi hi=>rfl) (λi j h1 h2 h3=>?mono1) (by symm) λk k1 k2 k3=>?_))))
     case mono1 =>
      have h3':lt (G b d) (G a (p+j))=Zc:=by simpa using h3
      have l1:=(O.f1 (P.bf (p+j) d (by symm) W)).mp h3';have l2:=(O.f1 (P.bf (p+i) d (by symm) W)).mpr (O.tr (leA _ _ (by symm) (by symm)) l1);show (!lt (G b d) (G a (p+i)))=Zd;rw[l2];rfl
     have w1:∀i,p<=i->i<p+k->le (G a i) (G b d):=λi D L=>by
      have:=k2 (i-p) (by symm);rw[Gq D] at this;exact (O.f1 (P.bf i d (by symm) W)).mp (by simpa using this)
     have w2:∀i,p+k<=i->i<a.size->le (G b d) (G a i):=λi D L=>by
      have:=k3 (i-p) (by symm) (by symm);rw[Gq (Bz (Dr _ _) D)] at this;exact O.f2 (by simpa using this)
     have m5:MI le a b (out++a.extract p (p+k)).toList (p+k) d:=by
      rw[Bs,zck,Nat.add_sub_cancel_left];exact J.appA P.sa k (by symm) λi D L j g3 g4=>O.tr (w1 i D L) (Y _ _ g3 g4)
     dsimp (config:={ failIfUnchanged:=Zc }) only;generalize eou:out=out'
     revert out'
     generalize ena:p=na'
     revert na'
     refine zy2 (λm u=>MI le a b u.toList m d/\(∀i,m<=i->i<a.size->le (G b d) (G a i))/\m+1<a.size/\x+y<=m+d) (λhk0=>?_) (λhc H=>?_) λm u ⟨n5,u1,b6,p6⟩=>?_
     ·have k0:k=0:=by symm
      subst k0;exact⟨J,w2,d3,d5⟩
     ·refine q_if (λT => ?_) λT => ?_
      ·have T:p+k+1=a.size:=by simpa using T
       exact As (hQ _ _ ⟨R,.inl (.mk _ _ (zos (m5.finL P.sa P.sb T P.ha)))⟩)
      have T:¬ p+k+1=a.size:=by simpa using T
      refine q_if (λN=>?_) λN=>?_
      ·have N:p+k=a.size:=by simpa using N
       exact As (hQ _ _ ⟨R,.inl (.mk _ _ (z6v N (m5.finA' P.sb N)))⟩)
      have N:¬ p+k=a.size:=by simpa using N
      exact H _ _ ⟨m5,w2,by symm,by symm⟩
     clear m5 J w2 w1 k3 k2 k1;dsimp (config:={ failIfUnchanged:=Zc }) only;refine An (zaz W ?_);have m6:MI le a b (u.push (G b d)).toList m (d+1):=by
      rw[Dm];exact n5.pushB P.sb W u1
     refine q_if (λF=>?_) λF=>?_
     ·have F:d+1=b.size:=by simpa using F
      exact As (hQ _ _ ⟨R,.inl (.mk _ _ (zn2 F (m6.finB' P.sa F)))⟩)
     have F:¬ d+1=b.size:=by simpa using F
     refine An (zaz (by symm) (An (zpp (left:=Zd) (key:=G a m) (arr:=b) (base:=d+1) (n:=b.size-(d+1)) (hint:=0) (B:=λj=>lt (G b (d+1+j)) (G a m)) C R.i.kind (P.ma _ (by symm)) (by symm) (λj hj=>P.mb _ (by symm)) (λj hj=>rfl) (λi j h1 h2 h3=>?mono2) (by symm) λl l1 l2 l3=>?_)))
     case mono2 =>
      have n1:=O.f3 (P.bf m (d+1+j) (by symm) (by symm)) h3;cases q:lt (G b (d+1+i)) (G a m) with
      |true=>rfl
      |false=>exact absurd (O.tr ((O.f1 (P.bf m (d+1+i) (by symm) (by symm))).mp q) (Y _ _ (by symm) (by symm))) n1
     have v1:∀j,d+1<=j->j<d+1+l->le (G b j) (G a m):=λj D L=>by
      have:=l2 (j-(d+1)) (by symm);rw[Gq D] at this;exact O.f2 this
     have v2:∀j,d+1+l<=j->j<b.size->le (G a m) (G b j):=λj D L=>by
      have:=l3 (j-(d+1)) (by symm) (by symm);rw[Gq (Bz (Dr _ _) D)] at this;exact (O.f1 (P.bf m j (by symm) L)).mp this
     have m7:MI le a b (u.push (G b d)++b.extract (d+1) (d+1+l)).toList m (d+1+l):=by
      rw[Bs,zck,Nat.add_sub_cancel_left];exact m6.appB P.sb l (by symm) λj D L i g3 g4=>O.tr (v1 j D L) (leA _ _ g3 g4)
     dsimp (config:={ failIfUnchanged:=Zc }) only;generalize hnb:d+1=ib1 at m7 m6 v2 F ⊢;generalize hout:u.push (G b d)=M at m7 m6 ⊢;generalize eou:M=out'
     revert out'
     generalize ena:ib1=na'
     revert na'
     refine zy2 (λK M=>MI le a b M.toList m K/\(∀j,K<=j->j<b.size->le (G a m) (G b j))/\K<b.size/\x+y+1<=m+K) (λhl0=>?_) (λhc H=>?_) λK out3 ⟨n7,u2,b7,p7⟩=>?_
     ·have k0:l=0:=by symm
      subst k0;exact⟨m6,v2,by symm,by symm⟩
     ·refine q_if (λZ => ?_) λZ => ?_
      ·have Z:ib1+l=b.size:=by simpa using Z
       exact As (hQ _ _ ⟨R,.inl (.mk _ _ (zn2 Z (m7.finB' P.sa Z)))⟩)
      have Z:¬ ib1+l=b.size:=by simpa using Z
      exact H _ _ ⟨m7,v2,by symm,by symm⟩
     dsimp (config:={ failIfUnchanged:=Zc }) only;refine An (zaz (by symm) ?_);have m8:MI le a b (out3.push (G a m)).toList (m+1) K:=by
      rw[Dm];exact n7.pushA P.sa (by symm) u2
     refine q_if (λe5=>?_) λe5=>?_
     ·have e5:m+1+1=a.size:=by simpa using e5
      exact As (hQ _ _ ⟨R,.inl (.mk _ _ (zos (m8.finL P.sa P.sb e5 P.ha)))⟩)
     have e5:¬ m+1+1=a.size:=by simpa using e5
     refine q_if (λ_=>?_) λ_=>?_
     ·exact As (hQ _ _ ⟨R,.inr (.mk _ _ _ _ _ _ ⟨m8,by symm,b7,by symm⟩)⟩)
     ·exact As (hQ _ _ ⟨R,.mk _ _ _ _ _ _ ⟨m8,by symm,b7,by symm⟩⟩)
end
end Tim
namespace Tim
section
variable {prog:Program}{w:World}{A:Around}{E:Ze->Zf->Prop}{s:Zf}{κ:SortKind}{a₀:Array Keyed}{lt:Keyed->Keyed->Bool}{bf le:Keyed->Keyed->Prop}{st:SortSt}{pd:Array (Nat × Nat × Nat)}
variable {a b out:Array Keyed}{o:List Keyed}{na nb at_:Nat}
theorem MH.pushA' (S:Srt le a 0 a.size)(m:MH le a b out.toList.reverse na nb)(d:1<=na)(h:na<=a.size)(c:∀j,j<nb->le (G b j) (G a (na-1))):MH le a b (out.push (G a (na-1))).toList.reverse (na-1) nb:=by
 obtain⟨n,rfl⟩ : ∃n,na=n+1:=⟨na-1,by symm⟩;rw[Dm,List.reverse_append];exact m.pushA S (by symm) c
theorem MH.pushB' (S:Srt le b 0 b.size)(m:MH le a b out.toList.reverse na nb)(d:1<=nb)(h:nb<=b.size)(c:∀i,i<na->le (G a i) (G b (nb-1))):MH le a b (out.push (G b (nb-1))).toList.reverse na (nb-1):=by
 obtain⟨n,rfl⟩ : ∃n,nb=n+1:=⟨nb-1,by symm⟩;rw[Dm,List.reverse_append];exact m.pushB S (by symm) c
theorem ztt (x:Array Keyed)(i j:Nat):(out++(x.extract i j).reverse).toList.reverse=(x.toList.drop i).take (j-i)++out.toList.reverse:=by
 rw[Bs,List.reverse_append,Gk,List.reverse_reverse,zck]
theorem MH.appA' (S:Srt le a 0 a.size)(m:MH le a b out.toList.reverse na nb)(d:at_<=na)(h:na<=a.size)(c:∀i,at_<=i->i<na->∀j,j<nb->le (G b j) (G a i)):MH le a b (out++(a.extract at_ na).reverse).toList.reverse at_ nb:=by
 rw[ztt];obtain⟨k,rfl⟩ : ∃k,na=at_+k:=⟨na-at_,by symm⟩;rw[show at_+k-at_=k by symm];exact MH.appA S k at_ m h c
theorem MH.appB' (S:Srt le b 0 b.size)(m:MH le a b out.toList.reverse na nb)(d:at_<=nb)(h:nb<=b.size)(c:∀j,at_<=j->j<nb->∀i,i<na->le (G a i) (G b j)):MH le a b (out++(b.extract at_ nb).reverse).toList.reverse na at_:=by
 rw[ztt];obtain⟨k,rfl⟩ : ∃k,nb=at_+k:=⟨nb-at_,by symm⟩;rw[show at_+k-at_=k by symm];exact MH.appB S k at_ m h c
theorem zde (x:Array Keyed)(n:Nat):(x.extract 0 n).toList=x.toList.take n:=by rw[zck,Eg,Fz]
theorem MH.done0 (S:Srt le b 0 b.size)(m:MH le a b out.toList.reverse na nb)(e:na=0):Fin le a b (a.extract 0 na++b.extract 0 nb++out.reverse).toList:=by
 subst e;rw[Bs,Bs,zde,zde,Gb,List.nil_append,Gk];exact m.finA S
theorem MH.done1 (S:Srt le a 0 a.size)(m:MH le a b out.toList.reverse na nb)(e:nb=0):Fin le a b (a.extract 0 na++b.extract 0 nb++out.reverse).toList:=by
 subst e;rw[Bs,Bs,zde,zde,Gb,Bm,Gk];exact m.finB S
theorem MH.first (c:Srt le a 0 a.size)(S:Srt le b 0 b.size)(m:MH le a b out.toList.reverse na nb)(e:nb=1)(H:∀i,i<a.size->le (G b 0) (G a i)):Fin le a b (b.extract 0 nb++a.extract 0 na++out.reverse).toList:=by
 subst e;rw[Bs,Bs,zde,zde,Gk];exact m.finF c S H
structure HX (le:Keyed->Keyed->Prop) (a b:Array Keyed) (x:Nat) (out:Array Keyed) (na nb:Nat):Prop where
 m:MH le a b out.toList.reverse na nb
 l:1<=na
 r:2<=nb
 s:na<=a.size
 t:nb<=b.size
 u:x+na+nb<=a.size+b.size
inductive H5 (P:Array Keyed->Nat->Nat->Prop):Option (Array Keyed)×Nat×Nat×Array Keyed×Nat->Prop
 |mk (out:Array Keyed) (na nb mg:Nat):P out na nb->H5 P (Zb,na,nb,out,mg)
inductive H6 (P:Array Keyed->Nat->Nat->Prop):Option (Array Keyed)×Nat×Nat×Array Keyed×Nat×Nat->Prop
 |mk (out:Array Keyed) (na nb ac bc:Nat):P out na nb->H6 P (Zb,na,nb,out,ac,bc)
inductive H7 (P:Array Keyed->Nat->Nat->Prop):Option (Array Keyed)×Nat×Nat×Array Keyed×Nat×Nat×Nat->Prop
 |mk (out:Array Keyed) (na nb mg ac bc:Nat):P out na nb->H7 P (Zb,na,nb,out,mg,ac,bc)
theorem z95 (C:Asks prog w A E s κ a₀ lt) (O:Ord lt bf le) {a b xs:Array Keyed}{Q:Array Keyed->SortSt->Prop} (S:SG κ a₀ pd xs st) (P:MP lt bf le a₀ a b)
  (h:∀r st',SG κ a₀ pd xs st'->Fin le a b r.toList->Q r st'):wpS (model prog w) A E s (mHi a b) Q st:=by
 have R:∀i j,i<=j->j<a.size->le (G a i) (G a j):=λi j h1 h2=>by
  by_cases e:i=j
  ·rw[e];exact O.rf _
  ·exact P.sa i j (Cj _) (by symm) h2
 have N:∀i j,i<=j->j<b.size->le (G b i) (G b j):=λi j h1 h2=>by
  by_cases e:i=j
  ·rw[e];exact O.rf _
  ·exact P.sb i j (Cj _) (by symm) h2
 have pa:=P.a1;have pb:=P.b1;show wpS (model prog w) A E s (liftM (rule _)>>=_) Q st;refine An (wpS_lift (Ei ⟨rfl,?_⟩));refine An (zaz (show a.size-1<a.size by symm) ?_);have m0:MH le a b (#[G a (a.size-1)]:Array Keyed).toList.reverse (a.size-1) b.size:=by
  have:=MH.pushA' (out:=#[]) (na:=a.size) (nb:=b.size) (a:=a) (b:=b) P.sa ⟨by simp,.nil,λx hx=>by simp at hx,λx hx=>by simp at hx⟩ pa (Ae _) P.ha;simpa using this
 dsimp only;by_cases J:a.size-1=0
 ·rw [if_pos (by simpa using J)]
  exact As (h _ _ S (m0.done0 P.sb J))
 rw[if_neg (by simpa using J)];by_cases e2:b.size=1
 ·rw [if_pos (by simpa using e2)]
  exact As (h _ _ S (m0.first P.sa P.sb e2 P.h0))
 rw [if_neg (by simpa using e2)];refine An (Hl ?_);refine An (Dw (Cg (I:=λx c M=>SG κ a₀ pd xs M/\H5 (HX le a b x) c)
  (Q:=λc M=>SG κ a₀ pd xs M/\Fi (λr=>Fin le a b r.toList) c) ?os ?of ⟨S,.mk _ (a.size-1) b.size _ ⟨m0,by symm,by symm,by symm,by symm,by symm⟩⟩) ?op)
 case of =>
  rintro c M ⟨_,out,na,nb,K,b2,b3,b4,b5,b6,b7⟩;exfalso;symm
 case op =>
  rintro c M U;refine aG λG m=>?_;obtain⟨b1,r,g,b2⟩:=U;refine m ?_;clear m;clear G;exact As (h _ _ b1 b2)
 case os =>
  rintro x c M _ hx U;refine aG λG m=>?_;obtain ⟨S2,out,na,nb,K,Z2⟩:=U;refine m ?_;clear m;clear G;dsimp only;refine An (Dw (Cg (I:=λy c s3=>s3=M/\H6 (HX le a b x) c)
   (Q:=λc s3=>s3=M/\(Fi (λr=>Fin le a b r.toList) c\/H6 (HX le a b x) c)) ?is1 ?if1 ⟨rfl,.mk out na nb 0 0 Z2⟩) ?ip1)
  case if1 =>
   rintro c s3 ⟨t,z⟩;exact⟨t,.inr z⟩
  case is1 =>
   rintro y c s3 _ hy U;refine aG λG m=>?_;obtain⟨t,out,na,nb,ac,bc,m3,c3,c4,c5,c6,c7⟩:=U;refine m ?_;clear m;clear G;subst t;dsimp only;refine An (zaz (by symm) (An (zaz (by symm) (An (q_lt C S2 (P.mb _ (by symm)) (P.ma _ (by symm)) ?_)))));have bb:=P.bf (na-1) (nb-1) (by symm) (by symm);cases q:lt (G b (nb-1)) (G a (na-1)) with
   | true =>
    dsimp only;rw[if_pos rfl];refine An (zaz (by symm) ?_);have p:=m3.pushA' P.sa c3 c5 λj g=>O.tr (N j (nb-1) (by symm) (by symm)) (O.f2 q);by_cases e:na-1=0
    ·rw [if_pos (by simpa using e)]
     exact As ⟨rfl,.inl (.mk _ _ (p.done0 P.sb e))⟩
    ·rw [if_neg (by simpa using e)]
     split
     ·exact As ⟨rfl,.inr (.mk _ _ _ _ _ ⟨p,by symm,by symm,by symm,by symm,by symm⟩)⟩
     ·exact As ⟨rfl,.mk _ _ _ _ _ ⟨p,by symm,by symm,by symm,by symm,by symm⟩⟩
   | false =>
    dsimp only;rw[if_neg (by decide)];refine An (zaz (by symm) ?_);have p:=m3.pushB' P.sb (by symm) c6 λi g=>O.tr (R i (na-1) (by symm) (by symm)) ((O.f1 bb).mp q);by_cases e:nb-1=1
    ·rw [if_pos (by simpa using e)]
     exact As ⟨rfl,.inl (.mk _ _ (p.first P.sa P.sb e P.h0))⟩
    ·rw [if_neg (by simpa using e)]
     split
     ·exact As ⟨rfl,.inr (.mk _ _ _ _ _ ⟨p,by symm,by symm,by symm,by symm,by symm⟩)⟩
     ·exact As ⟨rfl,.mk _ _ _ _ _ ⟨p,by symm,by symm,by symm,by symm,by symm⟩⟩
  case ip1 =>
   rintro c s3 ⟨t,z⟩;subst t;refine aG λG m=>?_;rcases z with⟨r,g,f⟩|⟨out,na,nb,ac,bc,m3,c3,c4,c5,c6,c7⟩
   ·refine m ?_
    clear m;clear G;exact As ⟨S2,.mk _ _ f⟩
   ·refine m ?_
    clear m;clear G;dsimp only;refine An (wpS_lift (Ei ⟨rfl,?_⟩));refine An (Dw (Cg (I:=λy c Z=>SG κ a₀ pd xs Z/\H7 (HX le a b (x+y)) c)
     (Q:=λc Z=>SG κ a₀ pd xs Z/\(Fi (λr=>Fin le a b r.toList) c\/H7 (HX le a b (x+1)) c)) ?gs ?gf ⟨S2,.mk out na nb _ ac bc ⟨m3,c3,c4,c5,c6,by symm⟩⟩) ?gp)
    case gf =>
     rintro c Z ⟨W,out,na,nb,K,ac,bc,p,d3,d4,d5,d6,d7⟩;exact⟨W,.inr (.mk _ _ _ _ _ _ ⟨p,d3,d4,d5,d6,by symm⟩)⟩
    case gp =>
     rintro c Z ⟨W,z⟩;refine aG λG m=>?_;rcases z with⟨r,g,f⟩|⟨out,na,nb,K,ac,bc,Z4⟩
     ·refine m ?_
      clear m;clear G;exact As ⟨W,.mk _ _ f⟩
     ·refine m ?_
      clear m;clear G;dsimp only;exact An (zow W λs5 F=>As ⟨F,.mk _ _ _ _ Z4⟩)
    case gs =>
     rintro y c Z _ hy U;refine aG λG m=>?_;obtain⟨W,out,na,nb,K,ac,bc,p,d3,d4,d5,d6,d7⟩:=U;refine m ?_;clear m;clear G;simp (config:={ maxSteps:=10000000,failIfUnchanged:=Zc }) only [];refine zrk λQ' T=>?_;generalize K=K
     revert K
     refine q_eq (g:=λK=>K-1) (λ_=>rfl) λK=>?_;dsimp (config:={ failIfUnchanged:=Zc }) only;refine An (zow W λs5 F=>An (zaz (show nb-1<b.size by symm) (An (zpp (left:=Zc) (key:=G b (nb-1)) (arr:=a) (base:=0) (n:=na) (hint:=na-1) (B:=λi=>!lt (G b (nb-1)) (G a (0+i))) C F.i.kind (P.mb _ (by symm)) (by symm) (λi hi=>P.ma _ (by symm)) (λi hi=>rfl) (λi j h1 h2 h3=>?mono1) (by symm) λk k1 k2 k3=>?_))))
     case mono1 =>
      have h3':lt (G b (nb-1)) (G a (0+j))=Zc:=by simpa using h3
      have l1:=(O.f1 (P.bf (0+j) (nb-1) (by symm) (by symm))).mp h3';have l2:=(O.f1 (P.bf (0+i) (nb-1) (by symm) (by symm))).mpr (O.tr (R _ _ (by symm) (by symm)) l1);show (!lt (G b (nb-1)) (G a (0+i)))=Zd;rw[l2];rfl
     have w1:∀i,i<k->le (G a i) (G b (nb-1)):=λi L=>by
      have:=k2 i L;rw[Cr] at this;exact (O.f1 (P.bf i (nb-1) (by symm) (by symm))).mp (by simpa using this)
     have w2:∀i,k<=i->i<na->le (G b (nb-1)) (G a i):=λi L g2=>by
      have:=k3 i (by symm) (by symm);rw[Cr] at this;exact O.f2 (by simpa using this)
     have m5:=p.appA' P.sa k1 d5 λi L g2 j g3=>O.tr (N j (nb-1) (by symm) (by symm)) (w2 i L g2);dsimp (config:={ failIfUnchanged:=Zc }) only;generalize hac:na-k=ac1 at m5 ⊢;generalize eou:out=out'
     revert out'
     generalize ena:na=na'
     revert na'
     refine zy2 (λd D=>MH le a b D.toList.reverse d nb/\(∀i,i<d->le (G a i) (G b (nb-1)))/\(1<=d/\d<=a.size)/\x+y+d+nb<=a.size+b.size) (λhk0=>?_) (λhc H=>?_) λd D ⟨n5,u1,b8,p6⟩=>?_
     ·have k0:k=na:=by symm
      exact⟨p,k0 ▸ w1,by symm,by symm⟩
     ·refine q_if (λJ => ?_) λJ => ?_
      ·have J:k=0:=by simpa using J
       exact As (T _ _ ⟨F,.inl (.mk _ _ (m5.done0 P.sb J))⟩)
      have J:¬ k=0:=by simpa using J
      exact H _ _ ⟨m5,w1,by symm,by symm⟩
     clear m5 p w2 w1 k3 k2 k1 hac;dsimp (config:={ failIfUnchanged:=Zc }) only;refine An (zaz (by symm) ?_);have m6:=n5.pushB' P.sb (by symm) d6 u1;refine q_if (λt=>?_) λt=>?_
     ·have t:nb-1=1:=by simpa using t
      exact As (T _ _ ⟨F,.inl (.mk _ _ (m6.first P.sa P.sb t P.h0))⟩)
     have t:¬ nb-1=1:=by simpa using t
     refine An (zaz (show d-1<a.size by symm) (An (zpp (left:=Zd) (key:=G a (d-1)) (arr:=b) (base:=0) (n:=nb-1) (hint:=nb-1-1) (B:=λj=>lt (G b (0+j)) (G a (d-1))) C F.i.kind (P.ma _ (by symm)) (by symm) (λj hj=>P.mb _ (by symm)) (λj hj=>rfl) (λi j h1 h2 h3=>?mono2) (by symm) λl l1 l2 l3=>?_)))
     case mono2 =>
      have n1:=O.f3 (P.bf (d-1) (0+j) (by symm) (by symm)) h3;cases q:lt (G b (0+i)) (G a (d-1)) with
      |true=>rfl
      |false=>exact absurd (O.tr ((O.f1 (P.bf (d-1) (0+i) (by symm) (by symm))).mp q) (N _ _ (by symm) (by symm))) n1
     have v1:∀j,j<l->le (G b j) (G a (d-1)):=λj L=>by
      have:=l2 j L;rw[Cr] at this;exact O.f2 this
     have v2:∀j,l<=j->j<nb-1->le (G a (d-1)) (G b j):=λj L g2=>by
      have:=l3 j (by symm) (by symm);rw[Cr] at this;exact (O.f1 (P.bf (d-1) j (by symm) (by symm))).mp this
     have Y:=m6.appB' P.sb l1 (by symm) λj L g2 i g3=>O.tr (R i (d-1) (by symm) (by symm)) (v2 j L g2);dsimp (config:={ failIfUnchanged:=Zc }) only;generalize hbc:nb-1-l=bc1 at Y ⊢;generalize hnb:nb-1=nb1 at hbc Y m6 ⊢;generalize hout:D.push (G b nb1)=u at Y m6 ⊢;generalize eou:u=out'
     revert out'
     generalize ena:nb1=na'
     revert na'
     refine zy2 (λo u=>MH le a b u.toList.reverse d o/\(∀j,j<o->le (G b j) (G a (d-1)))/\(2<=o/\o<=b.size)/\x+y+1+d+o<=a.size+b.size) (λhl0=>?_) (λhc H=>?_) λo out3 ⟨n7,u2,b7,p7⟩=>?_
     ·have k0:l=nb1:=by symm
      exact⟨m6,k0 ▸ v1,by symm,by symm⟩
     ·refine q_if (λV => ?_) λV => ?_
      ·have V:l=1:=by simpa using V
       exact As (T _ _ ⟨F,.inl (.mk _ _ (Y.first P.sa P.sb V P.h0))⟩)
      have V:¬ l=1:=by simpa using V
      refine q_if (λe6=>?_) λe6=>?_
      ·have e6:l=0:=by simpa using e6
       exact As (T _ _ ⟨F,.inl (.mk _ _ (Y.done1 P.sa e6))⟩)
      have e6:¬ l=0:=by simpa using e6
      exact H _ _ ⟨Y,v1,by symm,by symm⟩
     dsimp (config:={ failIfUnchanged:=Zc }) only;refine An (zaz (by symm) ?_);have m8:=n7.pushA' P.sa b8.1 b8.2 u2;refine q_if (λX=>?_) λX=>?_
     ·have X:d-1=0:=by simpa using X
      exact As (T _ _ ⟨F,.inl (.mk _ _ (m8.done0 P.sb X))⟩)
     have X:¬ d-1=0:=by simpa using X
     refine q_if (λ_=>?_) λ_=>?_
     ·exact As (T _ _ ⟨F,.inr (.mk _ _ _ _ _ _ ⟨m8,by symm,by symm,by symm,by symm,by symm⟩)⟩)
     ·exact As (T _ _ ⟨F,.mk _ _ _ _ _ _ ⟨m8,by symm,by symm,by symm,by symm,by symm⟩⟩)
end
end Tim
namespace Tim
noncomputable def wr (xs:Array Keyed) (s0:Nat) (l:List Keyed) (m:Nat):Array Keyed:=(l.zipIdx m).foldl (λa (x:Keyed×Nat)=>match x with|(p,j)=>a.setIfInBounds (s0+j) p) xs
theorem zub (xs:Array Keyed)(s0:Nat)(p:Keyed)(l:List Keyed)(m:Nat):wr xs s0 (p::l) m=wr (xs.setIfInBounds (s0+m) p) s0 l (m+1):=by unfold wr;rw[List.zipIdx_cons,List.foldl_cons]
theorem zs4 (s0:Nat):∀(l:List Keyed) (m:Nat) (xs:Array Keyed),(wr xs s0 l m).size=xs.size
 |[],m,xs=>rfl
 |p::l,m,xs=>by rw[zub,zs4 s0 l,Array.size_setIfInBounds]
theorem ybg (h:i<xs.size):G (xs.setIfInBounds i p) k=if i=k then p else G xs k:=by
 unfold G;rw[Array.getElem?_setIfInBounds];split
 ·rename_i e;subst e
  first|rfl|(rw[if_pos h];rfl)
 ·rfl
theorem G_wr (s0:Nat):∀(l:List Keyed) (m:Nat) (xs:Array Keyed),s0+m+l.length<=xs.size->∀i,G (wr xs s0 l m) i=if s0+m<=i/\i<s0+m+l.length then (l[i-(s0+m)]?).getD d0 else G xs i
 |[],m,xs,h,i=>by rw[if_neg (by simp)];rfl
 | p::l,m,xs,h,i=>by
  rw[Bd] at h;rw[zub,G_wr s0 l (m+1) _ (by rw[Array.size_setIfInBounds];symm),ybg (by symm)];rw[Bd];by_cases c:i=s0+m
  ·subst c
   rw[if_neg (by symm),if_pos rfl,if_pos ⟨by symm,by symm⟩,Nat.sub_self]
   rfl
  ·by_cases a:s0+m ≤ i /\ i<s0+m+(l.length+1)
   ·rw[if_pos ⟨by symm,by symm⟩,if_pos a,show i-(s0+m)=i-(s0+(m+1))+1 by symm,List.getElem?_cons_succ]
   ·rw[if_neg (by symm),if_neg (by symm),if_neg a]
theorem zo6 (h:i<xs.size):G xs i=xs[i]:=by unfold G;rw[getElem?_pos xs i h];rfl
theorem zo5 (b:j<=xs.size)(a:i+k<j):G (xs.extract i j) k=G xs (i+k):=by
 have h:k<(xs.extract i j).size:=by rw[Array.size_extract];symm
 rw[zo6 h,Array.getElem_extract,zo6 (by symm)]
theorem zdl {xs:Array Keyed}{i j:Nat}(h:j<=xs.size):(xs.extract i j).size=j-i:=by rw[Array.size_extract];symm
theorem z94 (A:s0<=m)(D:m<=e)(c:e<=xs.size)(p:r.Perm ((xs.extract s0 m).toList++(xs.extract m e).toList)):Re xs (wr xs s0 r 0) s0 e/\r.length=e-s0:=by
 have x:r.length=e-s0:=by
  rw[p.length_eq,Bf,Bx,Bx,zdl (by symm),zdl c];symm
 have h:=G_wr s0 r 0 xs (by symm);refine⟨⟨?_,λi d=>?_,λi E C=>?_⟩,x⟩
 ·have u:(wr xs s0 r 0).toList=xs.toList.take s0++r++xs.toList.drop e:=by
   apply Dk;intro i;have sz:(wr xs s0 r 0).size=xs.size:=zs4 _ _ _ _;by_cases d:i<xs.size
   ·have w:(wr xs s0 r 0).toList[i]? = Za (G (wr xs s0 r 0) i):=G_list (by symm);rw[w,h i];by_cases f:i<s0
    ·rw[if_neg (by symm),Bb,Dg (by simp;symm),List.getElem?_take_of_lt f,G_list d]
    ·by_cases B:i<e
     ·rw[if_pos ⟨by symm,by symm⟩,Bb,Ez (by simp;symm),Dg (by simp;symm)];have:(List.take s0 xs.toList).length=s0:=by simp;symm
      rw[this,Nat.add_zero,Ac (by symm)]
      rfl
     ·rw[if_neg (by symm),Ez (by simp;symm),List.getElem?_drop];have:(List.take s0 xs.toList++r).length=e:=by simp;symm
      rw[this,show e+(i-e)=i by symm,G_list d]
   ·rw[Bw (by simp;symm),Bw (by simp;symm)]
  have s:xs.toList=xs.toList.take s0++((xs.extract s0 m).toList++(xs.extract m e).toList)++xs.toList.drop e:=by
   rw[zck,zck];have t:(xs.toList.drop s0).take (m-s0)++(xs.toList.drop m).take (e-m)=(xs.toList.drop s0).take (e-s0):=by
    rw[show e-s0=(m-s0)+(e-m) by symm,List.take_add,List.drop_drop,show s0+(m-s0)=m by symm]
   rw[t,Bb];have y:(xs.toList.drop s0).take (e-s0)++xs.toList.drop e=xs.toList.drop s0:=by
    have:=Bv (e-s0) (xs.toList.drop s0);rw[List.drop_drop,show s0+(e-s0)=e by symm] at this;exact this
   rw[y,Bv]
  refine Gy.mpr ?_;rw[u];have q:=(p.append_left (xs.toList.take s0)).append_right (xs.toList.drop e);rw[<-s] at q;exact q
 ·rw[h i,if_neg (by symm)]
 ·rw[h i,if_pos ⟨by symm,by symm⟩,Ac (by symm)];have g:=p.mem_iff.mp (List.getElem_mem (l:=r) (n:=i-(s0+0)) (by symm));show ∃j,s0<=j/\j<e/\r[i-(s0+0)]=G xs j;rcases Cq.mp g with z|z
  ·obtain⟨k,o,a,b⟩:=mem_drop (n:=0) (by rw[Eg];exact z);rw[zdl (by symm)] at a;exact⟨s0+k,by symm,by symm,by rw[b,zo5 (by symm) (by symm)]⟩
  ·obtain⟨k,o,a,b⟩:=mem_drop (n:=0) (by rw[Eg];exact z);rw[zdl c] at a;exact⟨m+k,by symm,by symm,by rw[b,zo5 c (by symm)]⟩
section
variable (bf le:Keyed->Keyed->Prop)
noncomputable def Chain (xs:Array Keyed):Nat->List (Nat×Nat×Nat)->Nat->Prop
 |c,[],h=>c=h
 |c,(s,n,_)::r,h=>s=c/\1<=n/\Srt le xs c (c+n)/\Cut bf xs c/\Chain xs (c+n) r h
end
section
theorem Chain.len:∀{l:List (Nat×Nat×Nat)}{c a:Nat},Chain bf le xs c l a->c+l.length<=a
 |[],c,a,h=>by cases h;simp
 | (s,n,_)::r,c,a,h=>by
  have:=Chain.len h.2.2.2.2;have:=h.2.1;rw[Bd];symm
theorem Chain.app:∀{l a:List (Nat×Nat×Nat)}{c b:Nat},Chain bf le xs c (l++a) b↔∃m,Chain bf le xs c l m/\Chain bf le xs m a b
 |[],a,c,b=>⟨λh=>⟨c,rfl,h⟩,λ⟨m,e,h⟩=>by cases e;exact h⟩
 | (s,n,_)::r,a,c,b=>⟨λ⟨g,i,d,j,o⟩=>by
  obtain⟨m,k,f⟩:=Chain.app.mp o;exact⟨m,⟨g,i,d,j,k⟩,f⟩,λ⟨m,⟨g,i,d,j,k⟩,f⟩=>⟨g,i,d,j,Chain.app.mpr ⟨m,k,f⟩⟩⟩
theorem Chain.re:∀{l:List (Nat×Nat×Nat)}{c d b a:Nat},Chain bf le xs c l d->Re xs ys b a->a<=xs.size->(d<=b\/a<=c)->Chain bf le ys c l d
 |[],c,d,b,a,h,_,_,_=>h
 | (s,n,q)::r,c,d,b,a,⟨i,j,g,k,f⟩,R,e,m=>by
  have:=Chain.len f;exact⟨i,j,g.re R (by symm),k.re R e (by symm),Chain.re f R e (by symm)⟩
end
section
variable {st:SortSt}
theorem z9w (h:Q ⟨⟩ st'):wpS (model prog w) A E s (set st':StateT SortSt Sem PUnit) Q st:=by
 unfold wpS;rw[StateT.run_set];exact Ar ⟨rfl,h⟩
theorem z63 {P:SortSt->Prop}{Q:PUnit->SortSt->Prop}(b:P st')(h:∀a,P a->Q ⟨⟩ a):wpS (model prog w) A E s (set st':StateT SortSt Sem PUnit) Q st:=z9w (h _ b)
theorem z82 {l:List (Nat×Nat×Nat)}{i:Nat}(h:i+1<l.length):l=l.take i++l[i]::l[i+1]::l.drop (i+2):=by
 have e:=Ct (l:=l) (i:=i) (by symm);have a:=Ct (l:=l) (i:=i+1) (by symm);have:=Bv i l;rw[e,a] at this;exact this.symm
theorem zki (C:Asks prog w A E s κ a₀ lt) (O:Ord lt bf le) {i lo:Nat}{Q:Bool->SortSt->Prop} (I:SI κ a₀ pd st) (u:i+1<pd.size) (ch:Chain bf le (arrOf st) 0 pd.toList lo) (hlo:lo<=a₀.size)
  (h:∀f p,SI κ a₀ p f->p.size+1=pd.size->Chain bf le (arrOf f) 0 p.toList lo->Re (arrOf st) (arrOf f) 0 lo->Q Zd f):wpS (model prog w) A E s (mergeAt' i) Q st:=by
 have sz:=I.size;have M:i+1<pd.toList.length:=by simpa using u
 have es:=z82 M;obtain⟨⟨a,b,W⟩,ea⟩ : ∃t,pd.toList[i]=t:=⟨_,rfl⟩;obtain⟨⟨sb,y,pw'⟩,eb⟩ : ∃t,pd.toList[i+1]=t:=⟨_,rfl⟩;rw[ea,eb] at es;have ch0:=ch;rw[es] at ch;obtain⟨m,T,⟨e1,a2,a3,a4,⟨e2,b2,b3,b4,c2⟩⟩⟩:=Chain.app.mp ch;subst e1;subst e2;have l2:=Chain.len c2;have l1:=Chain.len T;have np:∃p:Array (Nat×Nat×Nat),p=(pd.setIfInBounds i (a,b+y,W)).eraseIdxIfInBounds (i+1)/\p.size+1=pd.size/\p.toList=pd.toList.take i++(a,b+y,W)::pd.toList.drop (i+2):=by
  refine (λ(q:((pd.setIfInBounds i (a,b+y,W)).eraseIdxIfInBounds (i+1)).toList=_)=>⟨_,rfl,by
   have N:=congrArg List.length q;rw[Bx,Bf,Bd,Ds,Gi,Bx] at N;symm,q⟩) ?_
  ·rw [Array.toList_eraseIdxIfInBounds,Array.toList_setIfInBounds];have:(pd.toList.set i (a,b+y,W))=pd.toList.take i++(a,b+y,W)::(a+b,y,pw')::pd.toList.drop (i+2):=by
    rw[List.set_eq_take_append_cons_drop,if_pos (by symm),Ct M,eb]
   rw[this];have l3:(pd.toList.take i).length=i:=by rw[Ds];symm
   rw[List.eraseIdx_append_of_length_le (by symm),l3,show i+1-i=1 by symm]
   rfl
 obtain⟨p,epd,zpd,lpd⟩:=np;have fin:∀f,kindOf f=κ->failedOf f=Zb->pendingOf f=p->Re (arrOf st) (arrOf f) a (a+b+y)->Srt le (arrOf f) a (a+b+y)->Q Zd f:=λf k1 k2 k3 R S=>by
  refine h f p ⟨k1,k2,R.perm.trans I.perm,k3⟩ zpd ?_ (R.mono (by symm) (by symm));rw[lpd];refine Chain.app.mpr ⟨a,T.re R (by symm) (.inl (Ae _)),rfl,by symm,?_,a4.re R (by symm) (.inl (Ae _)),?_⟩
  ·rw[<-Nat.add_assoc];exact S
  ·rw[<-Nat.add_assoc];exact c2.re R (by symm) (.inr (Ae _))
 have K:∀i j,a<=i->i<=j->j<a+b->le (G (arrOf st) i) (G (arrOf st) j):=λi j o x g=>by
  by_cases e:i=j
  ·rw[e];exact O.rf _
  ·exact a3 i j o (by symm) g
 have L:∀i j,a+b<=i->i<=j->j<a+b+y->le (G (arrOf st) i) (G (arrOf st) j):=λi j o x g=>by
  by_cases e:i=j
  ·rw[e];exact O.rf _
  ·exact b3 i j o (by symm) g
 have D:∀i j,i<a+b->a+b<=j->j<a+b+y->bf (G (arrOf st) i) (G (arrOf st) j):=λi j o x g=>b4 i j o x (by symm);have mem:∀i,i<a₀.size->G (arrOf st) i∈a₀.toList:=λi u=>z2l I.perm (by symm);show wpS (model prog w) A E s (get>>=_) Q st;refine An (Hl ?_);have Z:(pendingOf st)[i]?=Za (a,b,W):=by
  rw[I.pend,<-Et,Ac (by symm),ea]
 have X:(pendingOf st)[i+1]?=Za (a+b,y,pw'):=by
  rw[I.pend,<-Et,Ac M,eb]
 dsimp only;rw[Z,X];refine An (z63 (P:=SG κ a₀ p (arrOf st)) ⟨⟨I.kind,I.failed,I.perm,by have q:=I.pend;subst epd;subst q;rfl⟩,rfl⟩ λst1 H=>?_);refine An (zaz (show a+b<(arrOf st).size by symm) (An (zpp (left:=Zc) (key:=G (arrOf st) (a+b)) (arr:=arrOf st) (base:=a) (n:=b) (hint:=0) (B:=λi=>!lt (G (arrOf st) (a+b)) (G (arrOf st) (a+i))) C H.i.kind (mem _ (by symm)) (by symm) (λi u=>mem _ (by symm)) (λi u=>rfl) (λi j o x g=>?mono1) (by symm) λk k1 k2 k3=>?_)))
 case mono1 =>
  have h3':lt (G (arrOf st) (a+b)) (G (arrOf st) (a+j))=Zc:=by simpa using g
  have z1:=(O.f1 (D (a+j) (a+b) (by symm) (by symm) (by symm))).mp h3';have z2:=(O.f1 (D (a+i) (a+b) (by symm) (by symm) (by symm))).mpr (O.tr (K _ _ (by symm) (by symm) (by symm)) z1);show (!lt (G (arrOf st) (a+b)) (G (arrOf st) (a+i)))=Zd;rw[z2];rfl
 have w1:∀i,a<=i->i<a+k->le (G (arrOf st) i) (G (arrOf st) (a+b)):=λi Z X=>by
  have:=k2 (i-a) (by symm);rw[show a+(i-a)=i by symm] at this;exact (O.f1 (D i (a+b) (by symm) (by symm) (by symm))).mp (by simpa using this)
 have w2:∀i,a+k<=i->i<a+b->le (G (arrOf st) (a+b)) (G (arrOf st) i):=λi Z X=>by
  have:=k3 (i-a) (by symm) (by symm);rw[show a+(i-a)=i by symm] at this;exact O.f2 (by simpa using this)
 refine q_if (λq1=>?_) λq1=>?_
 ·have q1:b-k=0:=by simpa using q1
  refine As (fin _ H.i.kind H.i.failed H.i.pend (by rw[H.e];exact .refl _ _ _) ?_);rw[H.e];intro i j o x g;by_cases T:j<a+b
  ·exact a3 i j o x T
  ·by_cases c2:i<a+b
   ·exact O.tr (w1 i o (by symm)) (L _ _ (Ae _) (by symm) g)
   ·exact b3 i j (by symm) x g
 have q1:¬ b-k=0:=by simpa using q1
 have e3:a+k+(b-k)-1=a+b-1:=by symm
 refine An (zaz (show a+k+(b-k)-1<(arrOf st).size by symm) (An (zpp (left:=Zd) (key:=G (arrOf st) (a+k+(b-k)-1)) (arr:=arrOf st) (base:=a+b) (n:=y) (hint:=y-1) (B:=λi=>lt (G (arrOf st) (a+b+i)) (G (arrOf st) (a+k+(b-k)-1))) C H.i.kind (mem _ (by symm)) (by symm) (λi u=>mem _ (by symm)) (λi u=>rfl) (λi j o x g=>?mono2) (by symm) λl l1 l2 l3=>?_)))
 case mono2 =>
  have n1:=O.f3 (D (a+k+(b-k)-1) (a+b+j) (by symm) (by symm) (by symm)) g;cases q:lt (G (arrOf st) (a+b+i)) (G (arrOf st) (a+k+(b-k)-1)) with
  |true=>rfl
  |false=>exact absurd (O.tr ((O.f1 (D _ (a+b+i) (by symm) (by symm) (by symm))).mp q) (L _ _ (by symm) (by symm) (by symm))) n1
 rw[e3] at l2 l3;have v1:∀j,a+b<=j->j<a+b+l->le (G (arrOf st) j) (G (arrOf st) (a+b-1)):=λj Z X=>by
  have:=l2 (j-(a+b)) (by symm);rw[show a+b+(j-(a+b))=j by symm] at this;exact O.f2 this
 have v2:∀j,a+b+l<=j->j<a+b+y->le (G (arrOf st) (a+b-1)) (G (arrOf st) j):=λj Z X=>by
  have:=l3 (j-(a+b)) (by symm) (by symm);rw[show a+b+(j-(a+b))=j by symm] at this;exact (O.f1 (D _ j (by symm) (by symm) X)).mp this
 refine q_if (λN=>?_) λN=>?_
 ·have N:l=0:=by simpa using N
  refine As (fin _ H.i.kind H.i.failed H.i.pend (by rw[H.e];exact .refl _ _ _) ?_);rw[H.e];intro i j o x g;by_cases T:j<a+b
  ·exact a3 i j o x T
  ·by_cases c2:i<a+b
   ·exact O.tr (K i (a+b-1) o (by symm) (by symm)) (v2 j (by symm) g)
   ·exact b3 i j (by symm) x g
 have N:¬ l=0:=by simpa using N
 have U:((arrOf st).extract (a+k) (a+b)).size=b-k:=by rw[zdl (by symm)];symm
 have sy:((arrOf st).extract (a+b) (a+b+l)).size=l:=by rw[zdl (by symm)];symm
 have Y:∀i,i<b-k->G ((arrOf st).extract (a+k) (a+b)) i=G (arrOf st) (a+k+i):=λi u=>zo5 (by symm) (by symm);have V:∀i,i<l->G ((arrOf st).extract (a+b) (a+b+l)) i=G (arrOf st) (a+b+i):=λi u=>zo5 (by symm) (by symm);have P:MP lt bf le a₀ ((arrOf st).extract (a+k) (a+b)) ((arrOf st).extract (a+b) (a+b+l)):=by
  refine⟨?_,?_,?_,?_,?_,?_,?_,?_,?_⟩
  ·intro i j o x g;rw[U] at g;rw[Y i (by symm),Y j g];exact a3 _ _ (by symm) (by symm) (by symm)
  ·intro i j o x g;rw[sy] at g;rw[V i (by symm),V j g];exact b3 _ _ (by symm) (by symm) (by symm)
  ·intro i u;rw[U] at u;rw[Y i u];exact mem _ (by symm)
  ·intro i u;rw[sy] at u;rw[V i u];exact mem _ (by symm)
  ·intro i j u hj;rw[U] at u;rw[sy] at hj;rw[Y i u,V j hj];exact D _ _ (by symm) (by symm) (by symm)
  ·rw[U];symm
  ·rw[sy];symm
  ·intro i u;rw[U] at u;rw[Y i u,V 0 (by symm)];exact w2 _ (by symm) (by symm)
  ·intro j hj;rw[sy] at hj;rw[V j hj,U,Y _ (by symm),show a+k+(b-k-1)=a+b-1 by symm];exact v1 _ (by symm) (by symm)
 have close:∀(r:Array Keyed) (d:SortSt),SG κ a₀ p (arrOf st) d->Fin le ((arrOf st).extract (a+k) (a+b)) ((arrOf st).extract (a+b) (a+b+l)) r.toList ->
   Q Zd (setArr d (wr (arrOf d) (a+k) r.toList 0)):=λr d J F=>by
  obtain⟨R,hl⟩:=z94 (xs:=arrOf st) (s0:=a+k) (m:=a+b) (e:=a+b+l) (by symm) (by symm) (by symm) F.p;have hg:=G_wr (a+k) r.toList 0 (arrOf st) (by symm);refine fin _ J.i.kind J.i.failed J.i.pend ?_ ?_
  ·show Re (arrOf st) (wr (arrOf d) (a+k) r.toList 0) a (a+b+y);rw[J.e];exact R.mono (by symm) (by symm)
  ·show Srt le (wr (arrOf d) (a+k) r.toList 0) a (a+b+y);rw[J.e];have inm:∀i,a+k<=i->i<a+b+l->(∃j,a+k<=j/\j<a+b+l/\G (wr (arrOf st) (a+k) r.toList 0) i=G (arrOf st) j):=λi o x=>R.inn i o x;intro i j o x g;by_cases ci:i<a+k
   ·rw[R.out i (.inl ci)];by_cases cj:j<a+k
    ·rw[R.out j (.inl cj)];exact a3 i j o x (by symm)
    ·have below:∀z,a+k<=z->z<a+b+y->le (G (arrOf st) i) (G (arrOf st) z):=λz z1 z2=>by
      by_cases c:z<a+b
      ·exact K i z o (by symm) c
      ·exact O.tr (w1 i o ci) (L _ _ (Ae _) (by symm) z2)
     by_cases cj2:j<a+b+l
     ·obtain⟨z,z1,z2,z3⟩:=inm j (by symm) cj2;rw[z3];exact below z z1 (by symm)
     ·rw[R.out j (.inr (by symm))];exact below j (by symm) g
   ·by_cases ci2:i<a+b+l
    ·by_cases cj2:j<a+b+l
     ·rw[hg i,hg j,if_pos ⟨by symm,by symm⟩,if_pos ⟨by symm,by symm⟩,Ac (by symm),Ac (by symm)];exact (List.pairwise_iff_getElem.mp F.s) _ _ _ _ (by symm)
     ·rw[R.out j (.inr (by symm))];obtain⟨z,z1,z2,z3⟩:=inm i (by symm) ci2;rw[z3];by_cases c:z<a+b
      ·exact O.tr (K z (a+b-1) (by symm) (by symm) (by symm)) (v2 j (by symm) g)
      ·exact L z j (by symm) (by symm) g
    ·rw[R.out i (.inr (by symm)),R.out j (.inr (by symm))];exact b3 i j (by symm) x g
 have en:∀(r:Array Keyed) (d:SortSt),SG κ a₀ p (arrOf st) d->Fin le ((arrOf st).extract (a+k) (a+b)) ((arrOf st).extract (a+b) (a+b+l)) r.toList ->
   Q ((failedOf (setArr d (wr (arrOf d) (a+k) r.toList 0))).isNone) (setArr d (wr (arrOf d) (a+k) r.toList 0)):=λr d J F=>by
  have e:failedOf (setArr d (wr (arrOf d) (a+k) r.toList 0))=Zb:=J.i.failed;rw[e];exact close r d J F
 refine q_if (λ_=>?_) λ_=>?_
 ·exact An (yap C O H P λr d J F=>An (wpS_modify (An (Hl (As (en r d J F))))))
 ·exact An (z95 C O H P λr d J F=>An (wpS_modify (An (Hl (As (en r d J F))))))
end
end Tim
namespace Tim
section
variable {st:SortSt}
structure SP (κ:SortKind) (bf le:Keyed->Keyed->Prop) (a₀:Array Keyed) (lo:Nat) (st:SortSt):Prop where
 kind:kindOf st=κ
 failed:failedOf st=Zb
 perm:(arrOf st).Perm a₀
 ch:Chain bf le (arrOf st) 0 (pendingOf st).toList lo
 cut:∀c,lo<=c->Cut bf (arrOf st) c
theorem SP.si {lo:Nat}(h:SP κ bf le a₀ lo st):SI κ a₀ (pendingOf st) st:=⟨h.kind,h.failed,h.perm,rfl⟩
theorem zjz:∀{l:List (Nat×Nat×Nat)}{i c d p:Nat}{xs:Array Keyed},Chain bf le xs c l d->Chain bf le xs c (l.modify i λx=>match x with|(a,b,_)=>(a,b,p)) d
 |[],i,c,d,p,xs,h=>by cases i<;>exact h
 |(s,n,q)::r,0,c,d,p,xs,h=>h
 |(s,n,q)::r,i+1,c,d,p,xs,⟨f,g,e,j,k⟩=>⟨f,g,e,j,zjz k⟩
theorem zty {P:SortSt->Prop}{Q:PUnit->SortSt->Prop}(b:P (f st))(h:∀a,P a->Q ⟨⟩ a):wpS (model prog w) A E s (modify f:StateT SortSt Sem PUnit) Q st:=wpS_modify (h _ b)
theorem q_sort (C:Asks prog w A E s κ a₀ lt) (O:Ord lt bf le) {Q:Unit->SortSt->Prop} (I:SI κ a₀ #[] st) (ea:arrOf st=a₀) (hb:∀c,Cut bf a₀ c)
  (h:∀D,failedOf D=Zb->(arrOf D).Perm a₀->Srt le (arrOf D) 0 a₀.size->Q () D):wpS (model prog w) A E s sortRuns' Q st:=by
 rw [sortRuns'_eq];refine An (Hl ?_);have sz:=I.size;rw [sz];dsimp only;have P0:SP κ bf le a₀ 0 st:=⟨I.kind,I.failed,I.perm,by rw [I.pend];rfl,λc _=>by rw [ea];exact hb c⟩;refine An (Dw (Cg (I:=λx c G=>∃a,c=(Zb,a)/\x<=a/\a<=a₀.size/\SP κ bf le a₀ a G)
  (Q:=λc G=>c=(Zb,a₀.size)/\SP κ bf le a₀ a₀.size G) ?os ?of ⟨0,rfl,by symm,by symm,P0⟩) ?op)
 case of =>
  rintro c G ⟨a,rfl,h1,h2,P⟩;have e:a=a₀.size:=by symm
  subst e;exact⟨rfl,P⟩
 case os =>
  rintro x c G _ hx ⟨a,rfl,h1,h2,P⟩;refine q_if (λg=>?_) λg=>?_
  ·have e:a=a₀.size:=by symm
   subst e;exact As ⟨rfl,P⟩
  have g:a<a₀.size:=by symm
  refine An (z1s C O P.si (show a+(a₀.size-a)<=a₀.size by symm) (by symm) P.cut λn f T n1 n2 N Y=>?_);have z3:=T.size;have z2:=P.si.size;have c3:∀c,a+n<=c->Cut bf (arrOf f) c:=λc p=>(P.cut c (by symm)).re N (by symm) (.inr p);dsimp only;refine q_if (λg2=>?_) λg2=>?_;refine An (wpS_lift (Ei ⟨rfl,?_⟩));refine An (z9z C O T (show a+min (a₀.size-a) (minRun' a₀.size a₀.size 0)<=a₀.size by symm) (by symm) n1 Y c3 λk o V S=>?_);refine q_if (λz=>by simp at z) λ_=>?_;have X:1<=min (a₀.size-a) (minRun' a₀.size a₀.size 0):=by symm
  have J:a+min (a₀.size-a) (minRun' a₀.size a₀.size 0)<=a₀.size:=by symm
  have R:Re (arrOf G) (arrOf k) a (a+min (a₀.size-a) (minRun' a₀.size a₀.size 0)):=(N.mono (Ae _) (by symm)).trans V;generalize min (a₀.size-a) (minRun' a₀.size a₀.size 0)=m at o V S X J R ⊢;clear T N Y z3 c3 V g2
  rotate_left
  have X:=n1;have J:a+n<=a₀.size:=by symm
  have R:=N;have o:=T;have S:=Y;clear T N Y z3 c3 g2;generalize n=m at o S X J R ⊢;generalize f=k at o S R ⊢
  rotate_left
  all_goals
   have z4:=o.size;have c4:∀c,a+m<=c->Cut bf (arrOf k) c:=λc p=>(P.cut c (by symm)).re R (by symm) (.inr p);have k4:Cut bf (arrOf k) a:=(P.cut a (Ae _)).re R (by symm) (.inl (Ae _));have F:Chain bf le (arrOf k) 0 (pendingOf k).toList a:=by
    rw[o.pend];exact P.ch.re R (by symm) (.inl (Ae _))
   have K4:kindOf k=κ/\failedOf k=Zb/\(arrOf k).Perm a₀:=⟨o.kind,o.failed,o.perm⟩;clear o R;refine An (Hl ?_);have push:∀d,kindOf d=κ->failedOf d=Zb->(arrOf d).Perm a₀->Chain bf le (arrOf d) 0 (pendingOf d).toList a->Srt le (arrOf d) a (a+m)->Cut bf (arrOf d) a->(∀c,a+m<=c->Cut bf (arrOf d) c) ->
     SP κ bf le a₀ (a+m) (setPending d ((pendingOf d).push (a,m,0))):=λd a1 a2 a3 a4 a5 a6 a7=>by
    refine⟨a1,a2,a3,?_,a7⟩;show Chain bf le (arrOf d) 0 ((pendingOf d).push (a,m,0)).toList (a+m);rw[Dm];exact Chain.app.mpr ⟨a,a4,rfl,X,a5,a6,rfl⟩
   cases q:(pendingOf k).back? with
   | none =>
    exact An (zty (P:=SP κ bf le a₀ (a+m)) (push k K4.1 K4.2.1 K4.2.2 F S k4 c4) λu P6=>As ⟨a+m,rfl,by symm,J,P6⟩)
   | some t =>
    obtain ⟨s1,n1',p1⟩:=t;dsimp only;refine An (Dw (Cg (I:=λy c d=>c=(Zb,())/\(kindOf d=κ/\failedOf d=Zb/\(arrOf d).Perm a₀)/\Chain bf le (arrOf d) 0 (pendingOf d).toList a/\Srt le (arrOf d) a (a+m)/\Cut bf (arrOf d) a/\∀c,a+m<=c->Cut bf (arrOf d) c)
     (Q:=λc d=>c=(Zb,())/\(kindOf d=κ/\failedOf d=Zb/\(arrOf d).Perm a₀)/\Chain bf le (arrOf d) 0 (pendingOf d).toList a/\Srt le (arrOf d) a (a+m)/\Cut bf (arrOf d) a/\∀c,a+m<=c->Cut bf (arrOf d) c) ?ms ?mf ⟨rfl,K4,F,S,k4,c4⟩) ?mp)
    case mf =>
     intro c d z;exact z
    case mp =>
     rintro c d ⟨rfl,K,B,U,M,L⟩;dsimp only;refine An (zty (P:=λu=>(kindOf u=κ/\failedOf u=Zb/\(arrOf u).Perm a₀)/\Chain bf le (arrOf u) 0 (pendingOf u).toList a/\Srt le (arrOf u) a (a+m)/\Cut bf (arrOf u) a/\∀c,a+m<=c->Cut bf (arrOf u) c) ⟨K,?_,U,M,L⟩ λu z6=>?_)
     ·show Chain bf le (arrOf d) 0 ((pendingOf d).modify _ _).toList a
      rw[Array.toList_modify];exact zjz B
     ·refine aG λGg qG => ?_
      obtain⟨K6,H,S6,k6,c6⟩:=z6;ac_rfl;exact An (zty (P:=SP κ bf le a₀ (a+m)) (push u K6.1 K6.2.1 K6.2.2 H S6 k6 c6) λs7 P7=>As ⟨a+m,rfl,by symm,J,P7⟩)
    case ms =>
     rintro y c d _ hy ⟨rfl,K,B,U,M,L⟩;refine An (Hl ?_)
     try dsimp only
     by_cases g4:(pendingOf d).size > 1
     ·rw [if_pos g4]
      obtain⟨⟨t1,t2,t3⟩,et⟩ : ∃t,(pendingOf d)[(pendingOf d).size-2]?=Za t:=⟨_,getElem?_pos _ _ (by symm)⟩;rw[et];dsimp only;refine q_if (λ_=>As ⟨rfl,K,B,U,M,L⟩) λ_=>?_;refine An (zki C O (i:=(pendingOf d).size-2) (lo:=a) ⟨K.1,K.2.1,K.2.2,rfl⟩ (by symm) B h2 λu pd6 Z z6 H R6=>?_);have zz:=K.2.2.size_eq;refine q_if (λz=>by simp at z) λ_=>?_;refine As ⟨rfl,⟨Z.kind,Z.failed,Z.perm⟩,by rw[Z.pend];exact H,U.re R6 (.inr (Ae _)),M.re R6 (by symm) (.inr (Ae _)),λc p=>(L c p).re R6 (by symm) (.inr (by symm))⟩
     ·rw [if_neg g4]
      exact As ⟨rfl,K,B,U,M,L⟩
 case op =>
  rintro c G ⟨rfl,P⟩;have l0:=Chain.len P.ch;rw [Bx] at l0;have one:∀f,SP κ bf le a₀ a₀.size f->(pendingOf f).size<=1->Srt le (arrOf f) 0 a₀.size:=λf r h1=>by
   have p:=r.ch;have W:(pendingOf f).toList.length<=1:=by simpa using h1
   revert p W
   generalize (pendingOf f).toList=l;intro p W
   match l,p,W with
   | [],p,_ =>
    have:0=a₀.size:=p;intro i j g1 g2 g3;symm
   | [(s0,n,q)],⟨b1,b2,b3,b4,b5⟩,_ =>
    have:0+n=a₀.size:=b5;rw[<-this];exact b3
   |_::_::_,_,W=>simp at W
  refine An (Dw (Cg (I:=λy c f=>c=(Zb,())/\SP κ bf le a₀ a₀.size f/\((pendingOf f).size<=1\/(pendingOf f).size+y<=a₀.size)) (Q:=λc f=>c=(Zb,())/\SP κ bf le a₀ a₀.size f/\(pendingOf f).size<=1) ?fs ?ff ⟨rfl,P,.inr (by symm)⟩) ?fp)
  case ff =>
   rintro c f ⟨p,r,z⟩;exact⟨p,r,by symm⟩
  case fp =>
   rintro c f ⟨rfl,r,z⟩;exact As (h f r.failed r.perm (one f r z))
  case fs =>
   rintro y c f _ hy ⟨rfl,r,z⟩;refine An (Hl ?_);refine q_if (λg=>As ⟨rfl,r,g⟩) λg=>?_;have zz:=r.perm.size_eq;have go:∀i,i+1<(pendingOf f).size->wpS (model prog w) A E s (mergeAt' i) (λb k=>b=Zd/\SP κ bf le a₀ a₀.size k/\((pendingOf k).size<=1\/(pendingOf k).size+(y+1)<=a₀.size)) f:=λi hi =>
    zki C O (lo:=a₀.size) r.si hi r.ch (Ae _) λk pd4 o z4 F V=>⟨rfl,⟨o.kind,o.failed,o.perm,by rw[o.pend];exact F,λc p=>(r.cut c p).re V (by symm) (.inr p)⟩,by rw[o.pend];symm⟩
   refine An (Dw (go _ (by
    have g' : ¬ (pendingOf f).size<=1:=g;generalize (if (pendingOf f).size-2 > 0 then Option.map (λx=>x.snd.fst) (pendingOf f)[(pendingOf f).size-2-1]? else Zb)=bf9
    try dsimp only
    split<;>symm)) λb k z4=>?_)
   obtain⟨rfl,P4,z5⟩:=z4;refine q_if (λz=>by simp at z) λ_=>?_;exact As ⟨rfl,P4,z5⟩
end
end Tim
end L2
namespace L2
open PySem PySem.Spec PyProof.Rows
open PySem.AutoSeq1 (wpAny_loadPart')
open PySem.SeqAt
noncomputable def lexI:List Int->List Int->Bool
 |[],[]=>Zc
 |[],_::_=>Zd
 |_::_,[]=>Zc
 |a::c,b::bs=>if a=b then lexI c bs else decide (a<b)
theorem zdh:∀xs,lexI xs xs=Zc
 |[]=>rfl
 |a::b=>by unfold lexI;rw[if_pos rfl];exact zdh b
theorem zfd:∀{xs ys z:List Int},lexI xs ys=Zd->lexI ys z=Zd->lexI xs z=Zd
 |[],[],_,h,_=>by cases h
 |[],_::_,[],_,h=>by cases h
 |[],_::_,_::_,_,_=>rfl
 |_::_,[],_,h,_=>by cases h
 |_::_,_::_,[],_,h=>by cases h
 | a::i,b::bs,c::j,e,d=>by
  unfold lexI at e d ⊢;by_cases g:a=b
  ·subst g
   rw[if_pos rfl] at e;by_cases f:a=c
   ·rw[if_pos f] at d ⊢;exact zfd e d
   ·rw[if_neg f] at d ⊢;exact d
  ·rw [if_neg g] at e
   have k:=Ap e;by_cases f:b=c
   ·subst f;rw[if_neg g];exact e
   ·rw [if_neg f] at d
    have l:=Ap d;rw[if_neg (by symm)];exact Ah (by symm)
theorem zis:∀{xs ys:List Int},lexI xs ys=Zc->lexI ys xs=Zc->xs=ys
 |[],[],_,_=>rfl
 |[],_::_,h,_=>by cases h
 |_::_,[],_,h=>by cases h
 | a::f,b::bs,c,d=>by
  unfold lexI at c d;by_cases e:a=b
  ·subst e
   rw[if_pos rfl] at c d;rw[zis c d]
  ·rw [if_neg e] at c
   rw[if_neg (λz=>e z.symm)] at d;have:=of_decide_eq_false c;have:=of_decide_eq_false d;symm
theorem zpt (l b:Zh) (items i:Array Ze) (n L:Nat) (dd E:Option Zh) (P C:Array (Option Ze)) (ns v:List Int) (F:IntsAre items.toList ns) (I:IntsAre i.toList v) :
  Meets (Builtin.«tuple.__lt__» ⟨[.ref l,.ref b],[]⟩)
   (λA R s=>s.heap.get? l=Za { cls:=.type "tuple",dict:=dd,data:=.seq items n,slots:=P }/\s.heap.get? b=Za { cls:=.type "tuple",dict:=E,data:=.seq i L,slots:=C } /\
    R (.ok (.ret (.bool (lexI ns v)))) s) :=
 .of_wp λprog w A R s h=>by
  obtain⟨J,g,d,G,H⟩:=s;obtain⟨N,O,h⟩:=h;have S:=AutoSeq1.sub_tuple_tuple;have M:items.size=ns.length:=by have:=F.length;simpa using this
  have K:i.size=v.length:=by have:=I.length;simpa using this
  wp_walk using Dd N,Dd O,wpAny_forIn_list _ (λrest b D=>b.1=Zb/\D=⟨J,g,d,G,H⟩/\∃B z e m,rest=List.zip B z/\IntsAre B e/\IntsAre z m/\ns.length+m.length=e.length+v.length /\
   R (.ok (.ret (.bool (lexI e m)))) ⟨J,g,d,G,H⟩) _
  case turn =>
   rintro ⟨y,x⟩ rest b D ⟨o,rfl,B,z,e,m,p,r,j,f,k⟩;cases r with
   |nil=>simp at p
   | cons a t r =>
    cases j with
    |nil=>simp at p
    | cons c u j =>
     rw[List.zip_cons_cons] at p;injection p with hyx hrest;cases hyx;unfold lexI at k;refine Aa (wpAny_eqBool_int ?_);by_cases q:a=c
     ·rw [if_pos q] at k
      have:(a==c)=Zd:=by simpa using q
      rw[this]
      wp_walk
      exact⟨rfl,rfl,_,_,_,_,hrest,r,j,by simp at f;symm,k⟩
     ·rw [if_neg q] at k
      have:(a==c)=Zc:=by simpa using q
      rw[this];simp only [Gd,Fe];refine Aa (Ei ?_);refine Aa (show wpAny _ _ (compareOp .Lt _ _) _ _ _ from PyProof.Rows.lt_int ?_)
      wp_walk
      exact⟨_,rfl,by simpa using k⟩
  case fin =>
   rintro ⟨T,Q⟩ D ⟨o,rfl,B,z,e,m,p,r,j,f,k⟩;simp only at o;subst o
   wp_walk
   refine ⟨_,rfl,?_⟩;have:lexI e m=decide (items.size<i.size):=by
    rw[M,K];cases r with
    | nil =>
     cases j with
     |nil=>unfold lexI;apply Eq.symm;apply Az;simp at f;symm
     |cons c u j=>unfold lexI;apply Eq.symm;apply Ah;simp at f;symm
    | cons a t r =>
     cases j with
     |nil=>unfold lexI;apply Eq.symm;apply Az;simp at f;symm
     |cons c u j=>simp at p
   rw[this] at k;simpa [Builtin.Tuple.tupleCompareSizes] using k
  case h =>
   exact⟨rfl,rfl,items.toList,i.toList,ns,v,rfl,F,I,by symm,by simpa using h⟩
theorem znl (h:lexI xs zs=Zd):lexI xs ys=Zd\/lexI ys zs=Zd:=by
 cases q:lexI xs ys with
 |true=>exact .inl rfl
 | false =>
  cases q2:lexI ys xs with
  |true=>exact .inr (zfd q2 h)
  |false=>rw[zis q q2] at h;exact .inr h
theorem z2p (kf:Ze->List Int):Tim.Ord (λx y:Keyed=>lexI (kf x.1) (kf y.1)) (λ_ _=>True) (λx y=>lexI (kf y.1) (kf x.1)=Zc) where
 tr:=λ{x y z} b c=>by
  cases q:lexI (kf z.1) (kf x.1) with
  |false=>rfl
  | true =>
   rcases znl (ys:=kf y.1) q with a|a
   ·rw[c] at a;cases a
   ·rw[b] at a;cases a
 tot:=λx y=>by
  cases q:lexI (kf y.1) (kf x.1) with
  |false=>exact .inl rfl
  | true =>
   right
   cases q2:lexI (kf x.1) (kf y.1) with
   |false=>rfl
   | true =>
    have:=zfd q q2;rw[zdh] at this;cases this
 f1:=λ_=>Iff.rfl
 f2:=λ{x y} h=>by
  cases q2:lexI (kf y.1) (kf x.1) with
  |false=>rfl
  | true =>
   have:=zfd h q2;rw[zdh] at this;cases this
 irr:=λx=>zdh _
 ltr:=λb c=>zfd b c
 nt:=λy h=>znl h
section
theorem zuu (h:∀(x y:Keyed) (E:Ze->Zf->Prop) (Q:Bool->Zf->Prop),x∈a₀.toList->y∈a₀.toList->Q (lt x y) s->wpAny (model prog w) A (keyLt' κ x.1 y.1) Q E s):Tim.Asks prog w A E s κ a₀ lt:=λx y e Q a b c d=>by
 rw[lt'_eq];refine An (Hl ?_);rw[c];refine An (wpS_lift (Hk (h x y _ _ a b ⟨rfl,?_⟩)));exact As d
theorem zy1 {kf:Ze->List Int}(h:∀x∈a₀.toList,∃n t,x.1=.int n t/\kf x.1=[n]):Tim.Asks prog w A E s oneType' a₀ (λx y=>lexI (kf x.1) (kf y.1)):=zuu λx y E Q b c i=>by
 nofun;obtain⟨n,t,a,f⟩:=h x b;obtain⟨m,u,g,d⟩:=h y c;ac_rfl;rw[keyLt'_oneType,a,g];refine oneLt_int ?_;have e:lexI (kf x.1) (kf y.1)=decide (n<m):=by
  rw[f,d];unfold lexI;by_cases q:n=m
  ·rw[if_pos q];subst q;simp [lexI]
  ·rw[if_neg q]
 rw[<-e];exact i
theorem eqv_ints:∀ns m:List Int,PyData.eqvAll (ns.map .int) (m.map .int)=decide (ns=m)
 |[],[]=>by simp [PyData.eqvAll]
 |[],_::_=>by simp [PyData.eqvAll]
 |_::_,[]=>by simp [PyData.eqvAll]
 | a::ns,b::m=>by
  rw[Aw,Aw,PyData.eqvAll,eqv_ints ns m,PyData.eqv];by_cases h:a=b
  ·simp [h]
  ·simp [h]
theorem zd1:∀{i:List Ze}{ns:List Int},IntsAre i ns->ReadsAll h i (ns.map .int) []
 |_,_,.nil=>.nil
 |_,_,.cons n t r=>.cons (.int n t) (zd1 r)
theorem zj4 (q:IsTup h b its.toArray)(r:IntsAre its ns):Reads h (.ref b) (.tuple (ns.map .int)) []:=by
 obtain⟨o,c,g,n,a⟩:=id q;exact .tuple c g a (by simpa using zd1 r)
theorem zn9 (ns:List Int):PyData.canLay0 (.tuple (ns.map .int))=Zd:=by
 rw[PyData.canLay0];exact canLayAll_ints ns
theorem depth_ints (ns:List Int):PyData.depth (.tuple (ns.map .int))<=1:=by
 rw[PyData.depth,depthAll_ints]
 decide
theorem zzm (d:A.units+1<cLine) (a:IsTup s.heap b its.toArray) (q:IntsAre its ns) (p:IsTup s.heap b' its'.toArray) (c:IntsAre its' ns') (h:Q (decide (ns=ns')) s) :
  wpAny (model prog w) A (eqBool (.ref b) (.ref b')) Q E s:=by
 refine PySem.SeqAt.eqBoolOverData prog w A E s _ _ _ _ [] [] Q (zj4 a q) (zj4 p c) (zn9 ns) (zn9 ns') ?_ ?_
 ·have:=depth_ints ns;symm
 ·have e:PyData.eqv (.tuple (ns.map .int)) (.tuple (ns'.map .int))=decide (ns=ns'):=by rw[PyData.eqv];exact eqv_ints ns ns'
  rw[e];exact h
theorem zw1 (m:A.units<cLine) (r:IsTup s.heap b its.toArray) (q:IntsAre its ns) (t:IsTup s.heap b' its'.toArray) (p:IntsAre its' ns') (h:Q (.bool (lexI ns ns')) s) :
  wpAny (model prog w) A (compareOp .Lt (.ref b) (.ref b')) Q E s:=by
 nofun;obtain⟨⟨cls,u,data,v⟩,j,k,n,i⟩:=id r;obtain⟨⟨l,g,f,e⟩,d,a,o,c⟩:=id t;ac_rfl;simp only at k i a c;subst k i a c;exact richCompare_meets_room (op:=.Lt) ⟨_,j,rfl⟩ ⟨_,d,rfl⟩ F.slot_tuple_lt F.entry_tuple_lt (F.args_tuple_lt_2 _ _) (zpt b b' its.toArray its'.toArray n o u g v e ns ns' (by simpa using q) (by simpa using p))
  ⟨j,d,show Ze.bool (lexI ns ns')≠Ze.notImplemented/\Q (.bool (lexI ns ns')) s from ⟨(λx=>nomatch x),h⟩⟩ m
structure KeyT (h:Heap) (v:Ze) (k:List Int):Prop where
 ex:∃(a b:Zh) (i:Int) (t:Tok) (ns:List Int) (its:List Ze) (c:Ze),v=.ref a/\k=i::ns/\IsTup h a [.int i t,c].toArray/\c=.ref b/\IsTup h b its.toArray/\IntsAre its ns
theorem zys {kf:Ze->List Int}(O:A.units+2<cLine)(h:∀x∈a₀.toList,KeyT s.heap x.1 (kf x.1)):Tim.Asks prog w A E s (tuples' Zd) a₀ (λx y=>lexI (kf x.1) (kf y.1)):=zuu λx y E Q M u d=>by
 nofun;obtain⟨a,b,i,t,J,m,c,F,C,G,rfl,k,q⟩:=(h x M).ex;obtain⟨W,P,f,U,g,its',V,K,I,r,rfl,l,p⟩:=(h y u).ex;ac_rfl;rw[C,I] at d;rw[F,K];nofun;obtain⟨o,L,T,n,H⟩:=id G;obtain⟨N,B,S,R,D⟩:=id r;ac_rfl;refine PySem.W.kat_lt L H B D ?_;refine PySem.W.kat_cons (wpAny_eqBool_int ?_);unfold lexI at d;by_cases z:i=f
 ·have j:(i==f)=Zd:=by simpa using z
  rw[j];rw[if_pos z] at d;refine PySem.W.kat_yes (PySem.W.kat_cons (zzm (by symm) k q l p ?_));by_cases e:J=g
  ·rw[Ah e];refine PySem.W.kat_yes (PySem.W.kat_nil ?_);subst e;rw[zdh] at d;exact d
  ·rw[Az e];refine PySem.W.kat_no ?_;exact PySem.W.kat_one _ _ (zw1 (by symm) k q l p d)
 ·have j:(i==f)=Zc:=by simpa using z
  rw[j];rw[if_neg z] at d;refine PySem.W.kat_no ?_;exact oneLt_int d
end
end L2
namespace L2
open PySem PySem.Spec PyProof.Rows
section
theorem zxd {st:SortSt} (k:s.heap.get? kS=Za (seqObj "list" keys e)) (l:s.heap.get? a=Za #v[5,16]) (d:kS≠a) (m:keys.size<=sizeLine) (i:(arrOf st).size<=sizeLine) (r:failedOf st=Zb)
  (h:∀h' c,h'.get? a=Za (seqObj "list" ((arrOf st).map (·.2)) c)->(∀b o,b≠a->b≠kS->s.heap.get? b=Za o->h'.get? b=Za o)->P (.done (.ret .none)) { s with heap:=h' }):wpAny (model prog w) A (ksk_tail a Zc e1 (.ref kS) st) P E s:=by
 have f:=Dv s.heap kS #v[3,11];have n:(s.heap.update kS #v[3,11]).get? a=Za #v[5,16]:=(f.2 a d.symm).trans l;have j:=Dv (s.heap.update kS #v[3,11]) a (Obj.mapSeq λ_=>(arrOf st).map (·.2));unfold ksk_tail
 try dsimp only
 refine Aa (listUpdate_at k rfl ?_ m (Cj _));refine Aa (wpAny_letGo ?_);refine Aa (seqEpoch_at n rfl ?_);refine Aa (listUpdate_at n rfl ?_ (Cj _) (by simp only [Cz,Fx,Array.size_map];symm));rw[r];simp only [bne_self_eq_false,Cz,Fx];refine Ar (h _ _ (get?_update_seq n λ_=>(arrOf st).map (·.2)) λb o p q g=>?_);exact (j.2 b p).trans ((f.2 b q).trans g)
theorem z2y {kf:Ze->List Int}{bf le:Keyed->Keyed->Prop} (O:Tim.Ord (λx y:Keyed=>lexI (kf x.1) (kf y.1)) bf le) (K:∀c,Tim.Cut bf (keys.zip vs.toArray) c) (z:s.heap.get? kS=Za (seqObj "list" keys e)) (u:s.heap.get? a=Za #v[5,16]) (m:kS≠a) (I:keys.size=vs.length) (D:vs.length<=sizeLine)
  (B:2<=vs.length->∀q:SortKind->Zf->Prop,q κ s->wpAny (model prog w) A (keyKind' keys) q E s)
  (C:Tim.Asks prog w A E s κ (keys.zip vs.toArray) (λx y=>lexI (kf x.1) (kf y.1)))
  (h:∀(r:List Keyed) h' c,r.Perm (keys.toList.zip vs)->r.Pairwise le->h'.get? a=Za (seqObj "list" (r.map (·.2)).toArray c)->(∀b o,b≠a->b≠kS->s.heap.get? b=Za o->h'.get? b=Za o)->P (.done (.ret .none)) { s with heap:=h' }) :
  wpAny (model prog w) A (ksk_end a Zc vs.toArray e1 (.ref kS) keys) P E s:=by
 have l:(keys.zip vs.toArray).size=vs.length:=by rw[Array.size_zip,I,Aj,Nat.min_self]
 have fin:∀f:SortSt,(arrOf f).Perm (keys.zip vs.toArray)->failedOf f=Zb->Tim.Srt le (arrOf f) 0 (keys.zip vs.toArray).size->wpAny (model prog w) A (ksk_tail a Zc e1 (.ref kS) f) P E s:=λf k p n=>by
  refine zxd z u m (by symm) (by rw[k.size_eq,l];exact D) p λh' c H J=>?_;refine h (arrOf f).toList h' c ?_ (Tim.srt_list (by rw[k.size_eq];exact n)) (by rw[H,<-Array.toList_map,Array.toArray_toList]) J;rw[<-ksk_zip];exact Gy.mp k
 unfold ksk_end
 try dsimp only
 simp only [Cz,Fx];by_cases g:vs.toArray.size<2
 ·rw[if_pos g,if_pos g];refine Aa (Ar ?_);rw[StateT.run_pure];refine Aa (Ar ?_)
  try dsimp only
  refine fin (SortSt.mk' general' (keys.zip vs.toArray) #[] 7 Zb) (Array.Perm.refl _) rfl λi j _ M L=>?_;rw[Aj] at g;symm
 ·rw [if_neg g,if_neg g];rw [Aj] at g;refine Aa (B (by symm) _ ?_);refine Aa (Cs (Tim.q_sort (bf:=bf) (st:=SortSt.mk' κ (keys.zip vs.toArray) #[] 7 Zb) (Q:=λ_ d=>(arrOf d).Perm (keys.zip vs.toArray)/\failedOf d=Zb/\Tim.Srt le (arrOf d) 0 (keys.zip vs.toArray).size)
   C O ⟨rfl,rfl,Array.Perm.refl _,rfl⟩ rfl K λd G t F=>⟨t,G,F⟩) ?_ λ_ _ e=>e)
  rintro ⟨⟨⟩,d⟩ N ⟨rfl,k,p,n⟩
  try dsimp only
  exact fin d k p n
end
noncomputable abbrev KP:=List Int×W
noncomputable def insK (x:KP):List KP->List KP
 |[]=>[x]
 |y::a=>if lexI x.1 y.1 then x::y::a else y::insK x a
noncomputable def zrj:List KP->List KP
 |[]=>[]
 |x::a=>insK x (zrj a)
theorem zge (x:KP):∀l,(insK x l).Perm (x::l)
 |[]=>.refl _
 | y::a=>by
  unfold insK;split
  ·exact .refl _
  ·exact ((zge x a).cons y).trans (.swap x y a)
theorem zh9:∀l:List KP,(zrj l).Perm l
 |[]=>.refl _
 |x::a=>(zge x _).trans ((zh9 a).cons x)
noncomputable abbrev leK (x y:KP):Prop:=lexI y.1 x.1=Zc
theorem z8q (h:leK x y) (b:leK y z):leK x z:=by
 unfold leK at *
 cases q:lexI z.1 x.1 with
 |false=>rfl
 | true =>
  rcases znl (ys:=y.1) q with a|a
  ·rw[b] at a;cases a
  ·rw[h] at a;cases a
theorem zlw (h:lexI x.1 y.1=Zd):leK x y:=by
 unfold leK;cases q:lexI y.1 x.1 with
 |false=>rfl
 | true =>
  have:=zfd h q;rw[zdh] at this;cases this
theorem zf7:∀{l:List KP},l.Pairwise leK->(insK x l).Pairwise leK
 |[],_=>List.pairwise_singleton _ _
 | y::c,h=>by
  have b:=Cw.mp h;unfold insK;split
  ·rename_i q
   refine Cw.mpr ⟨λz a=>?_,h⟩;rcases Ak.mp a with rfl|a
   ·exact zlw q
   ·exact z8q (zlw q) (b.1 z a)
  ·rename_i q
   refine Cw.mpr ⟨λz a=>?_,zf7 b.2⟩;rcases Ak.mp ((zge x c).mem_iff.mp a) with rfl|a
   ·unfold leK;simpa using q
   ·exact b.1 z a
theorem zfk:∀l:List KP,(zrj l).Pairwise leK
 |[]=>.nil
 |x::a=>zf7 (zfk a)
theorem zh4:∀{l a:List KP},l.Perm a->l.Pairwise leK->a.Pairwise leK->(∀x∈l,∀y∈l,x.1=y.1->x=y)->l=a
 |[],a,p,_,_,_=>p.nil_eq
 |x::k,[],p,_,_,_=>by simpa using p.length_eq
 | x::k,y::n,p,o,q,g=>by
  have i:=Cw.mp o;have j:=Cw.mp q;have f:y∈x::k:=p.mem_iff.mpr Au;have m:x∈y::n:=p.mem_iff.mp Au;have c:x=y:=by
   rcases Ak.mp f with e|b
   ·exact e.symm
   ·rcases Ak.mp m with e | h
    ·exact e
    ·exact g x Au y f (zis (show lexI x.1 y.1=Zc from j.1 x h) (show lexI y.1 x.1=Zc from i.1 y b))
  subst c;have s:=(List.perm_cons x).mp p;rw[zh4 s i.2 j.2 λu d v r=>g u (Ai _ d) v (Ai _ r)]
inductive All2 {α β:Type} (R:α->β->Prop):List α->List β->Prop where
 |nil:All2 R [] []
 |cons {a b as bs} (h:R a b) (t:All2 R as bs):All2 R (a::as) (b::bs)
theorem All2.perm {α β:Type}{R:α->β->Prop}{bs b:List β} (p:bs.Perm b):∀{as:List α},All2 R as bs->∃a,as.Perm a/\All2 R a b:=by
 induction p with
 |nil=>exact λh=>⟨_,.refl _,h⟩
 | cons x p j =>
  intro as h;cases h with
  | cons h t =>
   obtain⟨a,q,c⟩:=j t;exact⟨_,q.cons _,.cons h c⟩
 | swap x y l =>
  intro as h;cases h with
  | cons e t =>
   cases t with
   |cons f t=>exact⟨_,.swap _ _ _,.cons f (.cons e t)⟩
 | trans m n i g =>
  intro as h;obtain⟨k,q,e⟩:=i h;obtain⟨d,c,f⟩:=g e;exact⟨d,q.trans c,f⟩
theorem All2.pair {α β:Type}{R:α->β->Prop}{P:α->α->Prop}{Q:β->β->Prop} (d:∀a b e c,R a b->R e c->Q b c->P a e):∀{as:List α}{bs:List β},All2 R as bs->bs.Pairwise Q->as.Pairwise P
 |_,_,.nil,_=>.nil
 | _,_,.cons h t,l=>by
  have i:=Cw.mp l;refine Cw.mpr ⟨λe f=>?_,All2.pair d t i.2⟩;have:∀{as:List α}{bs:List β},All2 R as bs->e∈as->∃c,c∈bs/\R e c:=by
   intro as bs h
   induction h with
   |nil=>intro z;cases z
   | cons h t k =>
    intro z;rcases Ak.mp z with rfl|z
    ·exact⟨_,Au,h⟩
    ·obtain ⟨c, q,j⟩:=k z
     exact⟨c,Ai _ q,j⟩
  obtain⟨c,g,m⟩:=this t f;exact d _ _ _ _ h m (i.1 c g)
noncomputable def zv7:List W->Option (List Int)
 |[]=>Za []
 |.int i::w=>(zv7 w).bind λa=>Za (i::a)
 |_=>Zb
noncomputable def kI:W->Option (List Int)
 |.int i=>Za [i]
 |_=>Zb
noncomputable def kT:W->Option (List Int)
 |.tup [.int i,.tup x]=>(zv7 x).bind λa=>Za (i::a)
 |_=>Zb
noncomputable def mapO {α β:Type} (f:α->Option β):List α->Option (List β)
 |[]=>Za []
 |a::c=>(f a).bind λb=>(mapO f c).bind λbs=>Za (b::bs)
noncomputable def zf4:List (List Int)->Bool
 |[]=>Zd
 |x::a=>a.all (λy=>decide (x≠y))&&zf4 a
theorem zgr:∀{l:List (List Int)},zf4 l=Zd->l.Nodup
 |[],_=>List.nodup_nil
 | x::a,h=>by
  unfold zf4 at h;rw[Af] at h;refine Cp.mpr ⟨λz=>?_,zgr h.2⟩;have:=Be.mp h.1 x z;simp at this
noncomputable def ztb (a ws:List W):Option (List W):=((mapO kI a).orElse λ_=>mapO kT a).bind λk=>if zf4 k&&decide (k.length=ws.length) then Za ((zrj (k.zip ws)).map (·.2)) else Zb
noncomputable def Cx.inn (X:Cx):Cx:={ X with A:=X.A.in1.in1 }
section
variable {X:Cx}{pins:List (Zh × Obj)}{σ:St}{H:Hp}{s:Zf}
theorem Cx.Ok.inn (o:X.Ok):X.inn.Ok:=⟨o.mod,o.kind,o.glob,o.blt,o.above,o.inj,o.has,o.cab,o.hd,o.frames,o.stk,o.exf,o.bs,o.bsz,o.noex,o.exfs,o.funs,o.frf⟩
theorem Cx.Ok.out (o:X.inn.Ok):X.Ok:=⟨o.mod,o.kind,o.glob,o.blt,o.above,o.inj,o.has,o.cab,o.hd,o.frames,o.stk,o.exf,o.bs,o.bsz,o.noex,o.exfs,o.funs,o.frf⟩
theorem Inv.inn (I:Inv X pins σ H s):Inv X.inn pins σ H s:=⟨I.ok.inn,I.os,I.bare,I.base,I.loc,I.cell,I.free,I.freeC,I.pin,I.hok,I.len⟩
theorem Inv.out (I:Inv X.inn pins σ H s):Inv X pins σ H s:=⟨I.ok.out,I.os,I.bare,I.base,I.loc,I.cell,I.free,I.freeC,I.pin,I.hok,I.len⟩
theorem Inv.adopt {ch:List Zh}{T:Zh}{o:HO} (I:Inv X pins σ H s) (k:∀b o,b ∉ ch->s.heap.get? b=Za o->h'.get? b=Za o) (h:∀b∈ch,FpOk X pins H b) (i:T∈ch)
  (new:zbh X.prog X.w (upd H T o) h' T o):Inv X pins σ (upd H T o) { s with heap:=h',toks:=t' }:=by
 have g:H T=Zb:=(h T i).1;have f:∀b u,H b=Za u->b ∉ ch:=λb u e d=>by rw[(h b d).1] at e;exact noSome e
 refine I.step (g':=s.gens) (d':=s.drawn) (ch:=ch) (λb d=>⟨(h b d).2.2.2.1,(h b d).2.1,(h b d).2.2.2.2.1,(h b d).2.2.2.2.2⟩) (λb o _ _ a e _=>k b o a e) (λb o _ _ a e _=>⟨o.slots,k b o a e⟩) (λb u a e n=>by rw[upd_ne (λz=>a (by rw[z];exact i))];exact n)
  (λb u a e=>⟨u,k b u a e⟩) (λb x e=>by rw[upd_ne (zac e g)];exact e) (λb u x e=>by rw[upd_ne (zac e g)];exact e) (λb w e=>⟨#[],by rw[upd_ne (zac e g),e];simp⟩) (λm l=>?_) (λb u e=>?_) I.bare
 ·obtain⟨o,p,t,j,r⟩:=l;exact⟨o,p,t,k _ o (λz=>(h _ z).2.1 rfl) j,r⟩
 ·by_cases d:b=T
  ·subst d;rw[upd_same] at e;obtain rfl:=sI e;exact new
  ·rw[upd_ne d] at e;refine (I.hok b u e).stay (λc v a q=>k c v ?_ q) (λc q=>by rw[upd_ne (zac q g)];exact q) λc x q=>by rw[upd_ne (zac q g)];exact q
   rcases a with z|z
   ·rw[z];exact f b u e
   ·exact f c _ z
structure KCall (X:Cx) (f:Ze) (Φ:W->Option W) (Al:List (Zh×Obj)->Hp->Prop):Prop where
 mono:∀{pins pins':List (Zh×Obj)}{F F':Hp},Al pins F->(∀p∈pins,p∈pins')->Same F F'->Al pins' F'
 run:∀(pins:List (Zh×Obj)) (s:Zf) (σ:St) (H F:Hp) (pr:Prt) (en:En) (w k:W) (v:V) (u:Ze),Al pins F->Inv X pins σ H s->Rel X.K F pr en σ H->Rep X.K F w v->RelV v u->Φ w=Za k ->
  wpAny #v[1,7] X.A (call f [u]) (λu' s'=>∃v' F' H',Inv X pins σ H' s'/\Same F F'/\Rel X.K F' pr en σ H'/\RelV v' u'/\Rep X.K F' k v') (λ_ _=>False) s
structure Apart (X:Cx) (pins:List (Zh×Obj)) (b:Zh):Prop where
 l:b≠X.env.locals
 f:b ∉ X.fs
 x:b∈X.ex\/X.s₀.heap.objs.size<=b
 c:∀x c,X.env.cells.lookup x=Za c->c≠b
 p:∀p∈X.pn++pins,p.1≠b
theorem Apart.fp (a:Apart X pins b)(h:H b=Zb):FpOk X pins H b:=⟨h,a.l,a.f,a.x,a.c,a.p⟩
theorem FpOk.apart (h:FpOk X pins H b):Apart X pins b:=⟨h.2.1,h.2.2.1,h.2.2.2.1,h.2.2.2.2.1,h.2.2.2.2.2⟩
theorem zfz {α β:Type}{f:α->Option β}:∀{as:List α}{bs:List β}{i:Nat}{a:α},mapO f as=Za bs->as[i]?=Za a->∃b,f a=Za b/\bs[i]?=Za b
 |[],_,_,_,_,h=>by simp at h
 | x::l,bs,i,a,e,h=>by
  obtain⟨b,g,e⟩:=bS e;obtain⟨k,j,e⟩:=bS e;obtain rfl:=sI e;cases i with
  |zero=>simp at h;subst h;exact⟨b,g,rfl⟩
  | succ i =>
   obtain⟨c,q,d⟩:=zfz (i:=i) j (by simpa using h);exact⟨c,q,by simpa using d⟩
theorem zf1 {α β:Type}{f:α->Option β}:∀{as:List α}{bs:List β},mapO f as=Za bs->bs.length=as.length
 |[],_,e=>by obtain rfl:=sI e;rfl
 | x::d,bs,e=>by
  obtain⟨b,c,e⟩:=bS e;obtain⟨a,h,e⟩:=bS e;obtain rfl:=sI e;exact congrArg (· + 1) (zf1 h)
theorem zxf (KC:KCall X f Φ Al) {a kS:Zh}{e1:Nat}{vs:List Ze}{vvs:List V}{ws m:List W}{P:PySem.Fin->Zf->Prop}{E:Ze->Zf->Prop}
  (I:Inv X ((kS,seqObj "list" #[] 0)::(a,seqObj "list" #[] e1)::pins) σ H s) (al:Al pins F) (R:Rel X.K F pr en σ H) (Z:Vals vvs vs) (n:Reps X.K F ws vvs) (U:mapO Φ ws=Za m) (hz:vs.length<=sizeLine)
  (d:Apart X ((a,seqObj "list" #[] e1)::pins) kS)
  (fin:∀s' H' c keys e kvs,Inv X ((kS,seqObj "list" keys e)::(a,seqObj "list" #[] e1)::pins) σ H' s'->Same F c->Rel X.K c pr en σ H'->Vals kvs keys.toList->Reps X.K c m kvs->wpAny #v[1,7] X.A (ksk_end a Zc vs.toArray e1 (.ref kS) keys) P E s') :
  wpAny #v[1,7] X.A (ksk_rest a f Zc vs.toArray e1 (.ref kS)) P E s:=by
 have lw:ws.length=vs.length:=by rw[n.length,Z.length]
 have lk:m.length=vs.length:=by rw[zf1 U,lw]
 unfold ksk_rest;refine Aa (Ei ?_);rw[List.forIn_toArray];refine Aa (ksk_fold (λi s'=>∃H' c keys e kvs,Inv X ((kS,seqObj "list" keys e)::(a,seqObj "list" #[] e1)::pins) σ H' s'/\Same F c/\Rel X.K c pr en σ H'/\Vals kvs keys.toList/\Reps X.K c (m.take i) kvs) vs 0 s
  ⟨H,F,#[],0,[],I,.refl F,R,.nil,.nil⟩ ?step ?done)
 case step =>
  rintro j x s' hx ⟨H',c,keys,e,kvs,A,t,C,y,r⟩;simp only [Cr] at r ⊢;have hj:j<vs.length:=(Ag.mp hx).1;obtain⟨w,T⟩ : ∃w,ws[j]?=Za w:=⟨_,Ac (by symm)⟩;nofun;obtain⟨k,D,O⟩:=zfz U T;obtain⟨v,hv,K⟩:=n.get T;obtain⟨u,S,ru⟩:=Z.get hv;ac_rfl;rw[hx] at S;obtain rfl:=sI S;have zk:keys.size<=vs.length:=by
   have a1:kvs.length=keys.size:=y.length.trans Bx;have a2:min j m.length=kvs.length:=by rw[<-Ds];exact r.length
   symm
  refine Aa (Hk (Cs (KC.run _ s' σ H' c pr en w k v x (KC.mono al (λp h=>Ai _ (Ai _ h)) t) A C (K.mono t) ru D) (λl g he=>?_) λ_ _ hF=>hF.elim));nofun;obtain⟨v',F2,G,Q,q,R2,L,N⟩:=he;obtain⟨B,Y,_,_,_⟩:=Q.pin (kS,seqObj "list" keys e) (Ay _ Au);ac_rfl
  try dsimp only
  refine Aa (listUpdate_at B rfl ?_ (by symm) (Bz (Nat.le_of_eq (Array.size_push ..)) (by symm)));have sb:=Dv g.heap kS (Obj.mapSeq (·.push l));obtain⟨J,M⟩ : ∃J,(g.heap.update kS (Obj.mapSeq (·.push l))).get? kS=Za (seqObj "list" (keys.push l) J):=⟨_,get?_update_seq B (·.push l)⟩;have I3:Inv X ((a,seqObj "list" #[] e1)::pins) σ G g:=Q.pins_of λp h=>Q.pin p (Ay _ (Ai _ h));have I4:Inv X ((a,seqObj "list" #[] e1)::pins) σ G { g with heap:=g.heap.update kS (Obj.mapSeq (·.push l)) }:=I3.turned (t':=g.toks) (it:=kS) (λb o hb eb=>(sb.2 b hb).trans eb) Y d.l d.x d.c d.p;refine Ar ⟨rfl,G,F2,keys.push l,J,kvs++[v'],?_,t.trans q,R2,?_,?_⟩
  ·refine I4.pins_of λp h => ?_;rcases Ak.mp h with rfl|h
   ·exact⟨M,Y,d.l,d.f,λv z=>by cases z⟩
   ·exact I4.pin p (Ay _ h)
  ·rw[Dm];exact Vals.append y (.cons L .nil)
  ·rw[List.take_add_one,O];exact (r.mono q).append (.cons N .nil)
 case done =>
  rintro s' ⟨H',c,keys,e,kvs,A,t,C,y,r⟩;rw[Cr,Gc (by symm)] at r;obtain⟨B,_⟩:=A.pin (kS,seqObj "list" keys e) (Ay _ Au)
  try dsimp only
  refine Aa (listItems_at B rfl ?_);exact fin s' H' c keys e kvs A t C y r
end
noncomputable def intV:V->Option Int
 |.int j=>Za j
 |_=>Zb
noncomputable def kfV (H:Hp):Ze->List Int
 |.int n _=>[n]
 | .ref a=>match H a with
  | some (.tup [.int i,.ref b])=>(match H b with
   |some (.tup v)=>i::v.filterMap intV
   |_=>[])
  |_=>[]
 |_=>[]
theorem zg8:∀a:List Int,(a.map V.int).filterMap intV=a
 |[]=>rfl
 |i::a=>by rw[Aw,Gs];show i::_=_;rw[zg8 a]
theorem zhm {K:Zg}:∀{ws:List W}{a:List Int}{vs:List V},zv7 ws=Za a->Reps K F ws vs->vs=a.map V.int
 |[],_,_,e,r=>by obtain rfl:=sI e;cases r;rfl
 | w::ws,a,vs,e,r=>by
  cases w with
  | int i =>
   obtain⟨c,h,e⟩:=bS (show (zv7 ws).bind _=_ from e);obtain rfl:=sI e;cases r with
   | cons b r =>
    cases b;rw[zhm h r];rfl
  |_=>exact noSome e
theorem zt6 (h:Vals (a.map V.int) its):IntsAre its a:=by
 induction a generalizing its with
 |nil=>cases h;exact .nil
 | cons i a b =>
  cases h with
  | cons d t =>
   obtain⟨c,rfl⟩:=d;exact .cons i c (b t)
section
variable {X:Cx}{pins:List (Zh × Obj)}{σ:St}{H F:Hp}{s:Zf}
theorem zsf {k:W}{a:List Int}{v:V}{u:Ze} (e:kI k=Za a) (r:Rep X.K F k v) (b:RelV v u):(∃n t,u=.int n t/\kfV H u=[n])/\kfV H u=a:=by
 cases k with
 | int i =>
  obtain rfl:=sI e;cases r;obtain⟨t,rfl⟩:=b;exact⟨⟨i,t,rfl,rfl⟩,rfl⟩
 |_=>exact noSome e
theorem zsc (I:Inv X pins σ H s) (sm:Same F H) (e:kT k=Za kl) (r:Rep X.K F k v) (A:RelV v u):KeyT s.heap u kl/\kfV H u=kl:=by
 unfold kT at e;split at e
 ·rename_i i J
  obtain⟨x,E,e⟩:=bS e;obtain rfl:=sI e;cases r with
  | @tup G a j h f =>
   cases f with
   | @cons _ K _ l p f =>
    cases p;cases f with
    | @cons _ M _ o z f =>
     cases f;cases z with
     | @tup _ b L g n =>
      have B:=zhm E n;subst B;cases (show u=Ze.ref a from A);nofun;obtain⟨m,d,w,_⟩:=I.tuple (.inl (.inl (sm _ _ h)));obtain⟨c,q,C,_⟩:=I.tuple (.inl (.inl (sm _ _ g)));ac_rfl;cases d with
      | cons y d =>
       cases d with
       | cons D d =>
        cases d;obtain⟨t,rfl⟩:=y;cases (show _=Ze.ref b from D);refine⟨⟨a,b,i,t,x,c,.ref b,rfl,rfl,w,rfl,C,zt6 q⟩,?_⟩;show (match H a with|some (.tup [.int i,.ref b])=>_|_=>_)=_;rw[sm _ _ h];show (match H b with|some (.tup j)=>i::j.filterMap intV|_=>[])=_;rw[sm _ _ g];show i::_=_;rw[zg8]
 ·exact noSome e
theorem zwt {keys:Array Ze}{vs:List Ze}{m:List W}{kvs:List V}{C:List (List Int)}{A:Around}{E:Ze->Zf->Prop} (I:Inv X pins σ H s) (sm:Same F H) (B:A.units+2<cLine) (S:Vals kvs keys.toList) (Y:Reps X.K F m kvs) (d:((mapO kI m).orElse λ_=>mapO kT m)=Za C) (hl:keys.size=vs.length) :
  ∃κ:SortKind,(2<=vs.length->∀N:SortKind->Zf->Prop,N κ s->wpAny #v[1,7] A (keyKind' keys) N E s)/\Tim.Asks X.prog X.w A E s κ (keys.zip vs.toArray) (λx y=>lexI (kfV H x.1) (kfV H y.1))/\keys.toList.map (kfV H)=C:=by
 have lk:m.length=keys.size:=by rw[Y.length,S.length,Bx]
 have mem:∀x∈(keys.zip vs.toArray).toList,∃i,keys.toList[i]?=Za x.1:=λx J=>by
  rw[ksk_zip] at J;obtain⟨a,b⟩:=x;have:=(Es J).1;obtain⟨i,p,e⟩:=Dy.mp this;exact⟨i,by rw[Ac p,e]⟩
 have back:∀(f:W->Option (List Int)),mapO f m=Za C->(∀(k:W) (l:List Int) (v:V) (u:Ze),f k=Za l->Rep X.K F k v->RelV v u->kfV H u=l)->keys.toList.map (kfV H)=C:=λf R hk=>by
  apply Dk;intro i;rw[Am];by_cases p:i<keys.size
  ·obtain ⟨k,K⟩ : ∃ k,m[i]? = Za k:=⟨_,Ac (by symm)⟩
   nofun;obtain⟨l,g,Z⟩:=zfz R K;obtain⟨v,ev,r⟩:=Y.get K;obtain⟨u,P,j⟩:=S.get ev;ac_rfl;rw[P,Z];exact congrArg Za (hk k l v u g r j)
  ·rw[Bw (by simpa using p),Bw (by rw[zf1 R];symm)];rfl
 have O : ∀(f:W->Option (List Int)),mapO f m=Za C->∀(i:Nat) (u:Ze),keys.toList[i]?=Za u->∃k l v,f k=Za l/\Rep X.K F k v/\RelV v u:=λf R i u B=>by
  have p:i<keys.size:=by have:=(Ag.mp B).1;simpa using this
  obtain⟨k,K⟩ : ∃k,m[i]?=Za k:=⟨_,Ac (by symm)⟩;nofun;obtain⟨l,g,Z⟩:=zfz R K;obtain⟨v,ev,r⟩:=Y.get K;obtain⟨u',P,j⟩:=S.get ev;ac_rfl;rw[B] at P;obtain rfl:=sI P;exact⟨k,l,v,g,r,j⟩
 cases q:mapO kI m with
 | some kl' =>
  rw [q] at d;cases (show Za kl'=Za C from d);have all:∀(i:Nat) (u:Ze),keys.toList[i]?=Za u->∃n t,u=.int n t/\kfV H u=[n]:=λi u B=>by
   nofun;obtain⟨k,l,v,g,r,j⟩:=O kI q i u B;ac_rfl;exact (zsf (H:=H) g r j).1
  refine⟨oneType',λh2 N U=>?_,zy1 λx J=>?_,back kI q λk l v u g r j=>(zsf (H:=H) g r j).2⟩
  ·have ia:=intsAre_map keys.toList λv w=>by
    nofun;obtain⟨i,p,e⟩:=Dy.mp w;obtain⟨n,t,h,_⟩:=all i v (by rw[Ac p,e]);ac_rfl;exact⟨n,t,h⟩
   rw[ksk_kind ia (by symm)];exact Ar U
  ·obtain ⟨i,p⟩:=mem x J
   exact all i x.1 p
 | none =>
  rw [q] at d;have d:mapO kT m=Za C:=d;have all:∀(i:Nat) (u:Ze),keys.toList[i]?=Za u->KeyT s.heap u (kfV H u):=λi u B=>by
   nofun;obtain⟨k,l,v,g,r,j⟩:=O kT d i u B;obtain⟨D,G⟩:=zsc I sm g r j;ac_rfl;rw[G];exact D
  refine⟨tuples' Zd,λh2 N U=>?_,zys B λx J=>?_,back kT d λk l v u g r j=>(zsc I sm g r j).2⟩
  ·have kt:∃fs:List Ze,PySem.W.KatTups s.heap keys.toList fs/\fs.length=keys.size/\∀v∈fs,∃n t,v=.int n t:=by
    have gen:∀l:List Ze,(∀(i:Nat) (u:Ze),l[i]?=Za u->KeyT s.heap u (kfV H u))->∃fs:List Ze,PySem.W.KatTups s.heap l fs/\fs.length=l.length/\∀v∈fs,∃n t,v=.int n t:=by
     intro l
     induction l with
     |nil=>exact λ_=>⟨[],trivial,rfl,λv w=>by simp at w⟩
     | cons u l ih =>
      intro h;nofun;obtain⟨fs,D,G,L⟩:=ih λi v w=>h (i+1) v (by simpa using w);obtain⟨a,b,i,t,ns,its,c,g,Z,q1,rfl,q2,q3⟩:=(h 0 u rfl).ex;obtain⟨o,k1,k2,n,k3⟩:=id q1;ac_rfl;subst g;exact⟨.int i t::fs,PySem.W.KatTups.cons k1 k2 k3 rfl D,by simpa using G,λv w=>(Ak.mp w).elim (λz=>⟨i,t,z⟩) (L v)⟩
    nofun;obtain⟨fs,D,G,L⟩:=gen keys.toList all;ac_rfl;exact⟨fs,D,by simpa using G,L⟩
   refine aG λ_ qG=>?_;obtain ⟨fs,D,G,L⟩:=kt;refine qG ?_;clear qG;have:=PySem.W.kat_kind (M:=model X.prog X.w) (A:=A) (E:=E) (s:=s) (T:=.type "int") (Q:=N) D (by symm) (λv w=>by
    obtain⟨n,t,rfl⟩:=L v w;exact .now) rfl U
   rw[Array.toArray_toList] at this;exact this
  ·obtain ⟨i,p⟩:=mem x J
   exact all i x.1 p
end
section
theorem zt0 {α:Type} [DecidableEq α] {β:Type}:∀{d:List α}{ws:List β},d.Nodup->∀x∈d.zip ws,∀y∈d.zip ws,x.1=y.1->x=y
 |[],_,_,x,h,_,_,_=>by simp at h
 |_::_,[],_,x,h,_,_,_=>by simp at h
 | k::d,w::ws,f,x,h,y,c,e=>by
  have n:=Cp.mp f;rw[List.zip_cons_cons] at h c;rcases Ak.mp h with rfl|h
  ·rcases Ak.mp c with rfl | c
   ·rfl
   ·have:=(Es (a:=y.1) (b:=y.2) c).1
    exact absurd (by rw[<-e] at this;exact this) n.1
  ·rcases Ak.mp c with rfl | c
   ·have:=(Es (a:=x.1) (b:=x.2) h).1
    exact absurd (by rw[e] at this;exact this) n.1
   ·exact zt0 n.2 x h y c e
theorem zo3 {K:Zg}:∀{ku:List Ze}{ws:List W}{vvs:List V}{vs:List Ze},Vals vvs vs->Reps K F ws vvs->All2 (λ(z:KP) (x:Keyed)=>kf x.1=z.1/\∃v,RelV v x.2/\Rep K F z.2 v) ((ku.map kf).zip ws) (ku.zip vs)
 |[],_,_,_,_,_=>by simp;exact .nil
 |k::ku,_,_,_,.nil,.nil=>by simp;exact .nil
 |k::ku,_,_,_,.cons r b,.cons h a=>.cons ⟨rfl,_,r,h⟩ (zo3 b a)
theorem zor {K:Zg}{F:Hp}{kf:Ze->List Int}:∀{c:List KP}{r:List Keyed},All2 (λ(z:KP) (x:Keyed)=>kf x.1=z.1/\∃v,RelV v x.2/\Rep K F z.2 v) c r->∃vs,Vals vs (r.map (·.2))/\Reps K F (c.map (·.2)) vs
 |_,_,.nil=>⟨[],.nil,.nil⟩
 | _,_,.cons ⟨_,v,h,d⟩ t=>by
  obtain⟨vs,a,b⟩:=zor t;exact⟨v::vs,.cons h a,.cons d b⟩
noncomputable def ztm (ks ws out:List W):Prop:=∀{X:Cx}{pins:List (Zh×Obj)}{σ:St}{H F:Hp}{s:Zf}{keys:Array Ze}{vs:List Ze}{kvs vvs:List V}{A:Around}{E:Ze->Zf->Prop},Inv X pins σ H s->Same F H->A.units+2<cLine->Vals kvs keys.toList->Reps X.K F ks kvs->Vals vvs vs->Reps X.K F ws vvs->keys.size=vs.length ->
 ∃(κ:SortKind) (kf:Ze->List Int) (bf le:Keyed->Keyed->Prop),(2<=vs.length->∀Q':SortKind->Zf->Prop,Q' κ s->wpAny #v[1,7] A (keyKind' keys) Q' E s)/\Tim.Asks X.prog X.w A E s κ (keys.zip vs.toArray) (λx y=>lexI (kf x.1) (kf y.1))/\Tim.Ord (λx y:Keyed=>lexI (kf x.1) (kf y.1)) bf le/\(∀c,Tim.Cut bf (keys.zip vs.toArray) c) /\
  ∀r:List Keyed,r.Perm (keys.toList.zip vs)->r.Pairwise le->∃ov,Vals ov (r.map (·.2))/\Reps X.K F out ov/\ov.length<=vs.length
theorem zx7 {k ws out:List W}(h:ztb k ws=Za out):ztm k ws out:=by
 intro X pins σ H F s keys v kvs vvs A E I sm n l J i b c;unfold ztb at h;obtain⟨L,d,h⟩:=bS h;split at h
 ·rename_i g;rw[Af] at g;nofun;obtain⟨κ,M,C,f⟩:=zwt (A:=A) (E:=E) (vs:=v) I sm n l J d c;ac_rfl;refine⟨κ,kfV H,λ_ _=>True,_,M,C,z2p _,λ_ _ _ _ _ _=>trivial,λr S U=>?_⟩;obtain⟨e,p,a⟩:=All2.perm S.symm (zo3 (K:=X.K) (F:=F) (kf:=kfV H) (ku:=keys.toList) i b);rw[f] at p;have w:e.Pairwise leK:=All2.pair (P:=leK) (Q:=λx y:Keyed=>lexI (kfV H y.1) (kfV H x.1)=Zc) (λz x D Z t O q=>by show lexI D.1 z.1=Zc;rw[<-t.1,<-O.1];exact q) a U;have N:e=zrj (L.zip ws):=zh4 (p.symm.trans (zh9 _).symm) w (zfk _) λx R y G=>zt0 (zgr g.1) x (p.symm.mem_iff.mp R) y (p.symm.mem_iff.mp G);obtain⟨u,B,o⟩:=zor a;have j:out=e.map (·.2):=by rw[N];exact (sI h).symm
  rw[<-j] at o;refine⟨u,B,o,?_⟩;have T:=o.length;have Y:=i.length;have V:=b.length;have m:=p.length_eq;rw[List.length_zip] at m;rw[j,Ad] at T;symm
 ·exact noSome h
theorem zk9 (g:T = "list"\/T = "tuple") (b:s.heap.get? l=Za o) (c:o.cls=.type T) (d:o.data=.seq vs.toArray n)
  (h:Q vs { s with heap:=#v[7,12].update s.heap.objs.size (Obj.mapSeq (·++vs.toArray)) }) (e:vs.length<=sizeLine) :
  wpAny (model prog w) A (collect (.ref l)) Q E s:=by
 unfold collect;refine Aa (wpAny_runValue (codeAny_builtin entry_proto_collect' ?_));show wpAny _ _ (do again (.builtin "list.__iadd__" ⟨[<-newList [],.ref l],[]⟩)) _ _ s;refine Aa (wpAny_newList (Ar ⟨Code.quiet_builtin _ (by decide +kernel),codeAny_builtin entry_list_iadd' ?_⟩));show wpAny _ _ (Builtin.List.listExtendWith (.ref s.heap.objs.size) (.ref l) (.ref s.heap.objs.size)) _ _ { s with heap:=s.heap.push #v[1,9] };unfold Builtin.List.listExtendWith;have a : #v[7,12].get? l=Za o:=Ab _ b;refine Aa (wpAny_typeOf (T:=T) ⟨o,a,c⟩ ?_);have f:(Ze.type T==Ze.type "list" || Value.type T==Ze.type "tuple")=Zd:=by rcases g with rfl|rfl<;>rfl
 rw [if_pos (by rw [Bool.or_assoc,f,Bool.or_true])];refine Aa (listItems_at a d ?_);refine Aa (listItems_at (xs:=#[]) (n:=0) (Aq _ rfl) rfl ?_);rw [if_neg (by simp)];refine Aa (listUpdate_at (xs:=#[]) (n:=0) (Aq _ rfl) rfl ?_ (Cj _) (by show (#[]++vs.toArray).size<=sizeLine+1;simp only [Array.size_append,Aj,List.length_nil];symm));refine Ar ?_;show wpAny (model prog w) A (do
   let o <- load s.heap.objs.size
   match o.data with
   |.seq x _=>pure x.toList
   |_=>unsupported "internal:collect") Q E { s with heap:=#v[7,12].update s.heap.objs.size (Obj.mapSeq (·++vs.toArray)) }
 refine Aa (wpAny_load (get?_update_seq (Aq _ rfl) _) ?_);show wpAny _ _ (pure ((#[]:Array Ze)++vs.toArray).toList) Q E _;rw[show ((#[]:Array Ze)++vs.toArray).toList=vs by simp];exact Ar h
theorem zqc (KC:KCall X.inn (.ref q) Φ Al) (I:Inv X pins σ H s) (al:Al pins F) (R:Rel X.K F pr en σ H) (hl:SqL X.K H l vvs\/SqT X.K H l vvs) (B:Reps X.K F ws vvs)
  (hk:mapO Φ ws=Za ks) (hs:ztm ks ws out) (hu:X.A.units+4<cLine) (h:∀S H' v,Same F S->Rel X.K S pr en σ H'->Res X.K S H' pr en σ (.lst out,Zd) v->Q v H') :
  wpAny #v[1,7] X.A (call (.builtin "sorted") [.ref l] [(Str.ofString "key",.ref q)]) (EP X pins σ Q) E s:=by
 nofun;obtain⟨vs,y,T,o,n,hT,N,L,J,U⟩ : ∃vs,Vals vvs vs/\∃T o n,(T = "list"\/T = "tuple")/\s.heap.get? l=Za o/\o.cls=.type T/\o.data=.seq vs.toArray n/\vvs.length<=sizeLine:=by
  rcases hl with W|W
  ·obtain⟨vs,y,⟨o,n,N,L,_,J⟩,U⟩:=I.list W;exact⟨vs,y,_,o,n,.inl rfl,N,L,J,U⟩
  ·obtain⟨vs,y,⟨o,N,L,n,J⟩,U⟩:=I.tuple W;exact⟨vs,y,_,o,n,.inr rfl,N,L,J,U⟩
 ac_rfl;have lv:vvs.length=vs.length:=y.length;have i:vs.length<=sizeLine:=by symm
 have lw:ws.length=vs.length:=by rw[B.length,lv]
 have lk:ks.length=vs.length:=by rw[zf1 hk,lw]
 refine call_function_entry_kw kind_sorted plain_sorted entry_sorted (ksk_s1 _ _) ?_;unfold Builtin.«sorted»;refine Aa (m:=checkCount "sorted" 1 1 _) (Ar ?_);refine Aa (zk9 hT N L J ?_ i);refine Aa (wpAny_newList ?_ i);have k:(#v[7,12].update s.heap.objs.size (Obj.mapSeq (·++vs.toArray))).objs.size=s.heap.objs.size+1:=by
  rw[Heap.size_update,size_push']
 have d:((#v[7,12].update s.heap.objs.size (Obj.mapSeq (·++vs.toArray))).push #v[8,11]).get? #v[5,10]=Za #v[8,11]:=by
  rw[<-k];exact Aq _ rfl
 have keep:∀b o,s.heap.get? b=Za o->((#v[7,12].update s.heap.objs.size (Obj.mapSeq (·++vs.toArray))).push #v[8,11]).get? b=Za o:=λb o q=>by
  have g:b<s.heap.objs.size:=Ao q;rw[Heap.get?_push_ne _ _ _ (by rw[k];exact Bc (Ev g)),Heap.get?_update_ne _ _ _ _ (Bc g),Heap.get?_push_ne _ _ _ (Bc g)];exact q
 have x:((#v[7,12].update s.heap.objs.size (Obj.mapSeq (·++vs.toArray))).push #v[8,11]).objs.size=s.heap.objs.size+2:=by rw[size_push',k]
 show wpAny _ _ _ _ _ { s with heap:=(#v[7,12].update s.heap.objs.size (Obj.mapSeq (·++vs.toArray))).push #v[8,11] };rw[k];generalize (#v[7,12].update s.heap.objs.size (Obj.mapSeq (·++vs.toArray))).push #v[8,11]=h3 at d keep x ⊢;obtain⟨a,ea⟩ : ∃a,a=s.heap.objs.size+1:=⟨_,rfl⟩;rw[<-ea] at d ⊢;refine Aa (Fc (wpAny_call_entry_kw slot_list_sort ⟨_,d,rfl⟩ entry_list_sort ?body (ksk_l1 _ _)))
 case body =>
  show wpAny #v[1,7] X.A.in1.in1 (Builtin.«list.sort» ⟨[.ref a],[(Str.ofString "key",.ref q)]⟩) _ _ _;rw[ksk_t1];have ha:a<h3.objs.size:=by symm
  have s1:=Dv h3 a #v[3,11];obtain⟨e1,P⟩ : ∃e1,(h3.update a #v[3,11]).get? a=Za #v[5,16]:=⟨_,get?_update_seq d λ_=>#[]⟩;unfold ksk_tree;refine Aa (listItems_at d rfl ?_);refine Aa (listUpdate_at d rfl ?_ (by rw[Aj];symm) (Cj _));refine Aa (seqEpoch_at P rfl ?_);refine Aa (wpAny_newTuple ?_ i);refine Aa (wpAny_newList ?_ (Cj _));refine Fc ?_;have hz4:#v[3,7].objs.size=s.heap.objs.size+3:=by rw[size_push',Heap.size_update,x]
  show wpAny _ _ (ksk_rest a (.ref q) Zc vs.toArray e1 (.ref #v[3,7].objs.size)) _ _ { s with heap:=#v[3,7].push #v[1,9] };obtain⟨kS,ek⟩ : ∃kS,kS=#v[3,7].objs.size:=⟨_,rfl⟩;rw[<-ek] at hz4 ⊢;have G:∀b o,s.heap.get? b=Za o->(#v[3,7].push #v[1,9]).get? b=Za o:=λb o V=>by
   refine Ab _ (Ab _ ?_);have g:b<s.heap.objs.size:=Ao V;exact (s1.2 b (Bc (by rw[ea];exact Ev g))).trans (keep b o V)
  have ga:(#v[3,7].push #v[1,9]).get? a=Za #v[5,16]:=Ab _ (Ab _ P);have gk:(#v[3,7].push #v[1,9]).get? kS=Za #v[1,9]:=by rw[ek];exact Aq _ rfl
  generalize #v[3,7].push #v[1,9]=h6 at G ga gk ⊢;have na:H a=Zb:=I.hok.fresh (by symm);have nk:H kS=Zb:=I.hok.fresh (by symm);have pa:Apart X pins a:=(I.fpOk (H':=H) (by symm) na).apart;have t:Apart X pins kS:=(I.fpOk (H':=H) (by symm) nk).apart;have D:kS≠a:=by symm
  have f:Apart X ((a,seqObj "list" #[] e1)::pins) kS:=⟨t.l,t.f,t.x,t.c,λp u=>by
   rcases Cq.mp u with z|z
   ·exact t.p p (List.mem_append_left _ z)
   ·rcases Ak.mp z with rfl|z
    ·exact D.symm
    ·exact t.p p (Ay _ z)⟩
  have I6:Inv X pins σ H { s with heap:=h6 }:=I.kept (t':=s.toks) G;have I7:Inv X ((kS,seqObj "list" #[] 0)::(a,seqObj "list" #[] e1)::pins) σ H { s with heap:=h6 }:=I6.pins_of λp u=>by
   rcases Ak.mp u with rfl|u
   ·exact⟨gk,nk,t.l,t.f,λv z=>by cases z⟩
   ·rcases Ak.mp u with rfl|u
    ·exact⟨ga,na,pa.l,pa.f,λv z=>by cases z⟩
    ·exact I6.pin p (Ay _ u)
  refine zxf (X:=X.inn) (pins:=pins) KC I7.inn al R y B hk i ⟨f.l,f.f,f.x,f.c,f.p⟩ λs' H' S keys e kvs I8 s8 R8 rk rp=>?_;have j:=I8.out;nofun;obtain⟨g1,g2,_⟩:=j.pin (kS,seqObj "list" keys e) (Ay _ Au);obtain⟨g3,g4,_⟩:=j.pin (a,seqObj "list" #[] e1) (Ay _ (Ai _ Au));ac_rfl;have M:keys.size=vs.length:=by
   have a1:kvs.length=keys.size:=rk.length.trans Bx;have a2:ks.length=kvs.length:=rp.length;symm
  nofun;obtain⟨κ,kf,bf,le,kd,C,O,w,fn⟩:=hs (A:=X.A.in1.in1) (E:=E) (vs:=vs) j R8.sub (by show X.A.units+1+1+2<cLine;symm) rk rp y (B.mono s8) M;ac_rfl;refine z2y (kf:=kf) O w g1 g3 D M i kd C λr h' c pm pw ga' Z=>⟨_,rfl,?_⟩;obtain⟨ov,o1,o2,lo⟩:=fn r pm pw;have lo:ov.length<=sizeLine:=by symm
  have I9:Inv X pins σ H' s':=j.pins_of λp u=>j.pin p (Ay _ (Ai _ (Ai _ u)));have Y:Inv X pins σ (upd H' a (.lst ov)) { s' with heap:=h' }:=I9.adopt (t':=s'.toks) (ch:=[a,kS]) (λb o w V=>Z b o (λz=>w (by simp [z])) (λz=>w (by simp [z])) V) (λb w=>by
   rcases Ak.mp w with rfl|w
   ·exact pa.fp g4
   ·rw[Ax.mp w];exact t.fp g2) Au ⟨lo,r.map (·.2),c,o1,ga'⟩
  refine Ar ⟨_,rfl,.ref a,_,Y,rfl,?_⟩;nofun;obtain⟨F9,s9,R9,y9⟩:=(Out.lst (K:=X.K) (F:=S) (H:=H') (p:=a) g4 o2).close R8;ac_rfl;exact h F9 _ _ (s8.trans s9) R9 y9
end
open Classical in
section
variable {K:Zg}
end
end L2
namespace L2
open PySem PySem.Spec PyProof.Rows
section
end
section
variable {X:Cx}
end
structure Sx where
 N:List Str
 kd:List (Str×NameKind)
 bn:List Str
 fs:List (Str×(List Bool×Fn))
 mp:List Nat
 top:Bool
 nm:Str := ""
 dp:Nat:=0
noncomputable def Sx.rd (S:Sx) (x:Str):Option Nat:=if x==("__debug__" : Str)||x==("__classdict__" : Str) then Zb else match S.kd.lookup x with
 |some .local=>S.N.findIdx? (· == x)
 |some .cell=>S.N.findIdx? (· == x)
 |some .free=>S.N.findIdx? (· == x)
 |_=>Zb
noncomputable def Sx.wr (S:Sx) (x:Str):Option Nat:=match S.kd.lookup x with
 |some .local=>S.N.findIdx? (· == x)
 |some .cell=>S.N.findIdx? (· == x)
 |_=>Zb
noncomputable def Sx.bl (S:Sx) (x:Str):Bool:=S.kd.lookup x==Za .globalImplicit&&S.bn.contains x
structure CxOk (X:Cx) (S:Sx) (d:Nat):Prop where
 N:X.N=S.N
 nd:S.N.Nodup
 loc:∀x,S.kd.lookup x=Za .local->X.env.scope.names.lookup x=Za .local
 cel:∀x,S.kd.lookup x=Za .cell->X.env.scope.names.lookup x=Za .cell/\X.fn x=Zd
 vis:∀x,S.kd.lookup x=Za .cell\/S.kd.lookup x=Za .free->X.env.scope.names.lookup x=Za .cell\/X.env.scope.names.lookup x=Za .free
 gl:∀x,S.kd.lookup x=Za .globalImplicit->Gl X x
 calm:X.calm=Zd
 xe:X.xe=λ_ _=>False
 bn:∀x∈S.bn,X.mg x=Zb
 fs:∀x m Φ,S.fs.lookup x=Za (m,Φ)->∃ps,ps.length=m.length/\Cal X.prog X.w X.K X.mg X.base d x ps (spF X.K m Φ)
 room:Room d X.A
 sl:X.A.units+16*d+205<cLine
 bk:X.env.blockKind=.function
 lam:S.nm∈lams->∃c P,PySem.W.tabIn X.K S.nm=Za (c,P)/\PySem.W.codeHdIn X.K c P=Zd/\X.env.code=.ref c/\X.env.qual=S.nm++".<locals>."
 dpo:S.dp<=d
 sg:("g SIGNS" : Str)∈S.bn->∃t,X.mg "SIGNS" = Za (.str "abcdef" t)
theorem zgj {N:List Str}(h:N.findIdx? (· == x)=Za i):N[i]?=Za x:=by
 obtain⟨a,b,_⟩:=List.findIdx?_eq_some_iff_getElem.mp h;rw[Ac a];have:N[i]=x:=by simpa using b
 rw[this]
section
theorem zli (C:CxOk X S d){i:Nat}{pos:Pos}(h:S.rd x=Za i):PE X (.Name x pos) (tVar i):=by
 unfold Sx.rd at h;split at h
 ·exact noSome h
 ·rename_i z;rw[Cb,not_or,Bi,Bi] at z;split at h
  ·rename_i e;exact zd9 (by rw[C.N];exact zgj h) (.inl (C.loc x e)) z.1 z.2
  ·rename_i e;exact zd9 (by rw[C.N];exact zgj h) (.inr (C.vis x (.inl e))) z.1 z.2
  ·rename_i e;exact zd9 (by rw[C.N];exact zgj h) (.inr (C.vis x (.inr e))) z.1 z.2
  ·exact noSome h
theorem zwx (C:CxOk X S d)(h:S.wr x=Za i):X.N[i]?=Za x/\Loc X.env.scope x/\(X.fn x=Zd\/X.env.scope.names.lookup x=Za .local):=by
 unfold Sx.wr at h;split at h
 ·rename_i e;exact⟨by rw[C.N];exact zgj h,.inl (C.loc x e),.inr (C.loc x e)⟩
 ·rename_i e;exact⟨by rw[C.N];exact zgj h,.inr (C.cel x e).1,.inl (C.cel x e).2⟩
 ·exact noSome h
theorem zhc (C:CxOk X S d)(h:S.bl x=Zd):Gl X x/\X.mg x=Zb:=by
 unfold Sx.bl at h;rw[Af] at h;exact⟨C.gl x (by simpa using h.1),C.bn x (by simpa using h.2)⟩
theorem ndN (C:CxOk X S d):X.N.Nodup:=by rw[C.N];exact C.nd
end
noncomputable def zhx:Zi->Bool
 |.Set ..=>Zc
 |_=>Zd
noncomputable def zdm:Zi->Bool
 |.Slice ..=>Zc
 |_=>Zd
noncomputable def zgf:Zi->Bool
 |.ListComp ..=>Zc
 |.SetComp ..=>Zc
 |.DictComp ..=>Zc
 |_=>Zd
noncomputable def zn1:Zi->Bool
 |.UnaryOp .Not _ _=>Zc
 |.BoolOp ..=>Zc
 |.IfExp ..=>Zc
 |.Compare ..=>Zc
 |_=>Zd
theorem zti (h:zhx e=Zd):∀x,foldedSetIterable e env x=pure x:=by
 intro x;cases e<;>first|rfl|(cases h)
theorem zim (h:zhx e=Zd):behindInMarks op e=Zc:=by
 cases e<;>first|rfl|(cases h)
theorem zla (h:zhx c=Zd):lastMarks [op,op'] [b,c]=Zc:=zim h
theorem zhr (h:zdm e=Zd):zrb e:=λo i=>by
 cases e<;>first|rfl|(cases h)
theorem zpf (h:zgf e=Zd):swapsWith e t l env=pure Zc:=by
 cases e<;>first|rfl|(cases h)
theorem zps (h:zn1 e=Zd):∀w,isTrue e env w=(do let v <- w;standAt e.pos;holding [v] (truthy v)):=by
 intro w;cases e with
 |UnaryOp o _ _=>cases o<;>first|rfl|(cases h)
 |_=>first|rfl|(cases h)
theorem zja (h:es.all zaj=Zd):(backTo pos (starEach es env)).any (·.1)=Zc:=by
 induction es with
 |nil=>rfl
 | cons e es i =>
  rw[Dj,Af] at h;rw[zah h.1];show (Zc||(backTo pos (starEach es env)).any (·.1))=Zc;rw[i h.2]
  rfl
noncomputable def cPow (i j:Int):Bool:=decide (0<=j)&&decide (j<=1000000)&&decide (i.natAbs<2^64)
noncomputable def cMul (i j:Int):Bool:=(decide (-(2^64)<i)&&decide (i<2^64))||(decide (-(2^64)<j)&&decide (j<2^64))
noncomputable def zpy (i j:Int):Bool:=decide (Builtin.Int.intBits i<=2^20)&&decide (Builtin.Int.intBits j<=2^20)
noncomputable def cDiv (i j:Int):Bool:=decide (0<j)&&decide (j.natAbs.log2<9000)
noncomputable def yes2 (_ _:Int):Bool:=Zd
noncomputable def oAdd:O2:=oOr #v[0,14] (oOr oCat (oOr zvj z1g))
noncomputable def oMult:O2:=oOr #v[0,19] (oOr (oI zpy λi j=>.int (i*j)) oRep)
noncomputable def binO:Operator->Option O2
 |.Add=>Za oAdd
 |.Sub=>Za #v[0,0,0]
 |.Mult=>Za oMult
 |.FloorDiv=>Za #v[0,0,3]
 |.Mod=>Za #v[0,0,2]
 |.Pow=>Za #v[1,14]
 |.LShift=>Za #v[0,0,1]
 |.RShift=>Za (oI (λ_ j=>decide (0<=j)) λi j=>.int (i/2^j.toNat))
 |.BitAnd=>Za #v[6,9]
 |.BitOr=>Za #v[4,19]
 |.BitXor=>Za #v[2,15]
 |_=>Zb
theorem zuk (h:cPow i j=Zd):CPow i j:=by
 unfold cPow at h;rw[Af,Af] at h;exact⟨Ap h.1.1,Ap h.1.2,Ap h.2⟩
theorem zss (h:cMul i j=Zd):CMul i j:=by
 unfold cMul at h;rw[Cb,Af,Af] at h;rcases h with h|h
 ·exact .inl ⟨Ap h.1,Ap h.2⟩
 ·exact .inr ⟨Ap h.1,Ap h.2⟩
theorem zxj (h:zpy i j=Zd):z7c i j:=by
 unfold zpy at h;rw[Af] at h;exact⟨Ap h.1,Ap h.2⟩
theorem z3v (h:cDiv i j=Zd):0<j/\j.natAbs.log2<9000:=by
 unfold cDiv at h;rw[Af] at h;exact⟨Ap h.1,Ap h.2⟩
section
theorem z1i (h:binO op=Za o):∃r,OpR X (binaryOp op) r/\OpS X.K r o:=by
 cases op with
 |Add=>obtain rfl:=sI h;exact⟨_,z8w.or (z0l.or (z3u.or z4y)),(zb3 λ_ _ _=>.int _).or (z4c.or (zzd.or zyg))⟩
 |Sub=>obtain rfl:=sI h;exact⟨_,z5p,zb3 λ_ _ _=>.int _⟩
 |Mult=>obtain rfl:=sI h;exact⟨_,z6d.or (z1u.or z8s),(zlo (λ_ _=>zss) λ_ _ _=>.int _).or ((zlo (λ_ _=>zxj) λ_ _ _=>.int _).or z2a)⟩
 |FloorDiv=>obtain rfl:=sI h;exact⟨_,zy9,zlo (λ_ _=>z3v) λ_ _ _=>.int _⟩
 |Mod=>obtain rfl:=sI h;exact⟨_,z6a,zlo (λ_ _=>Ap) λ_ _ _=>.int _⟩
 |Pow=>obtain rfl:=sI h;exact⟨_,z6u,zlo (λ_ _=>zuk) λ_ _ _=>.int _⟩
 |LShift=>obtain rfl:=sI h;exact⟨_,z9m,zlo (λ_ _=>zuk) λ_ _ _=>.int _⟩
 |RShift=>obtain rfl:=sI h;exact⟨_,z50,zlo (λ_ _=>Ap) λ_ _ _=>.int _⟩
 |BitAnd=>obtain rfl:=sI h;exact⟨_,z7z,zb3 λ_ _ _=>.int _⟩
 |BitOr=>obtain rfl:=sI h;exact⟨_,yaf,zb3 λ_ _ _=>.int _⟩
 |BitXor=>obtain rfl:=sI h;exact⟨_,z8v,zb3 λ_ _ _=>.int _⟩
 |_=>exact noSome h
noncomputable def augO:Operator->Option O2
 |.Add=>Za #v[0,14]
 |.Sub=>Za #v[0,0,0]
 |.Mult=>Za #v[0,19]
 |.BitAnd=>Za #v[6,9]
 |.BitOr=>Za #v[4,19]
 |.BitXor=>Za #v[2,15]
 |_=>Zb
theorem z2k (h:augO op=Za o):∃r,PIp X op r/\OpS X.K r o:=by
 cases op with
 |Add=>obtain rfl:=sI h;exact⟨_,z1j,zb3 λ_ _ _=>.int _⟩
 |Sub=>obtain rfl:=sI h;exact⟨_,z1t,zb3 λ_ _ _=>.int _⟩
 |Mult=>obtain rfl:=sI h;exact⟨_,z1b,zlo (λ_ _=>zss) λ_ _ _=>.int _⟩
 |BitAnd=>obtain rfl:=sI h;exact⟨_,z2g,zb3 λ_ _ _=>.int _⟩
 |BitOr=>obtain rfl:=sI h;exact⟨_,z8p,zb3 λ_ _ _=>.int _⟩
 |BitXor=>obtain rfl:=sI h;exact⟨_,z33,zb3 λ_ _ _=>.int _⟩
 |_=>exact noSome h
noncomputable def cmpO:CmpOp->Option O2
 |.Eq=>Za oEq
 |.NotEq=>Za oNe
 |.Lt=>Za #v[4,13]
 |.LtE=>Za (oI yes2 λi j=>.bl (decide (i<=j)))
 |.Gt=>Za #v[4,10]
 |.GtE=>Za (oI yes2 λi j=>.bl (decide (j<=i)))
 |.Is=>Za oIs
 |.IsNot=>Za zh8
 |_=>Zb
theorem znh (a:Room kr X.A)(h:cmpO op=Za o):∃r,OpR X (compareOp op) r/\OpS X.K r o:=by
 cases op with
 |Eq=>obtain rfl:=sI h;exact⟨_,.or z9u (z72 a),z9i⟩
 |NotEq=>obtain rfl:=sI h;exact⟨_,.or yab (z56 a),z53⟩
 |Lt=>obtain rfl:=sI h;exact⟨_,ybd,zb3 λ_ _ _=>.bl _⟩
 |LtE=>obtain rfl:=sI h;exact⟨_,z9t,zb3 λ_ _ _=>.bl _⟩
 |Gt=>obtain rfl:=sI h;exact⟨_,z9x,zb3 λ_ _ _=>.bl _⟩
 |GtE=>obtain rfl:=sI h;exact⟨_,yaa,zb3 λ_ _ _=>.bl _⟩
 |Is=>obtain rfl:=sI h;exact⟨_,z8j.or z7v,z7q⟩
 |IsNot=>obtain rfl:=sI h;exact⟨_,z4u.or zu4,zu3⟩
 |_=>exact noSome h
end
noncomputable def zbe (f:Sx->Zi->Option GE) (S:Sx) (e:Zi):Option GA:=match e with
 |.Name x _=>(S.rd x).bind λi=>Za (gVarA i)
 |_=>(f S e).bind λg=>Za (gArg g)
noncomputable def asL (f:Zi->Option GA):List Zi->Option GAs
 |[]=>Za gA0
 |e::b=>if zaj e then (f e).bind λa=>(asL f b).bind λc=>Za (gCns a c) else Zb
noncomputable def asM (f:Sx->Zi->Option GE) (S:Sx):List Zi->List Bool->Option GAs
 |[],[]=>Za gA0
 |e::c,b::m=>if zaj e then (if b then zbe f S e else (f S e).bind λg=>Za (gArg g)).bind λa=>(asM f S c m).bind λd=>Za (gCns a d) else Zb
 |_,_=>Zb
noncomputable def zbw (f:Sx->Zi->Option GE):Prop:=∀X S d,CxOk X S d->∀e g,f S e=Za g->PE X e (tE X.K g)
noncomputable def zgl (f:Sx->Zi->Option GT):Prop:=∀X S d,CxOk X S d->∀e g,f S e=Za g->PT X e (tT X.K g)
section
theorem zai (H:zbw f)(C:CxOk X S d)(h:zbe f S e=Za a):PE X e (tA X.K a):=by
 unfold zbe at h;split at h
 ·obtain⟨i,c,h⟩:=bS h;obtain rfl:=sI h;exact (zli C c).wk λ_ _ _=>zqp
 ·obtain⟨g,b,h⟩:=bS h;obtain rfl:=sI h;exact (H X S d C _ _ b).wk λ_ _ _=>zji
theorem zhl (H:∀e a,fa e=Za a->PE X e (tA X.K a)):∀{es:List Zi}{as:GAs},asL fa es=Za as->PA X es (tAs X.K as)/\es.all zaj=Zd
 |[],_,h=>by obtain rfl:=sI h;exact⟨zbb.wk λ_ _ _=>zod,rfl⟩
 | e::es,_,h=>by
  unfold asL at h;split at h
  ·rename_i z
   obtain⟨a,b,h⟩:=bS h;obtain⟨as,has,h⟩:=bS h;obtain rfl:=sI h;obtain⟨p,q⟩:=zhl H has;exact⟨(pac (H e a b) p z).wk λ_ _ _=>zov,by rw[Dj,z,q];rfl⟩
  ·exact noSome h
theorem zsd (H:zbw f) (C:CxOk X S d):∀{es:List Zi}{m:List Bool}{as:GAs},asM f S es m=Za as->PA X es (tAs X.K as)/\es.all zaj=Zd
 |[],[],_,h=>by obtain rfl:=sI h;exact⟨zbb.wk λ_ _ _=>zod,rfl⟩
 | e::es,b::m,_,h=>by
  unfold asM at h;split at h
  ·rename_i z
   obtain ⟨a,c,h⟩:=bS h;obtain ⟨as,has,h⟩:=bS h;obtain rfl:=sI h;obtain ⟨p,q⟩:=zsd H C has;have i:PE X e (tA X.K a):=by
    cases b with
    |true=>exact zai H C (by simpa using c)
    | false =>
     obtain⟨g,j,c⟩:=bS (show (f S e).bind _=Za a from by simpa using c);obtain rfl:=sI c;exact (H X S d C _ _ j).wk λ_ _ _=>zji
   exact⟨(pac i p z).wk λ_ _ _=>zov,by rw[Dj,z,q];rfl⟩
  ·exact noSome h
 |[],_::_,_,h=>by exact noSome h
 |_::_,[],_,h=>by exact noSome h
end
noncomputable def cmpE (f:Sx->Zi->Option GE) (S:Sx) (a:Zi) (ops:List CmpOp) (h:List Zi):Option GE:=match ops,h with
 |[d],[b]=>if zhx b then (zbe f S a).bind λx=>(zbe f S b).bind λy=>(cmpO d).bind λo=>Za (gOp2 o x y) else Zb
 |[d,e],[b,c]=>if zhx c then (zbe f S a).bind λx=>(zbe f S b).bind λy=>(zbe f S c).bind λz=>(cmpO d).bind λo=>(cmpO e).bind λg=>Za (zoe o g x y z) else Zb
 |_,_=>Zb
noncomputable def z3n (f:Zi->Option GE) (op:BoolOp):Zi->List Zi->Option GE
 |v,[]=>f v
 |v,u::c=>match op with|.And=>(f v).bind λa=>(z3n f op u c).bind λb=>Za (gAnd a b)|.Or=>Zb
noncomputable def z3q (f:Zi->Option GT) (op:BoolOp):Zi->List Zi->Option GT
 |v,[]=>f v
 |v,u::c=>(f v).bind λa=>(z3q f op u c).bind λb=>Za (match op with|.And=>zif a b|.Or=>gOrT a b)
section
theorem zt3 (H:zbw f)(C:CxOk X S d)(h:cmpE f S a ops cs=Za g):PE X (.Compare a ops cs pos) (tE X.K g)/\PT X (.Compare a ops cs pos) (tT X.K (zak g)):=by
 unfold cmpE at h;split at h
 ·rename_i s b;split at h
  ·rename_i z;nofun;obtain⟨x,e,h⟩:=bS h;obtain⟨y,i,h⟩:=bS h;obtain⟨o,n,h⟩:=bS h;ac_rfl;obtain rfl:=sI h;obtain⟨r,j,k⟩:=znh (X:=X) C.room n;exact⟨(z46 j (zai H C e) (zai H C i) (zim z)).wk λ_ _ _=>zfr k,(z47 j (zai H C e) (zai H C i) (zim z)).wk λ_ _ _=>zgb λ_ _ _=>zfr k⟩
  ·exact noSome h
 ·rename_i s t b c;split at h
  ·rename_i z;nofun;obtain⟨x,e,h⟩:=bS h;obtain⟨y,i,h⟩:=bS h;obtain⟨w,q,h⟩:=bS h;obtain⟨o,n,h⟩:=bS h;obtain⟨u,p,h⟩:=bS h;ac_rfl;obtain rfl:=sI h;nofun;obtain⟨r,j,k⟩:=znh (X:=X) C.room n;obtain⟨v,m,l⟩:=znh (X:=X) C.room p;ac_rfl;exact⟨(zyp j m (zai H C e) (zai H C i) (zai H C q) (zla z)).wk λ_ _ _=>zho k l,(zxw j m (zai H C e) (zai H C i) (zai H C q) (zla z)).wk λ_ _ _=>zgb λ_ _ _=>zho k l⟩
  ·exact noSome h
 ·exact noSome h
theorem zn3 (H:∀e g,fe e=Za g->PE X e (tE X.K g)):∀{v:Zi}{vs:List Zi}{g:GE},z3n fe op v vs=Za g->PE X (.BoolOp op (v::vs) pos) (tE X.K g)
 |v,[],g,h=>z5h (H v g h)
 | v,u::f,g,h=>by
  cases op with
  | And =>
   obtain⟨a,d,h⟩:=bS h;obtain⟨b,c,h⟩:=bS h;obtain rfl:=sI h;exact (z8h (H v a d) (zn3 H c)).wk λ_ _ _=>zw6
  |Or=>exact noSome h
theorem zig (H:∀e g,fe e=Za g->PT X e (tT X.K g)):∀{v:Zi}{vs:List Zi}{g:GT},z3q fe op v vs=Za g->PW X (.BoolOp op (v::vs) pos) (tT X.K g)
 | v,[],g,h=>by
  cases op with
  |And=>exact z13 (H v g h)
  |Or=>exact z0v (H v g h)
 | v,u::f,g,h=>by
  obtain⟨a,d,h⟩:=bS h;obtain⟨b,c,h⟩:=bS h;obtain rfl:=sI h;cases op with
  |And=>exact (z6h (H v a d) (zig H c)).wk λ_ _ _=>zqt
  |Or=>exact (z6n (H v a d) (zig H c)).wk λ_ _ _=>zvh
end
theorem z7j:bootBuiltins "min" = Za (.builtin "min"):=by decide +kernel
theorem z5e:bootBuiltins "max" = Za (.builtin "max"):=by decide +kernel
noncomputable def bltO (x:Str):Option ON :=
 if x==("len" : Str) then Za oLen else if x==("abs" : Str) then Za oAbs else if x==("int" : Str) then Za oInt else if x==("list" : Str) then Za zye else if x==("tuple" : Str) then Za zfp else if x==("all" : Str) then Za (oBl λbs=>bs.all id) else if x==("any" : Str) then Za (oBl λbs=>bs.any id)
 else if x==("sum" : Str) then Za oSum else if x==("min" : Str) then Za oMin else if x==("max" : Str) then Za oMax else Zb
section
set_option maxHeartbeats 4000000 in
theorem z2q (C:CxOk X S d)(f:S.bl x=Zd)(h:bltO x=Za o)(a:PA X (e::es) t)(c:(e::es).all zaj=Zd):∃r,PE X (.Call (.Name x p) (e::es) [] pos) (tCB r t)/\OpSN X.K r o:=by
 obtain⟨g,m⟩:=zhc C f;rw[Dj,Af] at c;have b:=zah (env:=X.env) (es:=es) c.1;have s:=zja (env:=X.env) (pos:=pos) c.2;unfold bltO at h;split at h
 ·rename_i z;obtain rfl:=sI h;have e:=Bl z;subst e;exact⟨_,zbm zjv g m z7h a (by decide) (by decide) b s,z32⟩
 split at h
 ·rename_i z;obtain rfl:=sI h;have e:=Bl z;subst e;exact⟨_,zbm zyf g m z8l a (by decide) (by decide) b s,z4o⟩
 split at h
 ·rename_i z;obtain rfl:=sI h;have e:=Bl z;subst e;exact⟨_,zg9 zuw g m z0g a (by decide) (by decide) b s,z41⟩
 split at h
 ·rename_i z;obtain rfl:=sI h;have e:=Bl z;subst e;exact⟨_,zg9 zln g m zm5 a (by decide) (by decide) b s,zwa⟩
 split at h
 ·rename_i z;obtain rfl:=sI h;have e:=Bl z;subst e;exact⟨_,zg9 zje g m znx a (by decide) (by decide) b s,zrs⟩
 split at h
 ·rename_i z;obtain rfl:=sI h;have e:=Bl z;subst e;exact⟨_,zbm (zvi C.calm) g m z9b a (by decide) (by decide) b s,zzx⟩
 split at h
 ·rename_i z;obtain rfl:=sI h;have e:=Bl z;subst e;exact⟨_,zbm (zy5 C.calm) g m z9o a (by decide) (by decide) b s,zzx⟩
 split at h
 ·rename_i z;obtain rfl:=sI h;have e:=Bl z;subst e;exact⟨_,zbm (zt9 C.calm) g m z62 a (by decide) (by decide) b s,z2e⟩
 split at h
 ·rename_i z;obtain rfl:=sI h;have e:=Bl z;subst e;exact⟨_,zbm (zqu C.calm) g m z7j a (by decide) (by decide) b s,z4l⟩
 split at h
 ·rename_i z;obtain rfl:=sI h;have e:=Bl z;subst e;exact⟨_,zbm (zut C.calm) g m z5e a (by decide) (by decide) b s,z1q⟩
 exact noSome h
noncomputable def z7s (x:Str):Option ON:=bltO x
theorem zyb (C:CxOk X S d)(c:S.bl x=Zd)(h:z7s x=Za o)(b:PA X (e::es) t)(a:(e::es).all zaj=Zd):∃r,PE X (.Call (.Name x p) (e::es) [] pos) (tCB r t)/\OpSN X.K r o:=by
 exact z2q C c h b a
end
noncomputable def kdOf (x:Str):Option Kd:=if x==("int" : Str) then Za .int else if x==("bool" : Str) then Za .bool else if x==("str" : Str) then Za .str else if x==("tuple" : Str) then Za .tuple else if x==("list" : Str) then Za .list else Zb
theorem z2d (h:kdOf x=Za k):bootBuiltins x=Za (.type k.nm)/\x≠("__name__" : Str)/\(x==("__debug__" : Str))=Zc:=by
 unfold kdOf at h;split at h
 ·rename_i z;obtain rfl:=sI h;have e:=Bl z;subst e;exact⟨z0g,by decide,by decide⟩
 split at h
 ·rename_i z;obtain rfl:=sI h;have e:=Bl z;subst e;exact⟨z40,by decide,by decide⟩
 split at h
 ·rename_i z;obtain rfl:=sI h;have e:=Bl z;subst e;exact⟨z5r,by decide,by decide⟩
 split at h
 ·rename_i z;obtain rfl:=sI h;have e:=Bl z;subst e;exact⟨znx,by decide,by decide⟩
 split at h
 ·rename_i z;obtain rfl:=sI h;have e:=Bl z;subst e;exact⟨zm5,by decide,by decide⟩
 exact noSome h
noncomputable def z92:W->Option (W×Bool)
 |.int i=>#v[(Builtin.Int.intBits i),0]
 |_=>Zb
noncomputable def rCnt:V->List V->Hp->VK->Prop:=λx v H Q=>∃(l:Zh) (n:List Int) (k:Int),x=.ref l/\v=[.int k]/\H l=Za (.lst (n.map V.int))/\Q (.int (n.count k:Nat)) H
theorem z59:MtR X "list.count" rCnt:=by
 intro pins s σ H x j v m Q I a d h;obtain⟨l,f,k,rfl,rfl,b,q⟩:=h;cases a;obtain⟨u,rfl,c⟩:=d.one;obtain⟨t,rfl⟩:=c;obtain⟨z,i,n,r,g,e⟩:=I.lstM b;exact count_list_ints ⟨_,e,rfl,n,rfl⟩ (zh3 r) ⟨.int _,H,I.tok _,⟨_,rfl⟩,q⟩
noncomputable def rIdx:V->List V->Hp->VK->Prop:=λx v H Q=>∃(l:Zh) (n:List Int) (k:Int),x=.ref l/\v=[.int k]/\H l=Za (.lst (n.map V.int))/\k∈n/\Q (.int (n.idxOf k:Nat)) H
theorem z8u:MtR X "list.index" rIdx:=by
 intro pins s σ H x E v F Q I A w h;obtain⟨l,a,k,rfl,rfl,B,p,q⟩:=h;cases A;obtain⟨u,rfl,C⟩:=w.one;obtain⟨t,rfl⟩:=C;obtain⟨z,i,n,r,D,e⟩:=I.lstM B;have b:=zh3 r;have m:=b.length;have g:a.idxOf k<a.length:=List.idxOf_lt_length_iff.mpr p;have f:sizeLine=16777216:=Hj;rw[Ad] at z D;refine Gu Fu ⟨_,e,rfl⟩ PySem.F.entry_list_index (PySem.F.args_list_index_2 _ _)
  (PySem.SeqAt.list_indexAt l i.toArray n Zb #[] (.int k t) (isInt k) (a.idxOf k) (by rw[Aj];symm) (by symm) ?_ ?_) ⟨e,λy o=>(eq_isInt k t b y (by simpa using o)).at _ _,⟨.int _,H,I.tok _,⟨_,rfl⟩,q⟩⟩
 ·show isInt k i[a.idxOf k]=Zd;rw[isInt_at k b _ (by symm) g];simpa using List.getElem_idxOf g
 ·intro j d c;show isInt k i[j]=Zc;rw[isInt_at k b j (by simpa using d) (by symm)];exact ne_of_lt_idxOf c _
noncomputable def cCnt:List Int->Int->Option Int:=λn k=>Za (n.count k:Nat)
noncomputable def cIdx:List Int->Int->Option Int:=λn k=>if k∈n then Za (n.idxOf k:Nat) else Zb
noncomputable def cntF (n:Str):Option (List Int->Int->Option Int):=if n==("count" : Str) then Za cCnt else if n==("index" : Str) then Za cIdx else Zb
noncomputable def zu7 (c:List Int->Int->Option Int) (i:Nat) (g:GE):GE:=λe=>match e[i]? with
 | some (Za (.lst _,_))=>(g e).bind λp=>match p.2.1,p.1[i]? with
  |.int k,Za (Za (.lst w,_))=>(zcw w).bind λn=>(c n k).bind λz=>Za (p.1,(.int z,Zc))
  |_,_=>Zb
 |_=>Zb
theorem zkq {K:Zg}(D:∀(l:Zh) (ns:List Int) (k z:Int) (H:Hp) (Q:VK),H l=Za (.lst (ns.map V.int))->c ns k=Za z->Q (.int z) H->r (.ref l) [.int k] H Q)(h:tE K (zu7 c i g) σ H Q):tBM K "list" r (tVar i) (zaw (tE K g) tNil) σ H Q:=by
 nofun;obtain⟨F,A,s,E,Y,R,h,q⟩:=h;ac_rfl;unfold zu7 at h;split at h
 ·rename_i O U d;nofun;obtain⟨P,b⟩:=R.has d;obtain⟨a,N,rfl,t,_⟩:=(R.repB d b).lst R.sub;obtain⟨⟨C,w,L⟩,o,h⟩:=bS h;ac_rfl;refine⟨.ref a,b,.inl ⟨rfl,N,SqL.of' t⟩,F,A,s,C,(w,L),R,o,λM n W J j y=>?_⟩;split at h
  ·rename_i k S T e f;simp only at e;subst e;nofun;obtain⟨ns,B,h⟩:=bS h;obtain⟨z,v,h⟩:=bS h;obtain⟨X,I,G,m,p⟩:=(j.repB f b).lst j.sub;ac_rfl;cases G;cases h;have x:=y.isInt;subst x;rw[zc7 B] at p;have u:=p.ints;subst u;exact D _ _ _ _ _ _ m v (q M n _ J j (.int _))
  ·exact noSome h
 ·exact noSome h
noncomputable def z6j (o:Option (List Int->Int->Option Int)) (i:Nat) (g:GE) (y:Option GE):Option GE:=match o with
 |some c=>Za (zu7 c i g)
 |none=>y
theorem zql (h:z6j o i g y=Za ge):(∃c,o=Za c/\zu7 c i g=ge)\/y=Za ge:=by
 cases o with
 |none=>exact .inr h
 |some c=>exact .inl ⟨c,rfl,sI h⟩
noncomputable def zs5:Zi->Bool
 |.Call _ _ _ _=>Zd
 |_=>Zc
theorem zqx (h:zs5 o=Zc):attributeBase o a env w=w:=by
 cases o<;>first|rfl|(cases h)
noncomputable def z16 (f:Sx->Zi->Option GE) (S:Sx) (o:Zi) (name:Str) (apos:Pos) (args:List Zi) (cpos:Pos):Option GE :=
 if !(apos.endLine==cpos.line)||zs5 o then Zb else match args with
 | [e]=>if !zaj e then Zb else match o with
  |.Name x _=>(S.rd x).bind λi=>(f S e).bind λg=>z6j (cntF name) i g <| if name==("append" : Str) then Za (gApp i g) else Zb
  |_=>Zb
 |_=>Zb
theorem zi7 (h:zaj e=Zd):((backTo cpos (starEach [e] env)).all (λx=>!x.1)&&(backToKw cpos (keywordEach [] env)).all (λx=>x.1.isSome)&&decide (([e]:List Zi).length+([]:List Keyword).length+(if ([]:List Keyword).isEmpty then 0 else 1)<30))=Zd:=by
 rw[zah h];rfl
theorem z04 (j:PE X o (tVar i))(p:PA X [e] (zaw (tE X.K g) tNil))(m:attributeBase o name X.env (eval o X.env)=eval o X.env)(y:zaj e=Zd)(z:(apos.endLine==cpos.line)=Zd)(h:cntF name=Za c):PE X (.Call (.Attribute o name apos) [e] [] cpos) (tE X.K (zu7 c i g)):=by
 unfold cntF at h;split at h
 ·rename_i q;obtain rfl:=sI h;have d:=Bl q;subst d;exact (zl6 Da PySem.F.slot_list_count PySem.F.type_list_count z59 j p m (zi7 y) z (zah y) rfl).wk λ_ _ _=>zkq λl n k z H Q b a f=>by
   obtain rfl:=sI a;exact⟨l,n,k,rfl,rfl,b,f⟩
 ·split at h
  ·rename_i q;obtain rfl:=sI h;have d:=Bl q;subst d;exact (zl6 Da Fu PySem.F.type_list_index z8u j p m (zi7 y) z (zah y) rfl).wk λ_ _ _=>zkq λl n k z H Q b a f=>by
    unfold cIdx at a;split at a
    ·rename_i r;obtain rfl:=sI a;exact⟨l,n,k,rfl,rfl,b,r,f⟩
    ·exact noSome a
  ·exact noSome h
section
theorem zvf (H:zbw f)(C:CxOk X S d)(h:z16 f S o name apos args cpos=Za g):PE X (.Call (.Attribute o name apos) args [] cpos) (tE X.K g):=by
 unfold z16 at h;split at h
 ·exact noSome h
 ·rename_i z;rw[Cb,not_or,Bi,Bi,Cy] at z;have b:=zqx (a:=name) (env:=X.env) (w:=eval o X.env) z.2;split at h
  ·rename_i e;split at h
   ·exact noSome h
   ·rename_i y;rw[Bi,Cy] at y;split at h
    ·rename_i x r;obtain⟨i,j,h⟩:=bS h;obtain⟨n,l,h⟩:=bS h;have p:PA X [e] (zaw (tE X.K n) tNil):=pac (H X S d C _ _ l) zbb y;rcases zql h with⟨c,k,rfl⟩|h
     ·exact z04 (zli C j) p b y z.1 k
     split at h
     ·rename_i q;obtain rfl:=sI h;have m:=Bl q;subst m;exact (zl6 Da PySem.F.slot_list_append PySem.F.type_list_append zgh (zli C j) p b (zi7 y) z.1 (zah y) rfl).wk λ_ _ _=>zy8
     ·exact noSome h
    ·exact noSome h
  ·exact noSome h
end
noncomputable def zwb (f:Sx->Zi->Option GE) (S:Sx) (x:Str) (args:List Zi):Option GE:=if x==("__debug__" : Str) then Zb else match args with
 |[]=>Zb
 | e::c=>match S.fs.lookup x with
  |some (m,Φ)=>if S.kd.lookup x==Za .globalImplicit then (asM f S (e::c) m).bind λb=>Za (zaa m Φ b) else Zb
  | none=>if x==("isinstance" : Str)&&S.bl x then (match e,c with
    |e,[.Name t _]=>if zaj e&&S.bl t then (kdOf t).bind λk=>(zbe f S e).bind λa=>Za (gOp1 (oIsi k) a) else Zb
    |_,_=>Zb)
   else if S.bl x then (z7s x).bind λo=>(asL (zbe f S) (e::c)).bind λb=>Za (gOpN o b) else Zb
theorem zn4 (H:zbw f)(C:CxOk X S d)(h:zwb f S x args=Za g):PE X (.Call (.Name x p) args [] pos) (tE X.K g):=by
 unfold zwb at h;split at h
 ·exact noSome h
 ·rename_i b;rw[Bi] at b;split at h
  ·exact noSome h
  ·rename_i e Q;split at h
   ·rename_i m Φ n;split at h
    ·rename_i l;obtain⟨J,has,h⟩:=bS h;obtain rfl:=sI h;obtain⟨O,P,i⟩:=C.fs x m Φ n;obtain⟨c,s⟩:=zsd H C has;rw[Dj,Af] at s;exact (z7n i C.room (C.gl x (by simpa using l)) c (Ae _) b (zah s.1) (zja s.2)).wk λ_ _ _=>zg5
    ·exact noSome h
   ·split at h
    ·rename_i u;rw[Af] at u;have y:=Bl u.1;subst y;obtain⟨A,K⟩:=zhc C u.2;split at h
     ·rename_i t pt;split at h
      ·rename_i z;rw[Af] at z;obtain⟨k,E,h⟩:=bS h;obtain⟨a,j,h⟩:=bS h;obtain rfl:=sI h;obtain⟨D,F,G⟩:=z2d E;obtain⟨I,M⟩:=zhc C z.2;have q:PE X (.Name t pt) (tC (.ty k.nm)):=zvd I M D rfl F G;have c:PA X [e,.Name t pt] (zaw (tA X.K a) (zaw (tC (.ty k.nm)) tNil)):=pac (zai H C j) (pac q zbb rfl) z.1;exact (zbm zyd A K zcl c (by decide) b (zah z.1) rfl).wk λ_ _ _=>zvm
      ·exact noSome h
     ·exact noSome h
    ·split at h
     ·rename_i N;obtain⟨o,B,h⟩:=bS h;obtain⟨J,has,h⟩:=bS h;obtain rfl:=sI h;obtain⟨c,s⟩:=zhl (λe a j=>zai H C j) has;obtain⟨r,w,L⟩:=zyb (pos:=pos) (p:=p) C N B c s;exact w.wk λ_ _ _=>zza L
     ·exact noSome h
noncomputable def zra (f:Sx->Zi->Option GE) (S:Sx) (t e:Zi):Option GL:=if !zhx e then Zb else match e with
 | .Call (.Name x _) args [] _ =>
  if x==("range" : Str)&&S.bl x then (match args with
   |[a]=>if zaj a then (asL (zbe f S) [a]).bind λd=>Za (zc9 d) else Zb
   |_=>Zb)
  else if x==("enumerate" : Str)&&S.bl x then (match args,t with
   |[a],.Tuple _ _ _=>if zaj a then (f S a).bind λg=>Za (zs6 g) else Zb
   |_,_=>Zb)
  else if x==("reversed" : Str)&&S.bl x then (match args with
   |[a]=>if zaj a then (f S a).bind λg=>Za (gRev g) else Zb
   |_=>Zb)
  else if x==("zip" : Str)&&S.bl x then (match args,t with
   |[a,b],.Tuple _ _ _=>if zaj a&&zaj b then (f S a).bind λg=>(f S b).bind λc=>Za (gZip g c) else Zb
   |_,_=>Zb)
  else (f S e).bind λg=>Za (zau g)
 |_=>(f S e).bind λg=>Za (zau g)
theorem zpb (H:zbw f)(C:CxOk X S d)(h:zra f S tg e=Za g):PI X tg e (tI X.K g)/\∀x,foldedSetIterable e X.env x=pure x:=by
 unfold zra at h;split at h
 ·exact noSome h
 ·rename_i n;rw[Bi,Cy] at n;refine⟨?_,zti n⟩;split at h
  ·rename_i x v args w;split at h
   ·rename_i z;rw[Af] at z;have j:=Bl z.1;subst j;obtain⟨i,m⟩:=zhc C z.2;split at h
    ·rename_i a;split at h
     ·rename_i y;obtain⟨u,has,h⟩:=bS h;obtain rfl:=sI h;obtain⟨o,_⟩:=zhl (λe a r=>zai H C r) has;exact (zs9 i m o (zah y)).wk λ_ _ _=>zrm
     ·exact noSome h
    ·exact noSome h
   ·split at h
    ·rename_i z;rw[Af] at z;have j:=Bl z.1;subst j;obtain⟨i,m⟩:=zhc C z.2;split at h
     ·rename_i a t q p;split at h
      ·rename_i y;obtain⟨k,c,h⟩:=bS h;obtain rfl:=sI h;exact (zvx i m (pac (H X S d C _ _ c) zbb y) (zah y)).wk λ_ _ _=>zro
      ·exact noSome h
     ·exact noSome h
    ·split at h
     ·rename_i z;rw[Af] at z;have j:=Bl z.1;subst j;obtain⟨i,m⟩:=zhc C z.2;split at h
      ·rename_i a;split at h
       ·rename_i y;obtain⟨k,c,h⟩:=bS h;obtain rfl:=sI h;exact (z9f i m (pac (H X S d C _ _ c) zbb y) (zah y)).wk λ_ _ _=>zx5
       ·exact noSome h
      ·exact noSome h
     ·split at h
      ·rename_i z;rw[Af] at z;have j:=Bl z.1;subst j;obtain⟨i,m⟩:=zhc C z.2;split at h
       ·rename_i a b t q p;split at h
        ·rename_i y;rw[Af] at y;nofun;obtain⟨k,c,h⟩:=bS h;obtain⟨s,l,h⟩:=bS h;ac_rfl;obtain rfl:=sI h;exact (z64 i m (pac (H X S d C _ _ c) (pac (H X S d C _ _ l) zbb y.2) y.1) (by rw[zah y.1,zah y.2];rfl) (zah y.2)).wk λ_ _ _=>zxl
        ·exact noSome h
       ·exact noSome h
      ·obtain⟨k,c,h⟩:=bS h;obtain rfl:=sI h;exact (zz1 (H X S d C _ _ c)).wk λ_ _ _=>zkd
  ·obtain⟨k,c,h⟩:=bS h;obtain rfl:=sI h;exact (zz1 (H X S d C _ _ c)).wk λ_ _ _=>zkd
noncomputable def zgz (S:Sx):List Zi->Option (List Nat)
 |[]=>Za []
 |.Name x _::e=>(S.wr x).bind λi=>(zgz S e).bind λa=>Za (i::a)
 |_=>Zb
noncomputable def tgE (S:Sx):Zi->Option Tg
 |.Name x _=>(S.wr x).bind λi=>Za (.nm i)
 |.Tuple e _ _=>(zgz S e).bind λa=>Za (.tp a)
 |_=>Zb
section
theorem zhy (C:CxOk X S d):∀(es:List Zi) {f:List Nat},zgz S es=Za f->PGs X es (zh6 f)/\(assignEach es X.env).length=f.length/\(assignEach es X.env).findIdx? (·.1)=Zb:=by
 intro es
 induction es with
 |nil=>intro f h;obtain rfl:=sI h;exact⟨ztk,rfl,rfl⟩
 | cons e es j =>
  intro f h;obtain ⟨x,p,rfl⟩ : ∃x p,e=.Name x p:=by
   cases e with
   |Name x p=>exact⟨x,p,rfl⟩
   |_=>exact noSome h
  nofun;obtain⟨i,l,h⟩:=bS (show (S.wr x).bind _=_ from h);obtain⟨f,g,h⟩:=bS h;ac_rfl;obtain rfl:=sI h;nofun;obtain⟨a,b,c⟩:=j g;obtain⟨w,k,m⟩:=zwx C l;ac_rfl;refine⟨ziw (zik (ndN C) w k m) a rfl,congrArg (· + 1) b,?_⟩;show List.findIdx? (·.1) ((Zc,assign (.Name x p) X.env)::assignEach es X.env)=Zb;rw[List.findIdx?_cons,c]
  rfl
theorem zzw (C:CxOk X S d)(h:tgE S e=Za T):PG X e (TGof X.K T):=by
 unfold tgE at h;split at h
 ·obtain⟨i,j,h⟩:=bS h;obtain rfl:=sI h;obtain⟨w,g,k⟩:=zwx C j;exact zik (ndN C) w g k
 ·obtain⟨l,f,h⟩:=bS h;obtain rfl:=sI h;obtain⟨a,b,c⟩:=zhy C _ f;exact zsp C.calm a b c
 ·exact noSome h
end
noncomputable def z1v (te:GE):Fn:=zag [Zc] 1 (gRet te)
noncomputable def lamΦ (te:GE) (w:W):Option W:=(z1v te [w]).bind λp=>if p.1.length=1 then Za p.2.1 else Zb
noncomputable def zq0 (te:GE) (a:GA):GE:=λe=>(a e).bind λp=>(resA p.1 p.2).bind λw=>(seqL w).bind λb=>(mapO (lamΦ te) b).bind λk=>(ztb k b).bind λout=>Za (p.1,(.lst out,Zd))
theorem zkm (h:(scope.names.all λp=>!(p.2==NameKind.free))=Zd):closureFor scope env=pure []:=by
 unfold closureFor;have go:∀(names:List (Str×NameKind)) (a:List (Str×Zh)),(names.all λp=>!(p.2==NameKind.free))=Zd->(forIn names a λ(p:Str×NameKind) a=>(if p.2==NameKind.free then do let c <- cellOf env p.1;pure (ForInStep.yield ((p.1,c)::a)) else pure (ForInStep.yield a):Sem (ForInStep (List (Str×Zh)))))=pure a:=by
  intro names
  induction names with
  |nil=>intro a _;rw[Fb]
  | cons p r i =>
   intro a h;rw[Dj,Af] at h;rw[Gn];have e:(p.2==NameKind.free)=Zc:=by simpa using h.1
   simp only [e,Cz,Fx,pure_bind];exact i a h.2
 have:=go scope.names [] h;simpa using this
theorem z4s {K:Zg}
  (p:s.heap.get? f=Za (PySem.W.kla_obj "<lambda>" qual params body scope [] pm c' ctv)) (g:s.heap.CodeRec (.ref c') qual) (S:FnScope N ps scope) (i:Room (k+1) A) (e0:Env0 P w K mg base A outer s H)
  (M:bindArgs (PySem.W.kla_fn "<lambda>" qual params body scope [] pm (.ref c') ctv) ⟨c,[]⟩=pure (ps.zip c)) (r:Vals vs c) (L:vs.length=ps.length)
  (a:Room k (A.deeper (envOfC qual scope s.heap.objs.size f (.ref c')))->∃t,PE (cxOf CX0 P w K mg base N qual scope f (.ref c') A outer s H E).nox body t/\t (start N vs) H Q) :
  codeAny (model P w) A (.call (.ref f) ⟨c,[]⟩) (CR CX0 outer P w H s Q E) s:=by
 have l:s.heap.NoLimit:=e0.mod.nolimit.keeps λb o e=>(e0.bs b o e).1;have h:∀y∈ps.zip c,scope.names.lookup y.1=Za .local\/(scope.names.lookup y.1=some .cell/\((cellsFrom #v[5,10] scope.names []).lookup y.1).isSome=true):=λ⟨n,v⟩ z=>by
  rcases S.par n (Es z).1 with q|q
  ·exact .inl q
  ·exact .inr ⟨q,Fy _ _ _ (.inl q)⟩
 refine PySem.W.kla_callFunE i.depth p rfl S.co S.gen rfl g ?_;rw[M];refine Ar (wpAny_newFunctionEnv_cells S.kind h λenv G j x=>?_);subst G;refine⟨l.keeps x.toInCall.keep,PySem.W.kla_codeExpr ?_⟩;obtain⟨t,C,m⟩:=a (i.deeper _);have I:Inv (cxOf CX0 P w K mg base N qual scope f (.ref c') A outer s H E) [] (start N vs) H j:=zjr S i.hd e0 L r x;refine Cs (C.nox [] j (start N vs) H Q I m) (λu F d=>?_) λe F d=>d;obtain⟨v,B,J,D,q⟩:=d;exact⟨v,B,J.os,J.bare,J.base,J.hok,D,q⟩
noncomputable def zf9 (params:Arguments):Option Str:=match params.posonlyargs,params.args,params.vararg,params.kwonlyargs,params.kwarg,params.defaults,params.kw_defaults with
 |[],[a],Zb,[],Zb,[],[]=>Za a.arg
 |_,_,_,_,_,_,_=>Zb
theorem zzj (h:zf9 params=Za p):bindArgs (PySem.W.kla_fn "<lambda>" qual params body scope [] pm (.ref c') ctv) ⟨[u],[]⟩=pure ([p].zip [u]):=by
 nofun;obtain⟨l,m,v,r,n,k,o⟩:=params;ac_rfl;unfold zf9 at h;split at h
 ·rename_i a b c q j i g f;simp only at b c q j i g f;subst b c q j i g f;obtain rfl:=sI h;have e:([(a.arg,u)]:List (Str×Ze)).lookup a.arg=Za u:=by simp [List.lookup]
  have d:seqItems? (Ze.none)=(pure Zb:Sem _):=rfl;unfold bindArgs;simp [e,d]
 ·exact noSome h
noncomputable def zmp (scope:Scope) (p:Str):Bool:=decide (scope.kind=.function) && !scope.isCoroutine && !scope.isGenerator&&decide (scope.names.lookup p=Za .local)&&(scope.names.all λq=>!(q.2==NameKind.free))
theorem zv8 (h:zmp scope p=Zd):FnScope [p] [p] scope:=by
 unfold zmp at h;simp only [Af,Hd,Eu] at h;obtain⟨⟨⟨⟨e,d⟩,g⟩,f⟩,c⟩:=h;refine⟨e,d,g,by simp,rfl,λx a=>.inl (by rw[Ax.mp a];exact f),λy b z=>?_⟩;have:=Be.mp c y b;rw[z] at this;cases this
noncomputable def lamS (S:Sx) (scope:Scope) (p:Str):Sx:={ N:=[p],kd:=scope.names,bn:=S.bn,fs:=[],mp:=[],top:=Zd }
section
variable {X:Cx}{S:Sx}{d:Nat}
theorem zyz (HE:zbw fE) (K:zf9 params=Za p) (hs:zmp scope p=Zd) (ht:fE (lamS S scope p) body=Za te) (J:∀x∈S.bn,X.mg x=Zb) (l:("g SIGNS" : Str)∈S.bn->∃t,X.mg "SIGNS" = Za (.str "abcdef" t)) (T:Room 1 X.A) :
  KCall X (.ref f) (lamΦ te) (λpins F=>(f,PySem.W.kla_obj "<lambda>" qual params body scope [] pm c' ctv)∈pins/\F c'=Za (.ext (zc3 c' qual))) where
 mono:=λh K sm=>⟨K _ h.1,sm _ _ h.2⟩
 run:=λpins s σ H F M b w k v u O I R rp ru n=>by
  have U:=zv8 hs;nofun;obtain⟨⟨c,r⟩,e1,q⟩:=bS n;ac_rfl;split at q
  ·rename_i D
   obtain rfl:=sI q;have cr:s.heap.CodeRec (.ref c') qual:=by
    nofun;obtain⟨φ,_,_⟩:=(show zbh X.prog X.w H s.heap c' (.ext (zc3 c' qual)) from I.hok c' _ (R.sub _ _ O.2));obtain⟨oc,vs,t,g1,g2,g3⟩:=φ;ac_rfl;exact⟨c',oc,vs,t,rfl,g1,g2,g3⟩
   have Z:=(I.pin _ (Ay _ O.1)).1;have bk:zax (za7 [(Sum.inl w:W ⊕ Nat)]) b (zav [Zc] c)=b:=by
    unfold zax;apply Dk;intro i;rw[Gj];cases b[i]? with
    |none=>rfl
    |some x=>rfl
   have sp:spF X.K [Zc] (z1v te) [v] H (λd g=>∃a,Same F a/\Rel X.K a M b σ g/\Rep X.K a r.1 d) E0:=by
    refine zr5 (xs:=[.inl w]) (en':=b) (r:=r) R (.cons rp .nil) ?_ λa g d P V y=>?_
    ·show (if (Zd&&Zd&&_)=Zd then _ else Zb)=_
     rw[if_pos (by rfl)];show ((z1v te) [w]).bind _=_;rw[e1];show (if c.length=1 then Za (zax (za7 [(Sum.inl w:W ⊕ Nat)]) b (zav [Zc] c),r) else Zb)=_;rw[if_pos D,bk]
    ·refine aG λGg qG => ?_
     obtain⟨A,L,B,o⟩:=y.freeze V;ac_rfl;exact⟨A,P.trans L,B,o⟩
   refine wpAny_call (codeAny_mono (z4s (N:=[p]) (ps:=[p]) (E:=E0) (Q:=λd g=>∃a,Same F a/\Rel X.K a M b σ g/\Rep X.K a r.1 d) Z cr U T I.env0 ?bind (.cons ru .nil) rfl λz=>?body) λres P j=>?_)
   case bind =>
    exact zzj K
   case body =>
    have rd:=zgd (N:=[p]) sp;have C:CxOk (cxOf CX0 X.prog X.w X.K X.mg X.base [p] qual scope f (.ref c') X.A X.stack s H E0).nox (lamS S scope p) 0:={
     N:=rfl
     nd:=by show [p].Nodup;simp
     loc:=λx e=>e
     cel:=λx e=>⟨e,rfl⟩
     vis:=λx e=>e
     gl:=λx e=>e
     calm:=rfl
     xe:=rfl
     bn:=J
     fs:=λx m Φ e=>by exact noSome e
     room:=z
     sl:=by have:=T.un;show X.A.units+3+16*0+205<cLine;symm
     bk:=by
      show (if scope.kind.isAnnotationScope then ScopeKind.function else scope.kind)=.function;rw[U.kind];rfl
     lam:=λh=>absurd (show ("" : Str)∈lams from h) (by decide +kernel)
     dpo:=Cj _
     sg:=l }
    exact⟨_,HE _ _ _ C _ _ ht,zom rd⟩
   cases res with
   |error e=>exact j.elim
   | ok fl =>
    cases fl with
    | ret u' =>
     nofun;obtain⟨d,g,I',G,a,s1,R1,Y⟩:=I.after j;ac_rfl;exact⟨d,a,g,I',s1,R1,G,Y⟩
    |next=>exact False.elim j
    |brk=>exact False.elim j
    |cont=>exact False.elim j
  ·exact noSome q
variable {pins:List (Zh × Obj)}{σ:St}{H F:Hp}{s:Zf}{pr:Prt}{en:En}
theorem zx2 (C:CxOk X S d) (hn:S.nm∈lams) (hp:zf9 params=Za p) (hs:zmp scope p=Zd) (I:Inv X pins σ H s) (R:Rel X.K F pr en σ H)
  (h:∀f c' pm ctv s' H' F',Inv X pins σ H' s'->Same F F'->Rel X.K F' pr en σ H'->s'.heap.get? f=Za (PySem.W.kla_obj "<lambda>" (lamQ S.nm) params body scope [] pm c' ctv)->H' f=Zb->Apart X pins f->F' c'=Za (.ext (zc3 c' (lamQ S.nm)))->Q (.ref f) s') :
  wpAny #v[1,7] X.A (eval (.Lambda params body scope pos) X.env) Q E s:=by
 refine aG λ_ qG=>?_;obtain ⟨c,P,ht,hc,ecd,eq⟩:=C.lam hn;obtain ⟨ps,t1,t2,t3,t4,t5⟩:=R.tb.2 S.nm hn c P ht;refine qG ?_;clear qG;have hcl:closureFor scope X.env=pure []:=zkm (by unfold zmp at hs;simp only [Af] at hs;exact hs.2);have hg:=I.mod.glob.keeps I.bk;have CH:PySem.W.CodeHd s.heap c P:=PySem.W.codeHd_of_K I.kIn hc;have hP:s.heap.get? P=Za (PySem.W.tabObj ps):=I.hok P _ t1;have hgP:mainGlobals≠P:=λz=>by
  nofun;obtain⟨o,es,ep,B,L,_⟩:=hg;ac_rfl;rw[z,hP] at B;obtain rfl:=sI B;cases L
 refine aG λ_ qG=>?_;obtain ⟨bm,ob,b1,b2,b3,b4,b5,b6⟩:=I.mod.bmn;refine qG ?_;clear qG;have J:=I.bk _ _ b3;have hbG:bm≠mainGlobals:=λz=>by
  nofun;obtain⟨o,es,ep,B,L,_⟩:=hg;ac_rfl;rw[z,B] at J;obtain rfl:=sI J;rw[L] at b6;cases b6
 have hbP:bm≠P:=λz=>by
  rw[z,hP] at J;obtain rfl:=sI J;cases b4
 have hbm:s.heap.BuiltinsAt X.mg P:=⟨bm,ob,b1,b2,hbG,hbP,J,b4,b5,b6⟩;have hdef:defaultsOf params X.env=([],[]):=by
  nofun;obtain⟨po,ar,va,ko,kd,ka,df⟩:=params;ac_rfl;unfold zf9 at hp;split at hp
  ·rename_i a q1 q2 q3 q4 q5 q6 q7
   simp only at q1 q2 q3 q4 q5 q6 q7;subst q1 q2 q3 q4 q5 q6 q7
   rfl
  ·cases hp
 have eq':X.env.qual++"<lambda>" = lamQ S.nm:=by rw[eq];rfl
 refine PySem.W.kla_eval hdef ?_;rw[eq'];cases hf:codeAmong pos ps.toList with
 | some N =>
  obtain⟨c',rfl,hc'⟩:=t5 pos N hf;refine PySem.W.kla_makeFunctionHit hcl I.ok.glob hg ecd CH hP t4 hf hbm λctv V tk k hz=>?_;have Y:∀b o,s.heap.get? b=Za o->(V.push (PySem.W.kla_obj "<lambda>" (lamQ S.nm) params body scope [] ((X.mg "__name__").getD .none) c' ctv)).get? b=Za o:=λb o e=>Ab _ (k b o e);exact h V.objs.size c' _ ctv _ H F (I.kept Y) (.refl F) R (Aq _ rfl) (I.hok.fresh hz) (I.fpOk (H':=H) hz (I.hok.fresh hz)).apart hc'
 | none =>
  refine PySem.W.kla_makeFunction hcl I.ok.glob hg ecd CH hP t4 hf hgP hbm λc' ctv V tk hx hge hlt hrec htb=>?_;have T:H c'=Zb:=I.hok.fresh hge;have nP:c'≠P:=λz=>by rw[z,t1] at T;cases T
  obtain⟨K,M⟩ : ∃K,K=ps++#[rawInt pos.line,rawInt pos.col,.ref c']:=⟨_,rfl⟩;rw[<-M] at htb;have j:s.heap.objs.size<=V.objs.size:=Nat.le_of_lt (Nat.lt_of_le_of_lt hge hlt);have O:∀b,H b=Zb->b≠P:=λb e z=>by rw[z,t1] at e;cases e
  let fo:=PySem.W.kla_obj "<lambda>" (lamQ S.nm) params body scope [] ((X.mg "__name__").getD .none) c' ctv
  have Y:∀b o,b≠P->s.heap.get? b=Za o->(V.push fo).get? b=Za o:=λb o A e=>Ab _ (hx b o A e)
  let H':Hp:=upd (upd H P (.tbl K)) c' (.ext (zc3 c' (lamQ S.nm)))
  have G:∀b,b≠P->b≠c'->H' b=H b:=λb h1 h2=>by show upd (upd H P _) c' _ b=_;rw[upd_ne h2,upd_ne h1]
  have Z:H' P=Za (.tbl K):=by show upd (upd H P _) c' _ P=_;rw[upd_ne nP.symm,upd_same]
  have hHc:H' c'=Za (.ext (zc3 c' (lamQ S.nm))):=upd_same;have nc:∀b o,s.heap.get? b=Za o->b≠c':=λb o e z=>by subst z;exact absurd (Ao e) (Nat.not_lt_of_le hge)
  have U:∀b u,H b=Za u->b≠c':=λb u e z=>by rw[z,T] at e;cases e
  have D:∀b u,H b=Za u->(∀q,u≠.tbl q)->b≠P:=λb u e hu z=>by rw[z,t1] at e;obtain rfl:=sI e;exact hu _ rfl
  have I':Inv X pins σ H' { s with heap:=V.push fo,toks:=tk }:=by
   refine I.step (g':=s.gens) (d':=s.drawn) (ch:=[]) (λb A=>by cases A) (λb o _ _ _ e n=>Y b o (O b n) e) (λb o _ _ _ e n=>⟨o.slots,Y b o (O b n) e⟩) (λb u _ e n=>by rw [G b (O b n) (nc b u e)];exact n)
    (λb u _ e=>?_) (λb xs e=>by rw[G b (D b _ e λ_ z=>by cases z) (U b _ e)];exact e) (λb u xs e=>by rw[G b (D b _ e λ_ z=>by cases z) (U b _ e)];exact e) (λb qs e=>?_) (λm hm=>?_) (λb u e=>?_) I.bare
   ·by_cases A:b=P
    ·subst A;exact⟨_,Ab _ htb⟩
    ·exact⟨u,Y b u A e⟩
   ·by_cases A:b=P
    ·subst A
     rw[t1] at e;cases e;exact⟨#[rawInt pos.line,rawInt pos.col,.ref c'],by rw[Z,M]⟩
    ·exact⟨#[],by rw[G b A (U b _ e),e];simp⟩
   ·refine aG λGg qG => ?_
    obtain⟨o,es,ep,ho,r⟩:=hm;ac_rfl;exact⟨o,es,ep,Y _ o (O _ I.free) ho,r⟩
   ·by_cases A:b=c'
    ·subst A
     rw[hHc] at e;obtain rfl:=sI e;nofun;obtain⟨c2,oc,vs,t,e2,hoc,hd,hv⟩:=hrec;ac_rfl;cases e2;refine⟨⟨oc,vs,t,Ab _ hoc,hd,hv⟩,⟨oc,Ab _ hoc⟩,λh1 h2 ⟨oc,vs,t,B,L,W⟩ kk=>⟨oc,vs,t,kk oc B,L,W⟩⟩
    ·by_cases hb2:b=P
     ·subst hb2
      rw[Z] at e;obtain rfl:=sI e;exact Ab _ htb
     ·rw [G b hb2 A] at e
      refine (I.hok b u e).stay (λc v hc q=>Y c v ?_ q) (λc q=>by rw[G c (D c _ q λ_ z=>by cases z) (U c _ q)];exact q) λc xs q=>by rw[G c (D c _ q λ_ z=>by cases z) (U c _ q)];exact q
      rcases hc with z|z
      ·rw[z];exact hb2
      ·exact D c _ z λ_ y=>by cases y
  have fc:F c'=Zb:=R.sub.free T;have sF:Same F (upd F c' (.ext (zc3 c' (lamQ S.nm)))):=Same.new fc _;have R':Rel X.K (upd F c' (.ext (zc3 c' (lamQ S.nm)))) pr en σ H':=by
   refine⟨R.len,λb u e=>?_,λi w e=>?_,λi w e=>?_,R.inj,λb o q=>?_,R.tb.1,λx hx' c0 P0 e0=>?_⟩
   ·by_cases A:b=c'
    ·subst A;rw[upd_same] at e;rw[hHc];exact e
    ·rw [upd_ne A] at e
     have e':=R.sub _ _ e;rw[G b (λz=>by rw[z,t2] at e;cases e) A];exact e'
   ·obtain ⟨v,B,L⟩:=R.val i w e
    exact⟨v,B,L.mono sF⟩
   ·refine aG λGg qG => ?_
    obtain⟨a,o,w',B,L,W,g4,g5⟩:=R.own i w e;ac_rfl;have na:a≠c':=U a _ W;exact⟨a,o,w',B,L,by rw[G a (D a _ W λ_ z=>by cases g5<;>cases z) na];exact W,by rw[upd_ne na];exact g4,g5.mono sF⟩
   ·obtain ⟨B,L,W⟩:=R.prt b o q
    have nb:b≠c':=U b _ B;exact⟨by rw[G b (λz=>by subst z;exact t3 o q) nb];exact B,by rw[upd_ne nb];exact L,W⟩
   ·refine aG λGg qG => ?_
    obtain⟨qs,u1,u2,u3,u4,u5⟩:=R.tb.2 x hx' c0 P0 e0;ac_rfl;by_cases hp0:P0=P
    ·subst hp0
     have ex:x=S.nm:=R.tb.1.1 x hx' S.nm hn c0 c P0 e0 ht;subst ex;rw[t1] at u1;cases u1;refine⟨K,Z,by rw[upd_ne nP.symm];exact t2,t3,?_,λg N e2=>?_⟩
     ·rw [M]
      have:=TriplesOk_snoc pos.line pos.col (.ref c') ps.toList t4;simpa using this
     ·rw [M] at e2
      have e3:codeAmong g (ps.toList++[rawInt pos.line,rawInt pos.col,.ref c'])=Za N:=by simpa using e2
      have gen:∀l:List Ze,TriplesOk l->codeAmong g (l++[rawInt pos.line,rawInt pos.col,.ref c'])=Za N->codeAmong g l=Za N\/N=.ref c':=λl hl=>by
       fun_induction TriplesOk l with
       | case1 =>
        intro z;show _\/_
        right
        simp only [List.nil_append,rawInt,codeAmong] at z;split at z
        ·exact (sI z).symm
        ·cases z
       | case2 a b c d e rest ih =>
        intro z;simp only [List.cons_append,codeAmong] at z ⊢;split at z
        ·rename_i q;rw[if_pos q];exact .inl z
        ·rename_i q;rw[if_neg q];exact ih hl z
       |case3=>exact hl.elim
      rcases gen ps.toList t4 e3 with z|z
      ·obtain ⟨c2,q1,q2⟩:=u5 g N z
       exact⟨c2,q1,sF _ _ q2⟩
      ·exact⟨c',z,upd_same⟩
    ·have np0:P0≠c':=U P0 _ u1
     refine⟨qs,by rw[G P0 hp0 np0];exact u1,by rw[upd_ne np0];exact u2,u3,u4,λg N e2=>?_⟩;obtain⟨c2,q1,q2⟩:=u5 g N e2;exact⟨c2,q1,sF _ _ q2⟩
  have nf:H' V.objs.size=Zb:=by
   rw[G _ (λz=>?_) (Nat.ne_of_gt hlt)]
   ·exact I.hok.fresh j
   ·have:=I.hok.fresh j
    rw[z,t1] at this;cases this
  exact h V.objs.size c' _ ctv _ H' _ I' sF R' (Aq _ rfl) nf (I.fpOk (H':=H) j (I.hok.fresh j)).apart upd_same
theorem zwk (h:Room 2 X.A):Room 1 X.inn.A:=⟨h.hd,by have:=h.dp;show X.A.depth+3*1+5<_;symm,by have:=h.un;show X.A.units+1+1+16*1+200<_;symm,h.gd⟩
noncomputable def z8b (sq:W->Option (List W)) (S2:List W->List W->Option (List W)) (te:GE) (a:GA):GE:=λen=>(a en).bind λp=>(resA p.1 p.2).bind λw=>(sq w).bind λb=>(mapO (lamΦ te) b).bind λk=>(S2 k b).bind λout=>Za (p.1,(.lst out,Zd))
theorem z5q:∀{w:W}{ws:List W},seqL w=Za ws->seqW w=Za ws:=λ{w ws} h=>by
 cases w<;>first|exact h|exact noSome h
theorem zv3 (hq:∀{w ws},sq w=Za ws->seqW w=Za ws) (hS:∀{t ws out},S2 t ws=Za out->ztm t ws out) (Y:zbw fE) (C:CxOk X S d) (ha:zbe fE S e=Za a) (P:zaj e=Zd) (hn:S.nm∈lams) (h2:2<=S.dp) (hp:zf9 params=Za p) (U:zmp scope p=Zd) (ht:fE (lamS S scope p) body=Za te) (L:S.bl "sorted" = Zd) :
  PE X (.Call (.Name "sorted" px) [e] [⟨Za "key",.Lambda params body scope lpos,kpos⟩] pos) (tE X.K (z8b sq S2 te a)):=by
 intro pins s σ H Q I h;nofun;nofun;obtain⟨F,pr,en,en',r,R,b,q⟩:=h;obtain⟨⟨V,x⟩,h1,b⟩:=bS b;obtain⟨w,hw,b⟩:=bS b;obtain⟨ws,n,b⟩:=bS b;obtain⟨t,o,b⟩:=bS b;obtain⟨out,ho,b⟩:=bS b;ac_rfl;ac_rfl;cases b;obtain⟨gl,mn⟩:=zhc C L;have hr:Room 2 X.A:=C.room.mono (Bz h2 C.dpo);have c:starEach [e] X.env=(Zc,eval e X.env)::starEach [] X.env:=by cases e<;>first|rfl|(cases P)
 refine Gf (zdq I gl mn (show bootBuiltins "sorted" = Za (.builtin "sorted") from PyProof.Rows.boot_sorted) ?_);refine PyProof.Rows.callWith_kw ?_ (by rw[c];rfl) (by rw[c];rfl);refine thn (zal (zai Y C ha) zbb c pos pins s σ H (λvs m=>∃v g,vs=[v]/\Same F g/\Rel X.K g pr V σ m/\ArgR X.K g σ x v) I ⟨F,pr,en,V,x,R,h1,λg m v s1 N K=>⟨v,g,rfl,s1,N,K⟩⟩) λus s1 ⟨vs,m,I1,D,v,g,B,G,N,K⟩=>?_;subst B;cases D with
 | cons ru D =>
  cases D;refine PyProof.Rows.kws_cons (zx2 C hn hp U I1 N λf T O ctv s2 H2 F2 I2 i R2 gf nf k gc=>PyProof.Rows.kws_nil ?_);have I3:Inv X ((f,PySem.W.kla_obj "<lambda>" (lamQ S.nm) params body scope [] O T ctv)::pins) σ H2 s2:=I2.pins_of λy j=>by
   rcases Ak.mp j with rfl|j
   ·exact⟨gf,nf,k.l,k.f,λv z=>by cases z⟩
   ·exact I2.pin y (Ay _ j)
  have rb:=(K.mono i).repB R2 hw;nofun;nofun;obtain⟨l,vvs,B,sq,J⟩:=rb.seqW R2.sub (hq n);ac_rfl;ac_rfl;subst B;cases (show _=Ze.ref l from ru);refine thn (zqc (E:=X.xe) (Q:=Q) (zyz (X:=X.inn) (S:=S) (f:=f) (c':=T) (qual:=lamQ S.nm) (pm:=O) (ctv:=ctv) Y hp U ht C.bn C.sg (zwk hr)) I3 ⟨Au,gc⟩ R2 sq J o (hS ho) (by have:=hr.un;symm) λF' A v W R' y=>q F' A v (G.trans (i.trans W)) R' y) λu W ⟨v,A,Z,M,q'⟩=>⟨v,A,Z.pins_of λy j=>Z.pin y (Ay _ (Ai _ j)),M,q'⟩
noncomputable def z3t (fE:Sx->Zi->Option GE) (S:Sx) (x:Str) (e:Zi) (key:Str) (params:Arguments) (body:Zi) (scope:Scope):Option GE :=
 if x==("sorted" : Str)&&key==("key" : Str)&&S.bl x&&zaj e&&lams.contains S.nm&&decide (2<=S.dp) then (zf9 params).bind λp=>if zmp scope p then (zbe fE S e).bind λa=>(fE (lamS S scope p) body).bind λt=>Za (zq0 t a) else Zb else Zb
theorem zzs (H:zbw fE)(C:CxOk X S d)(h:z3t fE S x e key params body scope=Za g):PE X (.Call (.Name x px) [e] [⟨Za key,.Lambda params body scope lpos,kpos⟩] pos) (tE X.K g):=by
 unfold z3t at h;split at h
 ·rename_i z;simp only [Af,Eu,List.contains_iff_mem] at z;nofun;obtain⟨⟨⟨⟨⟨q,f⟩,i⟩,o⟩,n⟩,l⟩:=z;ac_rfl;have b:=Bl q;have k:=Bl f;subst b k;obtain⟨p,c,h⟩:=bS h;split at h
  ·rename_i y;nofun;obtain⟨a,j,h⟩:=bS h;obtain⟨t,m,h⟩:=bS h;ac_rfl;obtain rfl:=sI h;exact zv3 (sq:=seqL) (S2:=ztb) z5q zx7 H C j o n l c y m i
  ·exact noSome h
 ·exact noSome h
end
section
noncomputable def mxF (f:Nat->Int):Nat->Nat->Int->Int
 |_,0,b=>b
 |j,k+1,b=>mxF f (j+1) k (if f j > b then f j else b)
variable {fp wr:List Zh}{St:Nat->Heap->Prop}
noncomputable def maxD (f:Nat->Int) (n:Nat) (d:Int):Int:=match n with
 |0=>d
 |n+1=>mxF f 1 n (f 0)
end
noncomputable def mxL (ns:List Int) (d:Int):Int:=maxD (λi=>ns.getD i 0) ns.length d
noncomputable def ya0 (a:GA) (g:GE):GE:=λe=>(a e).bind λp=>(g p.1).bind λq=>(resA q.1 p.2).bind λw=>(seqW w).bind λb=>(zcw b).bind λn=>match q.2.1 with
 |.int d=>Za (q.1,(.int (mxL n d),Zc))
 |_=>Zb
section
noncomputable def maxE (fE:Sx->Zi->Option GE) (S:Sx) (x:Str) (e:Zi) (key:Str) (b:Zi):Option GE :=
 if x==("max" : Str)&&key==("default" : Str)&&S.bl x&&zaj e then (zbe fE S e).bind λa=>(fE S b).bind λg=>Za (ya0 a g) else Zb
end
noncomputable def rgV (n:Nat):List V:=(List.range n).map λi=>V.int (i:Nat)
noncomputable def tLR (t:TA):TE:=λσ H Q=>t σ H λv a=>∃j:Int,v=[.int j]/\-(2^62)<=j/\j<=2^24/\∀p,a p=Zb->Q (.ref p) (upd a p (.lst (rgV j.toNat)))
noncomputable def lrOk (j:Int):Bool:=zdp j&&decide (j<=16777216)
noncomputable def zg1 (as:GAs):GE:=λe=>(as e).bind λp=>match za2 p.1 p.2 with
 |some [.int j]=>if lrOk j then Za (p.1,(.lst (rngW 0 j.toNat),Zd)) else Zb
 |_=>Zb
theorem zwn (h:as en=Za (e1,xs))(r:za2 e1 xs=Za [.int j])(q:lrOk j=Zd):zg1 as en=Za (e1,(.lst (rngW 0 j.toNat),Zd)):=by
 unfold zg1;rw[h];show (match za2 e1 xs with
  |some [.int j]=>if lrOk j then Za (e1,(W.lst (rngW 0 j.toNat),Zd)) else Zb
  |_=>Zb)=_
 rw[r];show (if lrOk j then Za (e1,(W.lst (rngW 0 j.toNat),Zd)) else Zb)=_;rw[q];rfl
section
theorem z3h (h:ItemsOf (λi v=>∃t,v=Ze.int (0+(i:Int)*1) t) acc n):Vals (rgV n) acc.toList:=by
 obtain⟨c,b⟩:=h;have d:acc.toList.length=n:=by rw[Bx];exact c
 have go:∀(l:List Ze) (k:Nat),(∀(j:Nat) (v:Ze),l[j]?=Za v->∃t,v=Ze.int ((k+j:Nat):Int) t)->Vals ((List.range' k l.length).map λi=>V.int (i:Nat)) l:=by
  intro l
  induction l with
  |nil=>exact λ_ _=>.nil
  | cons v l a =>
   intro k h;rw[Bd,List.range'_succ,Aw];refine .cons ?_ (a (k+1) λj u e=>?_)
   ·obtain ⟨t,e⟩:=h 0 v rfl
    exact⟨t,e⟩
   ·obtain ⟨t,e⟩:=h (j+1) u e
    exact⟨t,by rw[e];congr 1;symm⟩
 have:=go acc.toList 0 λj v e=>by
  obtain⟨t,q⟩:=b j v (by rw[<-Et];exact e);exact⟨t,by rw[q];congr 1;symm⟩
 rw[d] at this;unfold rgV;rw[List.range_eq_range'];exact this
theorem ya1 (C:X.calm=Zd) (m:Gl X "list") (D:X.mg "list" = Zb) (w:Gl X "range") (l:X.mg "range" = Zb) (A:PA X [a] ta) (y:starEach [a] X.env=[(Zc,eval a X.env)]):PE X (.Call (.Name "list" p) [.Call (.Name "range" p') [a] [] pos'] [] pos) (tLR ta):=by
 intro pins s σ H Q I h;refine Call_ (zdq I m D zm5 (Ck (Calls.spliced_cons ?_) rfl rfl));refine Call_ (zdq I w l boot_range (Ck (thn (A pos' pins s σ H _ I h) λO d ⟨N,k,u,G,E⟩=>?_) y rfl));nofun;obtain⟨j,e,J,L,q⟩:=E;ac_rfl;subst e;cases G with
 | cons r K =>
  cases K;obtain⟨t,rfl⟩:=r;refine call_range_1 ?_;refine Calls.spliced_nil ?_;have g:Inv X pins σ k { d with heap:=d.heap.push { cls:=.type "range",data:=.fields #[.int 0 d.toks,.int j t,.int 1 (d.toks+1)] },toks:=d.toks+1+1 }:=u.kept λb o e=>Ab _ e;refine call_list_range (n:=j.toNat) (g.ok.hd C) (IsRange.new ..) (small_one (by symm) (by symm) J (by symm)) (by rw[rangeSize_one];split<;>symm) (by symm) λM x f c F z i=>?_;have B:=z3h i;exact⟨.ref _,_,g.laid (t':=x) (o:=.lst (rgV j.toNat)) F (Ae _) ⟨by unfold rgV;rw[Ad,By,Hj];symm,f.toList,c,B,by rw[Array.toArray_toList];exact z⟩,rfl,q _ (g.hok.fresh (Ae _))⟩
theorem zxq {K:Zg}(n:Nat):Reps K F (rngW 0 n) (rgV n):=by
 have go:∀l:List Nat,Reps K F (l.map λi=>W.int ((i:Nat):Int)) (l.map λi=>V.int (i:Nat)):=by
  intro l
  induction l with
  |nil=>exact .nil
  |cons a l b=>exact .cons (.int _) b
 have e:rngW 0 n=(List.range n).map λi=>W.int ((i:Nat):Int):=by
  unfold rngW;exact Fh λi _=>by rw[Gw]
 rw[e];exact go _
theorem z21 {K:Zg} (h:tE K (zg1 as) σ H Q):tLR (tAs K as) σ H Q:=by
 obtain⟨F,l,g,n,r,Re,h,q⟩:=h;obtain⟨⟨b,x⟩,f,h⟩:=bS h;refine⟨F,l,g,b,x,Re,f,λu d C s R m=>?_⟩;cases e:za2 b x with
 |none=>simp only [e] at h;exact noSome h
 | some A =>
  have a:=m.repBs R e
  match A,e,a with
  | [w],e,a =>
   cases w with
   | int j =>
    simp only [e] at h;split at h
    ·rename_i z
     unfold lrOk at z;rw[Af] at z;obtain rfl:=(Prod.mk.inj (sI h)).1;obtain rfl:=(Prod.mk.inj (sI h)).2;obtain⟨v,k,i⟩:=a.one;subst k;refine⟨j,by rw[i.int],(ziv z.1).1,by have:=Ap z.2;symm,λp t=>?_⟩;obtain⟨o,B,c,y⟩:=(Out.lst (K:=K) (F:=u) (H:=d) (p:=p) t (zxq j.toNat)).close R;exact q o _ _ (s.trans B) c y
    ·exact noSome h
   |_=>simp only [e] at h;exact noSome h
  |[],e,_=>simp only [e] at h;exact noSome h
  |_::_::_,e,_=>simp only [e] at h;exact noSome h
end
noncomputable def z45 (f:Sx->Zi->Option GE) (S:Sx) (x:Str) (args:List Zi):Option GE:=match args with
 |[.Call (.Name y _) [a] [] _]=>if x==("list" : Str)&&y==("range" : Str)&&S.bl x&&S.bl y&&zaj a then (asL (zbe f S) [a]).bind λb=>Za (zg1 b) else zwb f S x args
 |_=>zwb f S x args
theorem zxs (H:zbw f)(C:CxOk X S d)(h:z45 f S x args=Za g):PE X (.Call (.Name x p) args [] pos) (tE X.K g):=by
 unfold z45 at h;split at h
 ·rename_i y u a v;split at h
  ·rename_i z;simp only [Af] at z;obtain⟨⟨⟨⟨q,i⟩,j⟩,o⟩,n⟩:=z;have b:=Bl q;have l:=Bl i;subst b l;obtain⟨w,has,h⟩:=bS h;obtain rfl:=sI h;obtain⟨c,_⟩:=zhl (λe a k=>zai H C k) has;obtain⟨t,s⟩:=zhc C j;obtain⟨r,m⟩:=zhc C o;exact (ya1 C.calm t s r m c (zah n)).wk λ_ _ _=>z21
  ·exact zn4 H C h
 ·exact zn4 H C h
noncomputable def fnW (Φ:Fn) (w:W):Option W:=(Φ [w]).bind λp=>if p.1.length=1 then Za p.2.1 else Zb
noncomputable def z76 (Φ:Fn) (a:GA):GE:=λe=>(a e).bind λp=>(resA p.1 p.2).bind λw=>(seqL w).bind λb=>(mapO (fnW Φ) b).bind λk=>(ztb k b).bind λout=>Za (p.1,(.lst out,Zd))
section
noncomputable def z9c (fE:Sx->Zi->Option GE) (S:Sx) (e:Zi) (y:Str):Option GE:=if zaj e&&S.bl "sorted" && S.kd.lookup y==Za .globalImplicit && !(y==("__debug__" : Str)) then (match S.fs.lookup y with
 |some (m,Φ)=>if m==[Zc] then (zbe fE S e).bind λa=>Za (z76 Φ a) else Zb
 |none=>Zb) else Zb
end
section
variable {K:Zg}
theorem Reps.eraseIdx {K:Zg}:∀{xs:List W}{u:List V} (i:Nat),Reps K F xs u->Reps K F (xs.eraseIdx i) (u.eraseIdx i)
 |_,_,_,.nil=>.nil
 |_,_,0,.cons _ r=>r
 |_,_,i+1,.cons q r=>.cons q (Reps.eraseIdx i r)
noncomputable def zp6 (i:Nat) (g:GE):GE:=λe=>match e[i]? with
 | some (Za (.lst _,Zd))=>(g e).bind λp=>(intW p.2.1).bind λk=>match p.1[i]? with
  |some (#v[a,2])=>if 0<=k/\a.length<sizeLine then (a[k.toNat]?).bind λw=>Za (p.1.set i (#v[(a.eraseIdx k.toNat),2]),(w,Zc)) else Zb
  |_=>Zb
 |_=>Zb
theorem zvn (h:tE K (zp6 i g) σ H Q):tBM K "list" z0r (tVar i) (zaw (tE K g) tNil) σ H Q:=by
 nofun;obtain⟨F,N,D,P,r,R,h,q⟩:=h;ac_rfl;unfold zp6 at h;split at h
 ·rename_i Y l;nofun;obtain⟨a,W,E,q1,m,G,q4,q5⟩:=R.ownL l;obtain⟨⟨O,f,U⟩,C,s⟩:=bS h;obtain⟨k,t,b⟩:=bS s;ac_rfl;clear s h;refine⟨.ref a,m,.inl ⟨rfl,W,SqL.of' G⟩,F,N,D,O,(f,U),R,C,λV Z v1 T x B=>?_⟩;split at b
  ·rename_i o c;have A:f=.int k:=by
    cases f with
    |int j=>obtain rfl:=sI t;rfl
    |_=>exact noSome t
   subst A;have L:=B.isInt;subst L;by_cases e:0<=k/\o.length<sizeLine
   ·rw[if_pos e] at b;obtain⟨w,n,b⟩:=bS b;cases b;nofun;obtain⟨a',d,X,z,y,J,p4,p⟩:=x.ownL c;ac_rfl;cases z;rw[m] at y;cases y;obtain⟨v,I,M⟩:=p.get n;have hl:k.toNat<o.length:=(Ag.mp n).1;refine⟨a,d,k,k.toNat,v,rfl,rfl,J,Int.le_trans (by decide) e.1,?_,?_,I,?_⟩
    ·have u:sizeLine=16777216:=Hj;symm
    ·have S:ixN d.length k=Za k.toNat:=by
      unfold ixN;rw[if_pos e.1,if_pos (by rw[<-p.length];symm)]
     exact (znk S).1
    ·exact q V _ _ T (x.change c m (p.eraseIdx _)) M
   ·rw[if_neg e] at b;exact noSome b
  ·exact noSome b
 ·exact noSome h
theorem yaq {u ws:List W}{k:Nat}{f:Bool}{w:W}(h0:en[i]?=Za (#v[u,2]))(h:g en=Za (e1,(.int k,f)))(a:e1[i]?=Za (#v[ws,2]))(b:ws[k]?=Za w)(c:ws.length<sizeLine):zp6 i g en=Za (e1.set i (#v[(ws.eraseIdx k),2]),(w,Zc)):=by
 unfold zp6;rw[h0];simp only [h,Dq,intW,a];rw[if_pos ⟨El k,c⟩,Dl,b]
 rfl
end
noncomputable def zu8 (x:Zi->Option GE) (X:Cx):Prop:=∀e g,x e=Za g->PE X e (tE X.K g)
section
noncomputable def zsj (fE:Sx->Zi->Option GE) (S:Sx):Zi->Option GE
 |.Call (.Attribute (.Name x _) name apos) [e] [] cpos=>if name==("pop" : Str)&&(apos.endLine==cpos.line)&&zaj e then (S.rd x).bind λi=>(fE S e).bind λg=>Za (zp6 i g) else Zb
 |_=>Zb
theorem zq1 (H:zbw fE)(C:CxOk X S d):zu8 (zsj fE S) X:=λe g h=>by
 unfold zsj at h;split at h
 ·split at h
  ·rename_i z;rw[Af,Af] at z;obtain⟨⟨c,f⟩,y⟩:=z;have b:=Bl c;subst b;obtain⟨i,j,h⟩:=bS h;obtain⟨k,a,h⟩:=bS h;obtain rfl:=sI h;exact (zl6 Da PySem.F.slot_list_pop PySem.F.type_list_pop zwh (zli C j) (pac (H X S d C _ _ a) zbb y) (zqx rfl) (zi7 y) f (zah y) rfl).wk λ_ _ _=>zvn
  ·exact noSome h
 ·exact noSome h
end
section
variable {K:Zg}
end
section
end
section
variable {K:Zg}
end
section
end
section
end
section
end
section
end
section
end
section
variable {K:Zg}
end
section
end
section
end
section
variable {K:Type} [DecidableEq K]
variable {fp wr:List Zh}{St:Nat->Heap->Prop}
end
section
end
section
end
section
variable {K:Zg}
end
section
end
section
end
section
end
section
end
section
end
section
end
section
end
section
end
section
end
section
end
section
variable {K:Zg}
end
section
variable {K:Zg}
end
section
end
section
end
section
variable {K:Zg}{F:Hp}
end
section
end
section
variable {K:Zg}
end
section
end
section
variable {K:Zg}
end
section
variable {K:Zg}
end
section
open PySem.AutoSeq1 (wpAny_loadPart')
end
section
end
set_option maxHeartbeats 1000000
section
variable {prog:Program}{w:World}{A:Around}{E:Ze->Zf->Prop}{s:Zf}
end
section
end
section
end
section
end
namespace SetT
noncomputable abbrev HT:=Array Int×SetTable
end SetT
section
variable {prog:Program}{w:World}{A:Around}{E:Ze->Zf->Prop}{s:Zf}
end
section
variable {fp wr:List Zh}{G:Array GenState->Array GenState->Prop}{St:Nat->Zf->Prop}
end
section
end
end L2
namespace L2
open PySem PySem.Spec PyProof.Rows
section
variable {prog:Program}{w:World}{A:Around}{E:Ze->Zf->Prop}{s:Zf}{it d:Zh}{es:Array (Int × Ze)}{ep slot i:Nat}{t:SetTable}
end
section
end
section
end
section
end
section
end
section
end
section
variable {K:Zg}
end
section
end
section
open PySem.AutoSeq1 (wpAny_loadPart')
end
section
end
section
open PySem.AutoSeq1 (wpAny_loadPart')
end
section
end
section
open HT in
end
section
noncomputable def orX (a b:Option GE):Option GE:=match a with
 |some g=>Za g
 |none=>b
theorem z6k (a:zu8 x X)(b:zu8 y X):zu8 (λe=>orX (x e) (y e)) X:=λe g h=>by
 have h:orX (x e) (y e)=Za g:=h;unfold orX at h;split at h
 ·rename_i c q;obtain rfl:=sI h;exact a e c q
 ·exact b e g h
noncomputable def extE (fE:Sx->Zi->Option GE) (S:Sx) (e:Zi):Option GE:=zsj fE S e
theorem z43 (H:zbw fE)(C:CxOk X S d):zu8 (extE fE S) X:=zq1 H C
end
noncomputable def ncOf (scope:Scope):List Str:=(scope.names.filter λp=>p.2==.free||p.2==.local||p.2==.cell).map (·.1)
noncomputable def capC (S:Sx) (scope:Scope):Cap:=(ncOf scope).map λx=>if scope.names.lookup x==Za .free then S.N.findIdx? (· == x) else Zb
noncomputable def inS (S:Sx) (scope:Scope):Sx:={ N:=ncOf scope,kd:=scope.names,bn:=S.bn,fs:=S.fs,mp:=capKeep (capC S scope),top:=Zc }
noncomputable def zm6 (S:Sx) (scope:Scope):Bool:=decide (scope.kind=.function)&&zhf (capC S scope) (ncOf scope) S.N scope&&(scope.names.all λp=>!(p.2==.free)||S.kd.lookup p.1==Za .cell||S.kd.lookup p.1==Za .free) &&
 zfn scope && (scope.names.all λp=>!(p.2 == NameKind.local) || decide (scope.names.lookup p.1=some .local))&&decide (ncOf scope).Nodup
noncomputable def zz0 (fT:Sx->Zi->Option GT) (S:Sx):List Zi->Option GT
 |[]=>Za gYes
 |[c]=>fT S c
 |_=>Zb
noncomputable def zrt (fE:Sx->Zi->Option GE) (fT:Sx->Zi->Option GT) (S:Sx) (elt:Zi) (gens:List Comprehension) (scope:Scope):Option GE:=match gens with
 |[c]=>if zm6 S scope&&decide (c.is_async=0) then (zra fE S c.target c.iter).bind λg=>(tgE (inS S scope) c.target).bind λT=>(zz0 fT (inS S scope) c.ifs).bind λa=>(fE (inS S scope) elt).bind λt=>Za (zbq (capC S scope) T g a t) else Zb
 |_=>Zb
structure ScOk (X:Cx) (S:Sx) (scope:Scope):Prop where
 kind:scope.kind=.function
 cap:zhf (capC S scope) (ncOf scope) X.N scope=Zd
 fr:zgs scope X.env.scope=Zd
 nc:zfn scope=Zd
 nm:(scope.names.all λp=>!(p.2 == NameKind.local) || decide (scope.names.lookup p.1=some .local))=Zd
 nd:(ncOf scope).Nodup
section
theorem zyo (C:CxOk X S d)(h:zm6 S scope=Zd):ScOk X S scope:=by
 unfold zm6 at h;simp only [Af] at h;obtain⟨⟨⟨⟨⟨b,e⟩,i⟩,g⟩,c⟩,f⟩:=h;refine⟨Ap b,by rw[C.N];exact e,?_,g,c,Ap f⟩;unfold zgs;refine Be.mpr λp a=>?_;have q:=Be.mp i p a;simp only [Cb,Hd,beq_eq_false_iff_ne,Fs,Eu] at q ⊢;rcases q with (q|q)|q
 ·exact .inl (.inl q)
 ·rcases C.vis p.1 (.inl q) with z|z
  ·exact .inl (.inr z)
  ·exact .inr z
 ·rcases C.vis p.1 (.inr q) with z|z
  ·exact .inl (.inr z)
  ·exact .inr z
theorem z1p (C:CxOk X S d)(h:ScOk X S scope)(c:List (Str×Zh))(L:Zh)(s:Zf)(H:Hp)(fp:List Zh):CxOk (zbd X (ncOf scope) scope c L s H fp) (inS S scope) d where
 N:=rfl
 nd:=h.nd
 loc:=λx e=>zbc (env:=X.env) (by decide) e
 cel:=λx e=>⟨zbc (env:=X.env) (by decide) e,Ah e⟩
 vis:=λx e=>by
  rcases e with e|e
  ·exact .inl (zbc (env:=X.env) (by decide) e)
  ·exact za9 (env:=X.env) e
 gl:=λx e=>zbc (env:=X.env) (by decide) e
 calm:=C.calm
 xe:=rfl
 bn:=C.bn
 fs:=C.fs
 room:=C.room
 sl:=C.sl
 lam:=λh=>absurd (show ("" : Str)∈lams from h) (by decide +kernel)
 dpo:=Cj _
 sg:=C.sg
 bk:=by
  show (if scope.kind.isAnnotationScope then ScopeKind.function else scope.kind)=.function;rw[h.kind];rfl
end
theorem zv9 {K:Zg}(h:tT K gYes σ H Q):zz8 σ H Q:=by
 obtain⟨F,p,a,e,b,R,h,q⟩:=h;cases h;exact q F H (.refl F) R
structure CompP (X:Cx) (S:Sx) (elt:Zi) (gens:List Comprehension) (scope:Scope) (g:GE):Prop where
 ex:∃tg iter ifs gs gi T tc,∃(em:Pos->Ze->Env->Sem Unit) (tm:Zh->TM),gens=⟨tg,iter,ifs,0⟩::gs/\(∀pos it acc env,compTurn #v[3,9] 0 it acc env=zqg #v[3,9] 0 tg iter ifs (em pos acc env) it acc env)/\ScOk X S scope/\PI X tg iter (tI X.K gi)/\(∀x,foldedSetIterable iter X.env x=pure x) /\
  (∀cl C s3 H3 fp,PG (zbd X (ncOf scope) scope cl C s3 H3 fp) tg (TGof X.K T))/\(∀cl C s3 H3 fp,PTs (zbd X (ncOf scope) scope cl C s3 H3 fp) ifs (tT X.K tc))/\(∀pos cl C s3 H3 fp acc,PM (zbd X (ncOf scope) scope cl C s3 H3 fp) (em pos (.ref acc) (zbd X (ncOf scope) scope cl C s3 H3 fp).env) (tm acc)) /\
  ∀σ H Q,tE X.K g σ H Q->zre (tI X.K gi) (capC S scope) (TGof X.K T) (tT X.K tc) tm σ H Q
section
theorem PTs.wk (h:PTs X ifs t)(i:∀σ H Q,t' σ H Q->t σ H Q):PTs X ifs t':=λpins s σ H Q I q=>h pins s σ H Q I (i σ H Q q)
theorem zww (HT:zgl fT)(C:CxOk X S d):∀{ifs:List Zi}{tc:GT},zz0 fT S ifs=Za tc->PTs X ifs (tT X.K tc)
 |[],_,h=>by obtain rfl:=sI h;exact z3e.wk λ_ _ _=>zv9
 |[_],_,h=>z3x (HT _ _ d C _ _ h)
 |_::_::_,_,h=>noSome h
theorem zg7 (j:zbw fE)(HT:zgl fT)(C:CxOk X S d)(h:zrt fE fT S elt gens scope=Za g):CompP X S elt gens scope g:=by
 unfold zrt at h;split at h
 ·rename_i c;obtain⟨t,iter,ifs,m⟩:=c;split at h
  ·rename_i z;rw[Af] at z;have l:m=0:=Ap z.2;subst l;obtain⟨n,u,h⟩:=bS h;obtain⟨T,o,h⟩:=bS h;obtain⟨q,i,h⟩:=bS h;obtain⟨r,f,h⟩:=bS h;obtain rfl:=sI h;have e:=zyo C z.1;obtain⟨p,k⟩:=zpb j C u;exact⟨t,iter,ifs,[],n,T,q,λ_=>z25 elt,λa=>zyv a (tE X.K r),rfl,λ_ _ _ _=>rfl,e,p,k,λb L s H fp=>zzw (z1p C e b L s H fp) o,λb L s H fp=>zww HT (z1p C e b L s H fp) i,λ_ b L s H fp a=>z60 (j _ _ d (z1p C e b L s H fp) _ _ f),λ_ _ _=>zr6⟩
  ·exact noSome h
 ·exact noSome h
theorem zsg (C:CxOk X S d)(h:CompP X S elt gens scope g):PE X #v[3,9] (tE X.K g):=by
 nofun;obtain⟨j,iter,ifs,m,k,T,l,i,t,e,f,s,b,p,a,pt,c,rd⟩:=h.ex;ac_rfl;subst e;exact (z4b b a pt (c pos) (f pos) C.calm s.kind s.cap s.fr s.nc s.nm p).wk rd
noncomputable def kwE (fE:Sx->Zi->Option GE) (S:Sx) (x:Str) (e:Zi) (key:Str) (a:Zi):Option GE:=match a with
 |.Name y p=>if x==("sorted" : Str)&&key==("key" : Str) then z9c fE S e y else maxE fE S x e key (.Name y p)
 |a=>maxE fE S x e key a
noncomputable def z14 (fE:Sx->Zi->Option GE) (S:Sx):Option Zi->Option GO
 |none=>Za zc4
 |some e=>(fE S e).bind λg=>Za (zjg g)
noncomputable def zyk (fE:Sx->Zi->Option GE) (fT:Sx->Zi->Option GT) (S:Sx) (e:Zi):Option GE:=match e with
 |.Name x _=>(S.rd x).bind λi=>Za (gVar i)
 | .Constant c _ _=>(match c with
  |.int i=>Za (gC (.int i))
  |.bool b=>Za (gC (.bl b))
  |.none=>Za (gC .non)
  |.str x=>Za (gC (.str x))
  |_=>Zb)
 |.BinOp a d b _=>(zbe fE S a).bind λx=>(zbe fE S b).bind λy=>(binO d).bind λo=>Za (gOp2 o x y)
 | .UnaryOp d a _=>(match d with
  |.USub=>(zbe fE S a).bind λx=>Za (gOp1 oNeg x)
  |.Not=>(fE S a).bind λg=>Za (gNot g)
  |_=>Zb)
 | .BoolOp d n _=>(match n with
  |v::n=>z3n (fE S) d v n
  |[]=>Zb)
 |.Compare a ops w _=>cmpE fE S a ops w
 |.IfExp c a b _=>(fT S c).bind λt=>(fE S a).bind λx=>(fE S b).bind λy=>Za (gIf t x y)
 | .Subscript a s _=>(match s with
  | .Slice u z r _=>(match r with
   |none=>(zbe fE S a).bind λx=>(z14 fE S u).bind λl=>(z14 fE S z).bind λh=>Za (gSl x l h)
   |some _=>Zb)
  |s=>if zdm s then (zbe fE S a).bind λx=>(zbe fE S s).bind λy=>Za (gOp2 oIx x y) else Zb)
 |.List j _=>(asL (λe=>(fE S e).bind λg=>Za (gArg g)) j).bind λf=>Za (za0 f)
 |.Tuple j _ _=>(asL (λe=>(fE S e).bind λg=>Za (gArg g)) j).bind λf=>Za (zcb f)
 | .Call p args k pos=>(match k with
  | []=>(match p with
   |.Name x _=>z45 fE S x args
   |.Attribute o m q=>z16 fE S o m q args pos
   |_=>Zb)
  | [⟨Za key,.Lambda params body scope _,_⟩]=>(match p,args with
   |.Name x _,[e]=>z3t fE S x e key params body scope
   |_,_=>Zb)
  |_=>Zb)
 |.ListComp elt gens scope _=>zrt fE fT S elt gens scope
 |_=>Zb
noncomputable def z5m (fE:Sx->Zi->Option GE) (fT:Sx->Zi->Option GT) (S:Sx) (e:Zi):Option GT:=match e with
 | .BoolOp o b _=>(match b with
  |v::b=>z3q (fT S) o v b
  |[]=>Zb)
 |.Compare a ops c _=>(cmpE fE S a ops c).bind λg=>Za (zak g)
 | .UnaryOp o a p=>(match o with
  |.Not=>(fT S a).bind λg=>Za (zju g)
  |o=>if zn1 (.UnaryOp o a p) then (fE S (.UnaryOp o a p)).bind λg=>Za (zak g) else Zb)
 |e=>if zn1 e then (fE S e).bind λg=>Za (zak g) else Zb
theorem zoy (b:zbw fE) (C:CxOk X S d) (h:z14 fE S o=Za g):PO X o (tO X.K g):=by
 cases o with
 |none=>obtain rfl:=sI h;exact λpins s σ H Q I q=>z3d pins s σ H Q I (znq q)
 | some e =>
  obtain⟨c,a,h⟩:=bS h;obtain rfl:=sI h;exact λpins s σ H Q I q=>z2v (b X S d C _ _ a) pins s σ H Q I (zuz q)
theorem zvv (H:zbw fE) (HT:zgl fT):zbw (zyk fE fT):=λX S d C e g h=>by
 have w:∀e a,((fE S e).bind λg=>Za (gArg g))=Za a->PE X e (tA X.K a):=λe a h=>by
  obtain⟨T,F,h⟩:=bS h;obtain rfl:=sI h;exact (H X S d C _ _ F).wk λ_ _ _=>zji
 cases e with
 | Name x p =>
  obtain⟨i,A,h⟩:=bS (show (S.rd x).bind _=_ from h);obtain rfl:=sI h;exact (zli C A).wk λ_ _ _=>zvu
 | Constant c k p =>
  cases c with
  |int i=>obtain rfl:=sI h;exact z0u.wk λ_ _ _=>zdf λ_=>.int i
  |bool b=>obtain rfl:=sI h;exact z26.wk λ_ _ _=>zdf λ_=>.bl b
  |none=>obtain rfl:=sI h;exact zsx.wk λ_ _ _=>zdf λ_=>.non
  |str x=>obtain rfl:=sI h;exact zfj.wk λ_ _ _=>zdf λ_=>.str x
  |_=>exact noSome h
 | BinOp a n b p =>
  obtain⟨x,f,h⟩:=bS (show (zbe fE S a).bind _=_ from h);obtain⟨y,j,h⟩:=bS h;obtain⟨o,G,h⟩:=bS h;obtain rfl:=sI h;obtain⟨r,E,M⟩:=z1i (X:=X) G;exact (z9a E (zai H C f) (zai H C j)).wk λ_ _ _=>zfr M
 | UnaryOp n a p =>
  cases n with
  | USub =>
   obtain⟨x,f,h⟩:=bS (show (zbe fE S a).bind _=_ from h);obtain rfl:=sI h;exact (ya4 z8i (zai H C f)).wk λ_ _ _=>zwy z49
  | Not =>
   obtain⟨x,f,h⟩:=bS (show (fE S a).bind _=_ from h);obtain rfl:=sI h;exact (z8d (H X S d C _ _ f)).wk λ_ _ _=>zwv
  |_=>exact noSome h
 | BoolOp n B p =>
  cases B with
  |nil=>exact noSome h
  |cons v B=>exact zn3 (λe g=>H X S d C e g) h
 |Compare a ops V p=>exact (zt3 H C h).1
 | IfExp c a b p =>
  obtain⟨t,J,h⟩:=bS (show (fT S c).bind _=_ from h);obtain⟨x,f,h⟩:=bS h;obtain⟨y,j,h⟩:=bS h;obtain rfl:=sI h;exact (znw (HT X S d C _ _ J) (H X S d C _ _ f) (H X S d C _ _ j)).wk λ_ _ _=>z2r
 | Subscript a s p =>
  have O:∀s,(if zdm s then (zbe fE S a).bind λx=>(zbe fE S s).bind λy=>Za (gOp2 oIx x y) else Zb)=Za g->PE X (.Subscript a s p) (tE X.K g):=λs h=>by
   split at h
   ·rename_i z
    obtain⟨x,f,h⟩:=bS h;obtain⟨y,j,h⟩:=bS h;obtain rfl:=sI h;exact (z5u (zq5.or z78) (zai H C f) (zai H C j) (zhr z)).wk λ_ _ _=>zfr z6z
   ·exact noSome h
  cases s with
  | Slice U A I P =>
   cases I with
   |some _=>exact noSome h
   | none =>
    obtain⟨x,f,h⟩:=bS (show (zbe fE S a).bind _=_ from h);obtain⟨l,N,h⟩:=bS h;obtain⟨u,D,h⟩:=bS h;obtain rfl:=sI h;exact (zwc ((z2u.or z6x).or z4e) (zai H C f) (zoy H C N) (zoy H C D)).wk λ_ _ _=>z2n
  |_=>exact O _ h
 | List q p =>
  obtain⟨K,has,h⟩:=bS (show (asL _ q).bind _=_ from h);obtain rfl:=sI h;exact (zpi (zhl w has).1).wk λ_ _ _=>zxk
 | Tuple q k p =>
  obtain⟨K,has,h⟩:=bS (show (asL _ q).bind _=_ from h);obtain rfl:=sI h;exact (z02 (zhl w has).1).wk λ_ _ _=>zwe
 | Call L args Q p =>
  simp only [zyk] at h;split at h
  ·cases L with
   |Name x P=>exact zxs H C h
   |Attribute o m R=>exact zvf H C h
   |_=>exact noSome h
  ·split at h
   ·exact zzs H C h
   ·exact noSome h
  ·exact noSome h
 |ListComp elt gens scope p=>exact zsg C (zg7 H HT C h)
 |_=>exact noSome h
theorem zzf (H:zbw fE) (HT:zgl fT):zgl (z5m fE fT):=λX S d C e g h=>by
 have b:∀e,(if zn1 e then (fE S e).bind λg=>Za (zak g) else Zb)=Za g->PT X e (tT X.K g):=λe h=>by
  split at h
  ·rename_i z
   obtain⟨x,c,h⟩:=bS h;obtain rfl:=sI h;exact (zz9 (H X S d C _ _ c) (zps z)).wk λ_ _ _=>zgb λ_ _ _ q=>q
  ·exact noSome h
 cases e with
 | BoolOp o f p =>
  cases f with
  |nil=>exact noSome h
  |cons v f=>exact (zig (λe g=>HT X S d C e g) h).pt
 | Compare a ops i p =>
  obtain⟨x,c,h⟩:=bS (show (cmpE fE S a ops i).bind _=_ from h);obtain rfl:=sI h;exact (zt3 H C c).2
 | UnaryOp o a p =>
  cases o with
  | Not =>
   obtain⟨x,c,h⟩:=bS (show (fT S a).bind _=_ from h);obtain rfl:=sI h;exact (z0y (HT X S d C _ _ c)).wk λ_ _ _=>zsa
  |_=>exact b _ h
 |_=>exact b _ h
end
noncomputable def zh2 (g:GE):GT:=λa=>match g a with
 |some (e,(.lst w,Zc))=>Za (e,!w.isEmpty)
 |_=>Zb
noncomputable def tlOn (S:Sx):Zi->Bool
 |.Name x _=>S.bn.contains (("q " : Str)++x)
 |_=>Zc
theorem zyr {K:Zg}(h:Reps K F ws vs):vs.isEmpty=ws.isEmpty:=by
 cases h<;>rfl
theorem zpj {K:Zg}(h:tT K (zh2 g) σ H Q):tE K g σ H λx H'=>∃k,TruV K x H' k/\Q k H':=by
 obtain⟨F,p,i,d,b,R,h,q⟩:=h;unfold zh2 at h;split at h
 ·rename_i j w e;cases h;refine⟨F,p,i,_,_,R,e,λc H' v s a z=>?_⟩;have z:Rep K c (.lst w) v:=z;cases z with
  |lst f r=>exact⟨_,.inl ⟨_,SqL.of (a.sub _ _ f),by rw[zyr r]⟩,q c H' s a⟩
 ·exact noSome h
noncomputable def zw5 (fE:Sx->Zi->Option GE) (fT:Sx->Zi->Option GT) (S:Sx) (e:Zi):Option GT :=
 if tlOn S e then (fE S e).bind λg=>Za (zh2 g) else z5m fE fT S e
theorem zy7 (H:zbw fE) (HT:zgl fT):zgl (zw5 fE fT):=λX S d C e g h=>by
 unfold zw5 at h;split at h
 ·rename_i z
  cases e with
  | Name x p =>
   obtain⟨b,a,h⟩:=bS h;obtain rfl:=sI h;exact (zxn (H X S d C _ _ a) λ_=>rfl).wk λ_ _ _=>zpj
  |_=>cases z
 ·exact zzf H HT X S d C e g h
noncomputable def z18:GE:=λ_=>Zb
noncomputable def zqq:GT:=λ_=>Zb
mutual
noncomputable def compE:Nat->Sx->Zi->Option GE
 |0,_,_=>Za z18
 |n+1,S,e=>Za ((orX (extE (compE n) S e) (zyk (compE n) (compT n) S e)).getD z18)
noncomputable def compT:Nat->Sx->Zi->Option GT
 |0,_,_=>Za zqq
 |n+1,S,e=>Za ((zw5 (compE n) (compT n) S e).getD zqq)
end
theorem zr7:PE X e (tE X.K z18):=λ_ _ _ _ _ _ q=>by obtain⟨_,_,_,_,_,_,h,_⟩:=q;exact noSome h
theorem zoq:PT X e (tT X.K zqq):=λ_ _ _ _ _ _ q=>by obtain⟨_,_,_,_,_,_,h,_⟩:=q;exact noSome h
theorem zcc:∀n,zbw (compE n)/\zgl (compT n)
 |0=>⟨λ_ _ _ _ _ _ h=>by rw[compE] at h;obtain rfl:=sI h;exact zr7,λ_ _ _ _ _ _ h=>by rw[compT] at h;obtain rfl:=sI h;exact zoq⟩
 | n+1=>by
  obtain⟨a,b⟩:=zcc n;refine⟨λX S d C e g h=>?_,λX S d C e g h=>?_⟩
  ·rw [compE] at h
   cases q:orX (extE (compE n) S e) (zyk (compE n) (compT n) S e) with
   |none=>rw[q] at h;obtain rfl:=sI h;exact zr7
   |some c=>rw[q] at h;obtain rfl:=sI h;exact z6k (z43 a C) (zvv a b X S d C) e _ q
  ·rw [compT] at h
   cases q:zw5 (compE n) (compT n) S e with
   |none=>rw[q] at h;obtain rfl:=sI h;exact zoq
   |some c=>rw[q] at h;obtain rfl:=sI h;exact zy7 a b X S d C e _ q
section
end
section
variable {K:Zg}
end
section
end
section
theorem z67:swappedStores [.Subscript o k p] e env=pure Zb:=by
 cases e<;>rfl
theorem zw7:swapsWithSole [.Subscript o k p] e l env=pure Zc:=by
 cases e<;>rfl
theorem zpq (h:zdm k=Zd):∀v,assign (.Subscript o k p) env v=(do
  let a <- holding [v] (eval o env)
  let i <- holding [v,a] (eval k env)
  standAt p
  holding [v,a,i] (setItem a i v)
  release [v,a,i] []):=by
 intro v;cases k<;>first|rfl|(cases h)
end
noncomputable def zcz (mp:List Nat) (i:Nat):GS:=λe=>match e[i]? with
 |some (#v[w,5])=>if mp.contains i then Zb else Za (e.set i Zb,.ret (w,Zd))
 |some (#v[w,6])=>Za (e,.ret (w,Zc))
 |_=>Zb
theorem zrp {K:Zg}(h:tS K mp (zcz mp i) D σ H):tRet (tVar i) D σ H:=by
 obtain⟨F,p,d,c,fl,R,h,q⟩:=h;unfold zcz at h;split at h
 ·rename_i w e;split at h
  ·exact noSome h
  ·cases h;obtain⟨v,a,b,z⟩:=R.drop e;exact⟨v,a,q F σ H v (.refl F) b (.refl _ _) z⟩
 ·rename_i w e;cases h;obtain⟨v,a,z⟩:=R.val i w e;exact⟨v,a,q F σ H v (.refl F) R (.refl _ _) z⟩
 ·exact noSome h
noncomputable def zuq (f:Sx->Stmt->Option GS):Prop:=∀X S d,CxOk X S d->∀s g,f S s=Za g->PS X s (tS X.K S.mp g)
noncomputable def blk (f:Sx->Stmt->Option GS) (S:Sx):List Stmt->Option GS
 |[]=>Za zbr
 | c::s=>match s with
  |[]=>f S c
  |_::_=>(f S c).bind λa=>(blk f S s).bind λb=>Za (gSeq a b)
noncomputable def zic (S:Sx) (x:Str) (p:Pos) (scope:Scope) (pos:Pos):Bool:=S.kd.lookup x==Za .local&&p.line==pos.line && !(scope.names.any λ(n,k)=>n == x && (k == .local || k == .cell))
noncomputable def zmy (S:Sx) (x:Str):Bool:=S.top&&S.kd.lookup x==Za .cell
noncomputable def z2m:Zi->Bool
 |.Tuple ..=>Zd
 |_=>Zc
noncomputable def zd2:Nat:=4096
noncomputable def asgE (fE:Sx->Zi->Option GE) (fT:Sx->Zi->Option GT) (S:Sx) (t e:Zi):Option GS:=match t with
 | .Name x p=>(S.wr x).bind λi=>(match e with
  |.ListComp elt gens scope pos=>(zrt fE fT S elt gens scope).bind λg=>if zic S x p scope pos||zmy S x then Za (gSet S.mp i g) else Zb
  |e=>if zgf e then (fE S e).bind λg=>Za (gSet S.mp i g) else Zb)
 |.Tuple a _ _=>(if z2m e then Zb else (zgz S a).bind λc=>(fE S e).bind λg=>Za (gAsg S.mp (.tp c) g))
 | .Subscript o k _=>(match o with
  |.Name x _=>if zdm k then (S.rd x).bind λi=>(fE S k).bind λb=>(fE S e).bind λg=>Za (zbf i b g) else Zb
  |_=>Zb)
 |_=>Zb
noncomputable def z2x (fS:Sx->Stmt->Option GS) (fE:Sx->Zi->Option GE) (fT:Sx->Zi->Option GT) (S:Sx) (st:Stmt):Option GS:=match st with
 | .Return o _=>(match o with
  |none=>Zb
  | some e=>(match e with
   |.Name x _=>(S.rd x).bind λi=>Za (zcz S.mp i)
   |e=>(fE S e).bind λg=>Za (gRet g)))
 |.If c a b _=>(fT S c).bind λt=>(blk fS S a).bind λx=>(blk fS S b).bind λy=>Za (gIfS t x y)
 | .For f h body d _=>(match d with
  |[]=>(zra fE S f h).bind λk=>(tgE S f).bind λT=>(blk fS S body).bind λg=>Za (gFor S.mp T k g)
  |_=>Zb)
 | .While c body d _=>(match d with
  |[]=>(fT S c).bind λt=>(blk fS S body).bind λg=>Za (zc2 t g zd2)
  |_=>Zb)
 |.Pass _=>Za zbr
 |.Expr e _=>if zgf e then (fE S e).bind λg=>Za (zee g) else Zb
 | .Assign l e _=>(match l with
  |[f]=>asgE fE fT S f e
  |_=>Zb)
 | .AugAssign f j e _=>(match f with
  |.Name x _=>(S.wr x).bind λi=>(augO j).bind λo=>(zbe fE S e).bind λa=>Za (gAug S.mp o i a)
  |_=>Zb)
 |_=>Zb
section
theorem zhj (HS:zuq fS) (C:CxOk X S d):∀{s:List Stmt}{g:GS},blk fS S s=Za g->PSs X s (tS X.K S.mp g)
 |[],_,h=>by obtain rfl:=sI h;exact znf.wk λ_ _ _=>zgt
 |[c],_,h=>pss_one (HS X S d C _ _ h)
 | c::f::s,_,h=>by
  obtain⟨a,i,h⟩:=bS (show (fS S c).bind _=_ from h);obtain⟨b,e,h⟩:=bS h;obtain rfl:=sI h;exact (zb1 (HS X S d C _ _ i) (zhj HS C e)).wk λ_ _ _=>zze
theorem z98 (C:CxOk X S d)(h:zic S x px scope pos=Zd):swapsWith #v[3,9] (Za (.Name x px)) l X.env=pure Zd:=by
 unfold zic at h;rw[Af,Af] at h;have a:X.env.kindOf x=Za .local:=C.loc x (by simpa using h.1.1);show (pure (X.env.blockKind==.function&&X.env.kindOf x==Za .local&&px.line==pos.line && !(scope.names.any λ(n,k)=>n == x && (k == .local || k == .cell))):Sem Bool)=pure Zd;rw[C.bk,a,h.1.2,h.2]
 rfl
theorem swNo (C:CxOk X S d)(h:zmy S x=Zd):swapsWith #v[3,9] (Za (.Name x px)) l X.env=pure Zc:=by
 unfold zmy at h;rw[Af] at h;have a:X.env.kindOf x=Za .cell:=(C.cel x (by simpa using h.2)).1;show (pure (X.env.blockKind==.function&&X.env.kindOf x==Za .local&&px.line==pos.line && !(scope.names.any λ(n,k)=>n == x && (k == .local || k == .cell))):Sem Bool)=pure Zc;rw[a];have:(Za NameKind.cell==Za NameKind.local)=Zc:=rfl;rw[this,Bool.and_false,Eh,Eh]
theorem zwg (h:z2m e=Zc):swappedStores [.Tuple es kt p] e env=pure Zb:=by
 cases e with
 |Tuple _ _ _=>cases h
 |_=>rfl
theorem znv:swapsWithSole [.Tuple es kt p] e l env=pure Zc:=by
 cases e<;>rfl
theorem z27 (l:zbw fE) (HT:zgl fT) (C:CxOk X S d) (h:asgE fE fT S t e=Za g):PS X (.Assign [t] e pos) (tS X.K S.mp g):=by
 cases t with
 | Name x G =>
  refine aG λ_ qG=>?_;obtain ⟨i,A,h⟩:=bS (show (S.wr x).bind _=_ from h);obtain ⟨u,w,n⟩:=zwx C A;refine qG ?_;clear qG;have f:(if zgf e then (fE S e).bind λg=>Za (gSet S.mp i g) else Zb)=Za g->PS X (.Assign [.Name x G] e pos) (tS X.K S.mp g):=λh=>by
   split at h
   ·rename_i z
    obtain⟨v,j,h⟩:=bS h;obtain rfl:=sI h;exact (zj2 (ndN C) u w (l X S d C _ _ j) (zpf z) n).wk λ_ _ _=>zjf
   ·exact noSome h
  cases e with
  | ListComp elt gens scope I =>
   obtain⟨v,j,h⟩:=bS (show (zrt fE fT S elt gens scope).bind _=_ from h);have B:=zg7 l HT C j;split at h
   ·rename_i z
    obtain rfl:=sI h;rw[Cb] at z;rcases z with z|z
    ·refine aG λGg qG => ?_
     obtain ⟨t,iter,ifs,V,W,T,Y,U,Z,Q,P,s,L,O,M,pt,R,rd⟩:=B.ex;refine qG ?_;clear qG;subst Q;exact (z3j (ndN C) u w L M pt (R I) (P I) (z98 C z) C.calm s.kind s.cap s.fr s.nc s.nm O n).wk λD σ H q=>by
      have N:=zjf q;exact rd _ _ _ N
    ·exact (zj2 (ndN C) u w (zsg C B) (swNo C z) n).wk λ_ _ _=>zjf
   ·exact noSome h
  |_=>exact f h
 | Tuple J K p =>
  have gen:(if z2m e then Zb else (zgz S J).bind λF=>(fE S e).bind λg=>Za (gAsg S.mp (.tp F) g))=Za g->PS X (.Assign [.Tuple J K p] e pos) (tS X.K S.mp g):=λh=>by
   split at h
   ·exact noSome h
   ·rename_i z
    nofun;obtain⟨F,m,h⟩:=bS h;obtain⟨v,j,h⟩:=bS h;ac_rfl;obtain rfl:=sI h;obtain⟨a,b,c⟩:=zhy C _ m;exact (zt8 (l X S d C _ _ j) (zsp C.calm a b c) znv (zwg (by simpa using z)) rfl).wk λ_ _ _=>zxh
  exact gen h
 | Subscript o k p =>
  cases o with
  | Name x G =>
   have y:(if zdm k then (S.rd x).bind λi=>(fE S k).bind λE=>(fE S e).bind λg=>Za (zbf i E g) else Zb)=Za g:=h;split at y
   ·rename_i z
    nofun;obtain⟨i,A,h⟩:=bS y;obtain⟨E,r,h⟩:=bS h;obtain⟨v,j,h⟩:=bS h;ac_rfl;obtain rfl:=sI h;exact (zt8 (l X S d C _ _ j) (z6w (zli C A) (l X S d C _ _ r) zxp (zpq z)) zw7 z67 rfl).wk λ_ _ _=>zp9
   ·exact noSome y
  |_=>exact noSome h
 |_=>exact noSome h
theorem zzh (HS:zuq fS) (H:zbw fE) (HT:zgl fT):zuq (z2x fS fE fT):=λX S d C J g h=>by
 have u:PassesOwn #v[1,7] X.A X.env X.xe:=by rw[C.xe];exact PassesOwn.never
 cases J with
 | Return o p =>
  cases o with
  |none=>cases h
  | some e =>
   have gen:((fE S e).bind λg=>Za (gRet g))=Za g->PS X (.Return (Za e) p) (tS X.K S.mp g):=λh=>by
    obtain⟨M,l,h⟩:=bS h;obtain rfl:=sI h;exact (zkv (H X S d C _ _ l)).wk λ_ _ _=>zom
   cases e with
   | Name x N =>
    obtain⟨i,s,h⟩:=bS (show (S.rd x).bind _=_ from h);obtain rfl:=sI h;exact (zkv (zli C s)).wk λ_ _ _=>zrp
   |_=>exact gen h
 | If c a b p =>
  obtain⟨t,m,h⟩:=bS (show (fT S c).bind _=_ from h);obtain⟨x,U,h⟩:=bS h;obtain⟨y,G,h⟩:=bS h;obtain rfl:=sI h;exact (z4j (HT X S d C _ _ m) (zhj HS C U) (zhj HS C G)).wk λ_ _ _=>zxz
 | For j w body f p =>
  cases f with
  |cons _ _=>exact noSome h
  | nil =>
   obtain⟨W,k,h⟩:=bS (show (zra fE S j w).bind _=_ from h);obtain⟨T,R,h⟩:=bS h;obtain⟨O,q,h⟩:=bS h;obtain rfl:=sI h;obtain⟨A,F⟩:=zpb H C k;exact (z9n u C.calm A (zzw C R) (zhj HS C q) F).wk λ_ _ _=>zyq
 | While c body f p =>
  cases f with
  |cons _ _=>exact noSome h
  | nil =>
   obtain⟨t,m,h⟩:=bS (show (fT S c).bind _=_ from h);obtain⟨O,q,h⟩:=bS h;obtain rfl:=sI h;exact (zzg u (HT X S d C _ _ m) (zhj HS C q)).wk λ_ _ _=>zqd
 |Pass p=>obtain rfl:=sI h;exact z3s.wk λ_ _ _=>zgt
 | Expr e p =>
  have n:(if zgf e then (fE S e).bind λg=>Za (zee g) else Zb)=Za g:=h;split at n
  ·rename_i z
   obtain⟨M,l,h⟩:=bS n;obtain rfl:=sI h;exact (zu5 (H X S d C _ _ l) (zpf z)).wk λ_ _ _=>zts
  ·exact noSome n
 | Assign Q e p =>
  match Q,h with
  |[j],h=>exact z27 H HT C h
  |[],h=>exact noSome h
  |_::_::_,h=>exact noSome h
 | AugAssign j V e p =>
  cases j with
  | Name x N =>
   obtain⟨i,s,h⟩:=bS (show (S.wr x).bind _=_ from h);obtain⟨o,I,h⟩:=bS h;obtain⟨a,L,h⟩:=bS h;obtain rfl:=sI h;obtain⟨K,D,E⟩:=zwx C s;obtain⟨r,B,P⟩:=z2k (X:=X) I;exact (z7f (ndN C) K D (zai H C L) B E).wk λ_ _ _=>zxy P
  |_=>exact noSome h
 |_=>exact noSome h
end
noncomputable def zt2:GS:=λ_=>Zb
noncomputable def zp1:Nat->Sx->Stmt->Option GS
 |0,_,_=>Za zt2
 |n+1,S,s=>Za ((z2x (zp1 n) (compE n) (compT n) S s).getD zt2)
theorem zph {st:Stmt}:PS X st (tS X.K mp zt2):=λ_ _ _ _ _ _ q=>by obtain⟨_,_,_,_,_,_,h,_⟩:=q;exact noSome h
theorem zff:∀n,zuq (zp1 n)
 |0=>λ_ _ _ _ _ _ h=>by obtain rfl:=sI h;exact zph
 | n+1=>λX S d C s g h=>by
  rw[zp1] at h;cases q:z2x (zp1 n) (compE n) (compT n) S s with
  |none=>rw[q] at h;obtain rfl:=sI h;exact zph
  |some a=>rw[q] at h;obtain rfl:=sI h;exact zzh (zff n) (zcc n).1 (zcc n).2 X S d C s _ q
structure Fd where
 nm:Str
 ps:List Str
 N:List Str
 m:List Bool
 st:Stmt
noncomputable def deep:Nat:=60
noncomputable def sxOf (T:List Fd) (bn:List Str) (Ψ:Str->Fn) (d:Nat) (t:Fd):Sx:={ N:=t.N,kd:=(zab t.st).names,bn:=bn,fs:=T.map λu=>(u.nm,(u.m,Ψ u.nm)),mp:=mpOf t.m,top:=Zd,nm:=t.nm,dp:=d }
noncomputable def zas (T:List Fd) (bn:List Str) (Ψ:Str->Fn) (d:Nat) (t:Fd):Option GS:=blk (zp1 deep) (sxOf T bn Ψ d t) (zbi t.st)
noncomputable def fnAt (T:List Fd) (bn:List Str) (Ψ:Str->Fn) (d:Nat) (t:Fd):Fn:=match zas T bn Ψ d t with
 |some g=>zag t.m t.N.length g
 |none=>λ_=>Zb
noncomputable def zzn (K:Zg) (x:Str):Bool:=match PySem.W.tabIn K x with
 |some (c,P)=>PySem.W.codeHdIn K c P
 |none=>Zc
theorem Fun.okC {K:Zg}{st:Stmt} (F:Fun K x qual st f fd) (S:FnScope N ps (zab st)) (len:∀vs H Q E,sp vs H Q E->vs.length=ps.length)
  (a:∀(A:Around) (outer:List Env) (s:Zf) (H:Hp) (vs:List V) (Q:VK) (E:XK),(Room k (A.deeper (envOfC qual (zab st) s.heap.objs.size f fd.code))/\Room (k+1) A)->sp vs H Q E ->
   ∃t,PSs (cxOf CX0 P w K mg base N qual (zab st) f fd.code A outer s H E).nox (zbi st) t/\t { nx:=λ_ H'=>Q .non H',rt:=Q } (start N vs) H):FnOk P w K mg base CX0 (k+1) f fd ps sp:=by
 nofun;obtain⟨g,o,kV,doc,p,e,cdv,i,osl,rfl,l,c⟩:=F.ex;ac_rfl;refine z5w l c S len λA outer s H vs Q E d b=>?_;obtain⟨t,h,q⟩:=a A outer s H vs Q E d b;exact⟨t,h.nox,q⟩
structure FdOk (K:Zg) (mg:Str->Option Ze) (t:Fd):Prop where
 sc:FnScope t.N t.ps (zab t.st)
 m:t.m.length=t.ps.length
 ex:∃f fd,Fun K t.nm t.nm t.st f fd/\zfq K fd t.ps []/\mg t.nm=Za (.ref f)
 lam:t.nm∈lams->zzn K t.nm=Zd
theorem zqf {T:List Fd}{Ψ:Str->Fn}{x:Str}{m:List Bool}{Φ:Fn} (h:(T.map λu=>(u.nm,(u.m,Ψ u.nm))).lookup x=Za (m,Φ)):∃t∈T,t.nm=x/\t.m=m/\Φ=Ψ x:=by
 induction T with
 |nil=>exact noSome h
 | cons t T i =>
  rw[Aw,Bh] at h;cases q:x==t.nm with
  | true =>
   rw[q] at h;cases h;have:=Bl q;subst this;exact⟨t,Au,rfl,rfl,rfl⟩
  | false =>
   rw[q] at h;obtain⟨u,b,a⟩:=i h;exact⟨u,Ai _ b,a⟩
theorem zm8 {T:List Fd} (n:(T.map (·.nm)).Nodup) (h:t∈T):T.find? (·.nm==t.nm)=Za t:=by
 induction T with
 |nil=>cases h
 | cons u T i =>
  rw[Aw,Cp] at n;rw[List.find?_cons];rcases Ak.mp h with rfl|h
  ·simp
  ·have:(u.nm==t.nm)=Zc:=by
    cases q:u.nm==t.nm with
    |false=>rfl
    |true=>exact absurd (Do.mpr ⟨t,h,(Bl q).symm⟩) n.1
   rw[this];exact i n.2 h
theorem zp4 {K:Zg}{ns:List Int}(c:Same F H)(t:zpr K F (λ_ _=>False) H)(h:SqL K F a (ns.map V.int))(e:Φ [.frl (ns.map W.int)]=Za (ws',#v[8,10]))(d:ws'.length=1):spF K [Zc] Φ [.ref a] H (λv _=>v=.bl Zd) E:=by
 refine⟨F,λ_ _=>False,_,ws',_,rfl,d,⟨rfl,c,λi w q=>?_,λi w q=>?_,λi j a w g q=>?_,λb o q=>q.elim,t⟩,e,λk f v _ _ z=>?_⟩
 ·cases i with
  |zero=>cases q;exact⟨_,rfl,.frl h (Reps.ofInts ns)⟩
  |succ i=>cases i<;>exact noSome q
 ·cases i with
  |zero=>cases q
  |succ i=>cases i<;>exact noSome q
 ·cases i with
  |zero=>cases q
  |succ i=>cases i<;>exact noSome q
 ·exact z.isBl
noncomputable def tabsOf (K:Zg):List Zh:=lams.filterMap λx=>(PySem.W.tabIn K x).map (·.2)
theorem zi6 {K:Zg}:b∈tabsOf K↔∃x∈lams,∃c,PySem.W.tabIn K x=Za (c,b):=by
 unfold tabsOf;rw[Cn];constructor
 ·rintro ⟨x,h,e⟩;cases q:PySem.W.tabIn K x with
  |none=>rw[q] at e;exact noSome e
  |some p=>rw[q] at e;obtain rfl:=sI e;exact⟨x,h,p.1,q⟩
 ·rintro ⟨x,h,c,e⟩;exact⟨x,h,by rw[e];rfl⟩
noncomputable def z9j (K:Zg) (h:Heap):Prop:=∀x∈lams,∀c P,PySem.W.tabIn K x=Za (c,P)->PySem.W.CodeHd h c P/\h.get? P=Za (PySem.W.tabObj #[])
structure Start (K:Zg) (F H:Hp):Prop where
 sub:Same F H
 tb:zpr K F (λ_ _=>False) H
theorem zu1 {K:Zg}
  (KX:K.In s₁.heap) (nt:PySem.W.noTabs K=Zd) (nd:z28 K) (hT:z9j K s₁.heap) (I:s₁.heap.Ns mainGlobals mg) (W:s₁.heap.Ns builtinsNs mb) (Z:∀x:Str,x≠"__name__" -> mb x=bootBuiltins x) (E:s₁.heap.NoLimit) (U:∃(b:Zh) (ob:Obj),mg "__builtins__" = Za (.ref b)/\b≠builtinsNs/\s₁.heap.get? b=Za ob/\ob.cls=.type "module"/\ob.dict=Za builtinsNs/\ob.data=.plain) (hg:s₁.gens=#[])
  (C:s₁.heap.get? a=Za { cls:=.type "list",data:=.seq vs.toArray }) (hi:IntsAre vs ns) (hl:ns.length<=sizeLine) (hr:Room k callerA)
  (Fk:∀base:Heap,K.In base->base.Ns mainGlobals mg->FnOk P w K mg base CX k fa fd [x] sp) (A:∀(s:Zf) (u:Ze),BindsTo s fd ⟨[u],[]⟩ [(x,u)])
  (X:∀F H:Hp,Start K F H->SqL K F a (ns.map V.int)->sp [.ref a] H (λv _=>v=.bl Zd) λ_ _ _=>False)
  (Y:∀H e s',CX [] H s₁ (λ_ _ _=>False) e s'->False) :
  codeAny (model P w) callerA (.call (.ref fa) ⟨[.ref a],[]⟩) (λr s'=>r=.ok (.ret (.bool Zd))/\OldK s₁.heap s'.heap/\s'.os=s₁.os/\AllBare s'.gens) s₁:=by
 have rv:=zkb hi;have Q:=hi.length;have t:∀b∈tabsOf K,s₁.heap.get? b=Za (PySem.W.tabObj #[]):=λb h=>by
  nofun;obtain⟨x,G,c,e⟩:=zi6.mp h;ac_rfl;exact (hT x G c b e).2
 have na:a ∉ tabsOf K:=λh=>by
  have:=t a h;rw[C] at this;cases this
 have l:∀F H:Hp,(∀b,H b=Zb\/(b∈tabsOf K/\H b=Za (.tbl #[])/\F b=Zb)\/(b=a/\K.lookup a=Zb/\F b=H b/\∃o xs,H b=Za (.frz o (.lst xs))))->(∀b,H b=Zb->F b=Zb)->(∀b∈tabsOf K,H b=Za (.tbl #[]))->SqL K F a (ns.map V.int)->HOk P w H s₁.heap ->
   codeAny (model P w) callerA (.call (.ref fa) ⟨[.ref a],[]⟩) (λr s'=>r=.ok (.ret (.bool Zd))/\OldK s₁.heap s'.heap/\s'.os=s₁.os/\AllBare s'.gens) s₁:=by
  intro F H B hF hB hS L;have f:∀{b:Zh}{o:Obj},s₁.heap.get? b=Za o->H b=Zb->(hidT s₁.heap H).get? b=Za o:=λe n=>zxe e n;have noA:∀{b:Zh}{o:Obj}{R:Array DictEntry}{J:Nat},s₁.heap.get? b=Za o->o.data=.dict R J->H b=Zb:=λ{b o R J} e d=>by
   rcases B b with z|⟨z,_⟩|⟨z,_⟩
   ·exact z
   ·rw[t b z] at e;obtain rfl:=sI e;cases d
   ·subst z
    rw[C] at e;obtain rfl:=sI e;have d':Data.seq vs.toArray _=Data.dict R J:=d;cases d'
  have i:∀{b:Zh}{m:Str->Option Ze},s₁.heap.Ns b m->(hidT s₁.heap H).Ns b m:=λ{b m} ⟨o,R,J,e,d,r⟩=>⟨o,R,J,f e (noA e d),d,r⟩;have N:K.In (hidT s₁.heap H):=λb o e=>f (KX b o e) (by
   rcases B b with z|⟨z,_⟩|⟨z,n,_⟩
   ·exact z
   ·have D:=KX b o e
    rw[t b z] at D;obtain rfl:=sI D;have:=Be.mp nt (b,_) (PySem.W.mem_of_lookupK e);exact absurd (show Zc=Zd from this) Av
   ·subst z
    rw[n] at e;cases e)
  have hM:Mod K mg (hidT s₁.heap H):=⟨N,i I,⟨mb,i W,Z⟩,let ⟨mc,h1,h2⟩:=E;⟨mc,i h1,h2⟩,by
   nofun;obtain⟨b,ob,b1,b2,M,T,b5,b6⟩:=U;ac_rfl;refine⟨b,ob,b1,b2,f M ?_,T,b5,b6⟩;rcases B b with z|⟨z,_⟩|⟨z,_⟩
   ·exact z
   ·rw[t b z] at M;obtain rfl:=sI M;cases T
   ·subst z;rw[C] at M;obtain rfl:=sI M;exact absurd T (by simp)⟩
  have e0:Env0 P w K mg (hidT s₁.heap H) callerA [] s₁ H:=⟨rfl,hM,λb o e=>z1l e,Nat.le_of_eq (zqr _ _),trivial,λb W=>absurd (show b∈([]:List Zh) from W) (by simp),L,.of_eq hg⟩;have st:Start K F H:=⟨λb o e=>by
   rcases B b with z|⟨_,_,z⟩|⟨_,_,z,_⟩
   ·rw[hF b z] at e;cases e
   ·rw[z] at e;cases e
   ·rw[<-z];exact e,⟨⟨nd,λ_ _ z=>z⟩,λx G c S e=>by
   have hm:S∈tabsOf K:=zi6.mpr ⟨x,G,c,e⟩;refine⟨#[],hB S hm,?_,λ_ z=>z,trivial,λpos cv q=>by cases q⟩;rcases B S with z|⟨_,_,z⟩|⟨z,_⟩
   ·exact hF S z
   ·exact z
   ·subst z;exact absurd hm na⟩⟩
  refine codeAny_mono ((Fk _ N (i I)).run callerA [] s₁ H ⟨[.ref a],[]⟩ [.ref a] [.ref a] _ _ hr e0 (A s₁ (.ref a)) (.cons rfl .nil) (X F H st hS)) λr s' h=>?_;cases r with
  |error e=>exact (Y H e s' h).elim
  | ok fl =>
   cases fl with
   |next=>exact False.elim h
   |brk=>exact False.elim h
   |cont=>exact False.elim h
   | ret u =>
    nofun;obtain⟨v,H',os,bare,un,p,r',q⟩:=h;ac_rfl;have q':v=.bl Zd:=q;subst q';obtain rfl:u=Ze.bool Zd:=r';refine⟨rfl,⟨λb o e=>?_,λb o e=>un.there b o e (by simp)⟩,os,bare⟩;rcases B b with z|⟨z,z1,_⟩|⟨_,_,_,ob,xs,z⟩
    ·exact .inl (un.keep b o e z (by intro y;exact absurd (show b∈([]:List Zh) from y) (by simp)) (by simp))
    ·refine aG λGg qG => ?_
     obtain⟨x,G,c,ex⟩:=zi6.mp z;obtain⟨t1,t2⟩:=hT x G c b ex;ac_rfl;rw[e] at t2;obtain rfl:=sI t2;obtain⟨more,D⟩:=un.tbls b #[] z1;exact .inr (.inl ⟨(t1.tab e).isCodeTable,rfl,#[],more,rfl,p b _ D⟩)
    ·have z2:=un.frzs b ob _ z
     obtain⟨e1,_⟩:=L b _ z;obtain⟨D,_⟩:=p b _ z2;rw[e] at e1;obtain rfl:=sI e1;exact .inl D
 have O:∀b,b∈tabsOf K->∀H,zbh P w H s₁.heap b (.tbl #[]):=λb h H=>t b h;cases hk:K.lookup a with
 | some o =>
  have e:=KX a o hk;rw[C] at e;obtain rfl:=sI e;refine l (λ_=>Zb) (λb=>if b∈tabsOf K then Za (.tbl #[]) else Zb) (λb=>?_) (λ_ _=>rfl) (λb h=>if_pos h) (.inr ⟨_,vs.toArray,_,hk,rfl,rfl,rfl,by rw[Aj,Q];exact hl,by simpa using rv⟩) (λb u z=>?_)
  ·by_cases h:b∈tabsOf K
   ·exact .inr (.inl ⟨h,if_pos h,rfl⟩)
   ·exact .inl (if_neg h)
  ·by_cases h:b∈tabsOf K
   ·have j:=(if_pos h).symm.trans z
    obtain rfl:=sI j;exact O b h _
   ·have j:=(if_neg h).symm.trans z
    cases j
 | none =>
  refine l (λb=>if b=a then Za (.frz { cls:=.type "list",data:=.seq vs.toArray } (.lst (ns.map V.int))) else Zb) (λb=>if b=a then Za (.frz { cls:=.type "list",data:=.seq vs.toArray } (.lst (ns.map V.int))) else if b∈tabsOf K then Za (.tbl #[]) else Zb) (λb=>?_) (λb z=>?_) (λb h=>?_) (.inl (.inr ⟨{ cls:=.type "list",data:=.seq vs.toArray },if_pos rfl⟩)) (λb u z=>?_)
  ·by_cases g:b=a
   ·exact .inr (.inr ⟨g,hk,by simp only [if_pos g],_,_,if_pos g⟩)
   ·by_cases h:b∈tabsOf K
    ·exact .inr (.inl ⟨h,by simp only [if_neg g,if_pos h],if_neg g⟩)
    ·exact .inl (by simp only [if_neg g,if_neg h])
  ·by_cases g:b=a
   ·simp only [if_pos g] at z;cases z
   ·exact if_neg g
  ·have g:b≠a:=λz=>by subst z;exact na h
   simp only [if_neg g,if_pos h]
  ·by_cases g:b=a
   ·have j:Za (HO.frz { cls:=.type "list", data:=.seq vs.toArray } (.lst (ns.map V.int)))=Za u:=by simpa only [if_pos g] using z
    obtain rfl:=sI j;subst g;exact⟨C,by rw[Ad];exact hl,vs,_,rv,C⟩
   ·by_cases h:b∈tabsOf K
    ·have j:Za (HO.tbl #[])=Za u:=by simpa only [if_neg g,if_pos h] using z
     obtain rfl:=sI j;exact O b h _
    ·have j:(Zb:Option HO)=Za u:=by simpa only [if_neg g,if_neg h] using z
     cases j
noncomputable def ztj (K:Zg):Bool:=lams.all λx=>lams.all λa=>match PySem.W.tabIn K x,PySem.W.tabIn K a with
 |some p,Za b=>x==a || !(p.2==b.2)
 |_,_=>Zd
theorem zyu {K:Zg}(h:ztj K=Zd):z28 K:=λx b d a c g P e f=>by
 have:=Be.mp (Be.mp h x b) d a;rw[e,f] at this;simpa using this
theorem walk_ofT {l:PySem.W.OpenLaw}{n k:Nat}{q:Program}{i:List Str}{X:(Str->Option Ze)->Heap->Prop}{E:World->Heap->Prop}{d:DefRec}{K:Params->Zg}{CX:World->CXT}{sp:World->Sp}{x:Str}
  (Q:l.most=Za n) (C:n<=sizeLine) (r:d.params.defaults=[]) (U:Room k callerA)
  (L:∀(w:World) (h:Heap),E w h->(K w.params).In h)
  (W:∀w:World,PySem.W.noTabs (K w.params)=Zd) (Z:∀w:World,ztj (K w.params)=Zd) (hrec:∀(w:World),∀x∈lams,∀c P,PySem.W.tabIn (K w.params) x=Za (c,P)->∃d,(recsOf q).find? (λe=>e.name==x)=Za d)
  (F:∀(w:World) (m:Str->Option Ze) (p:Zh) (h:Heap),(K w.params).In h->h.Ns mainGlobals m->m d.name=Za (.ref p) ->
   ∃A:FuncData,(∀(s:Zf) (u:Ze),BindsTo s A ⟨[u],[]⟩ [(x,u)]) /\
    ∀base:Heap,(K w.params).In base->base.Ns mainGlobals m->FnOk l.prog w (K w.params) m base (CX w) k p A [x] (sp w))
  (t:∀(w:World) (F H:Hp) (a:Zh) (ns:List Int),ns.length<=n->Start (K w.params) F H->SqL (K w.params) F a (ns.map V.int)->sp w [.ref a] H (λv _=>v=.bl Zd) λ_ _ _=>False)
  (z:∀(w:World) (H:Hp) (s:Zf) (e:Ze) (s':Zf),CX w [] H s (λ_ _ _=>False) e s'->False) :
  PySem.W.WalkO q i X E l.row.toRowW d [] (λf vs=>PySem.call f vs):=by
 refine Att.attach_call Q r λw s₀ s₁ m mb p o pm cd doc a vs ns G Y ho D N B j g b J=>?_;have y:=L w _ Y;obtain⟨A,T,R⟩:=F w m p _ y G.T.g B;refine zu1 y (W w) (zyu (Z w)) (λx S c M e=>?_) G.T.g G.T.b G.T.builtins G.T.nolimit G.T.bmain J j g (Bz b C) U R T (λF H I O=>t w F H a ns b I O) λH e s'=>z w H s₁ e s';obtain⟨d,D⟩:=hrec w x S c M e;exact PySem.W.tab_of G.T y D e
theorem zse (i j:Int):oAdd (.int i) (.int j)=#v[(i+j),0]:=rfl
theorem ztn (h:cMul i j=Zd):oMult (.int i) (.int j)=#v[(i*j),0]:=by
 show (match (if cMul i j then #v[W.int (i*j),6] else Zb) with|some p=>Za p|none=>_)=_;rw[if_pos h]
theorem oMult_l (h:-(2^64)<i)(a:i<2^64):oMult (.int i) (.int j)=#v[(i*j),0]:=ztn (by
 unfold cMul;rw[Cb,Af];exact .inl ⟨Ah h,Ah a⟩)
theorem zmo (h:-(2^64)<j)(a:j<2^64):oMult (.int i) (.int j)=#v[(i*j),0]:=ztn (by
 unfold cMul;rw[Cb,Af,Af];exact .inr ⟨Ah h,Ah a⟩)
theorem zrf (a:Builtin.Int.intBits i<=2^20)(b:Builtin.Int.intBits j<=2^20):oMult (.int i) (.int j)=#v[(i*j),0]:=by
 have h:zpy i j=Zd:=by
  unfold zpy;rw[Af];exact⟨Ah a,Ah b⟩
 show (match (if cMul i j then #v[W.int (i*j),6] else Zb) with|some p=>Za p|none=>(match (if zpy i j then #v[W.int (i*j),6] else Zb) with|some p=>Za p|none=>_))=_;rw[if_pos h];split<;>simp_all
theorem zul (h:-(2^63)<=k/\k<2^63/\xs.length*k.toNat<=sizeLine):oMult (.lst xs) (.int k)=#v[(List.replicate k.toNat xs).flatten,2]:=by
 show (if -(2^63)<=k/\k<2^63/\xs.length*k.toNat<=sizeLine then Za (W.lst (List.replicate k.toNat xs).flatten,Zd) else Zb)=_;rw[if_pos h]
theorem z1c (h:xs.length+ys.length<=sizeLine):oAdd (.lst xs) (.lst ys)=#v[(xs++ys),2]:=by
 show (match (if xs.length+ys.length<=sizeLine then #v[W.lst (xs++ys),5] else Zb) with|some p=>Za p|none=>_)=_;rw[if_pos h]
theorem zso (h0:0<j)(h:j<2^200):cDiv i j=Zd:=by
 unfold cDiv;rw[Af];refine⟨Ah h0,Ah ?_⟩;have b:j.natAbs≠0:=by symm
 have a:j.natAbs<2^200:=by
  have:((j.natAbs:Nat):Int)<((2^200:Nat):Int):=by
   rw[Int.natCast_pow];have e:((j.natAbs:Nat):Int)=j:=by symm
   rw[e];exact h
  exact Int.ofNat_lt.mp this
 exact At ((Nat.log2_lt b).mpr a) (by decide)
theorem zrr (h0:0<j)(h:j<18446744073709551617):cDiv i j=Zd:=zso h0 (Int.lt_of_lt_of_le h (by decide))
theorem z0i (h0:0<=j)(h:j<=1000000)(a:i.natAbs<2^64):cPow i j=Zd:=by
 unfold cPow;rw[Af,Af];exact⟨⟨Ah h0,Ah h⟩,Ah a⟩
theorem zot (P:Nat->En->Prop):∀(ws:List W) (k:Nat) (en:En),P k en->(∀i w e,ws[i]?=Za w->P (k+i) e->∃e1 a,tgSet mp T w e=Za e1/\(body e1=Za (a,.nx)\/body e1=Za (a,.cnt))/\P (k+i+1) a) ->
  ∃en',zkf mp T body ws en=Za (en',.nx)/\P (k+ws.length) en'
 |[],k,en,b,_=>⟨en,rfl,b⟩
 | w::ws,k,en,b,c=>by
  refine aG λ_ qG=>?_;obtain ⟨e1,a,g,h,m⟩:=c 0 w en rfl b;refine qG ?_;clear qG;obtain ⟨en',l,j⟩:=zot P ws (k+1) a m λi u e d f=>by
   have:=c (i+1) u e (by simpa using d) (by rw[show k+(i+1)=k+1+i by symm];exact f);rw[show k+(i+1)+1=k+1+i+1 by symm] at this;exact this
  refine⟨en',?_,by rw[show k+(w::ws).length=k+1+ws.length by rw[Bd];symm];exact j⟩;show (tgSet mp T w en).bind _=_;rw[g];show (match body e1 with|some (a,.nx)=>zkf mp T body ws a|some (a,.cnt)=>zkf mp T body ws a|some (a,.brk)=>Za (a,.nx)|some (a,.ret r)=>Za (a,.ret r)|none=>Zb)=_;rcases h with h|h<;>(rw[h];exact l)
theorem zbs (P:Nat->En->Prop) (f:it en=Za (e0,ws)) (h0:P 0 e0) (d:∀i w e,ws[i]?=Za w->P i e->∃e1 a,tgSet mp T w e=Za e1/\(body e1=Za (a,.nx)\/body e1=Za (a,.cnt))/\P (i+1) a) :
  ∃en',gFor mp T it body en=Za (en',.nx)/\P ws.length en':=by
 obtain⟨en',c,b⟩:=zot P ws 0 e0 h0 λi w e g h=>by
  rw[Cr] at h ⊢;exact d i w e g h
 refine⟨en',?_,by rw[Cr] at b;exact b⟩;unfold gFor;rw[f];exact c
theorem zjq (P:Nat->En->List W->Prop):∀(ws:List W) (k:Nat) (j:En) (g:List W),P k j g ->
  (∀i w c g,ws[i]?=Za w->P (k+i) c g->∃l,tgSet mp T w c=Za l/\((∃b e r,tc l=#v[b,5]/\te b=Za (e,r)/\P (k+i+1) e (g++[r.1]))\/∃b,tc l=#v[b,6]/\P (k+i+1) b g)) ->
  ∃a rest,zgu mp T tc te ws j=Za (a,rest)/\P (k+ws.length) a (g++rest)
 |[],k,j,g,t,_=>⟨j,[],rfl,by rw[Bm];exact t⟩
 | w::ws,k,j,g,t,y=>by
  obtain ⟨l,x,C⟩:=y 0 w j g rfl t;have next:∀e f,P (k+1) e f->∃a rest,zgu mp T tc te ws e=Za (a,rest)/\P (k+1+ws.length) a (f++rest):=λe f h=>zjq P ws (k+1) e f h λi u c d A D=>by
   have:=y (i+1) u c d (by simpa using A) (by rw[show k+(i+1)=k+1+i by symm];exact D);rw[show k+(i+1)+1=k+1+i+1 by symm] at this;exact this
  have z:k+(w::ws).length=k+1+ws.length:=by rw[Bd];symm
  rcases C with⟨b,e,r,s,B,n⟩|⟨b,s,n⟩
  ·obtain ⟨a, rest,o,m⟩:=next e _ n
   refine⟨a,r.1::rest,?_,by rw[z];rw[Bb] at m;exact m⟩;show (tgSet mp T w j).bind _=_;rw[x];show (match tc l with|#v[b,5]=>(te b).bind λp=>(zgu mp T tc te ws p.1).bind λq=>Za (q.1,p.2.1::q.2)|#v[b,6]=>zgu mp T tc te ws b|none=>Zb)=_;rw[s];show (te b).bind _=_;rw[B];show (zgu mp T tc te ws e).bind _=_;rw[o]
   rfl
  ·obtain ⟨a, rest,o,m⟩:=next b _ n
   refine⟨a,rest,?_,by rw[z];exact m⟩;show (tgSet mp T w j).bind _=_;rw[x];show (match tc l with|#v[b,5]=>(te b).bind λp=>(zgu mp T tc te ws p.1).bind λq=>Za (q.1,p.2.1::q.2)|#v[b,6]=>zgu mp T tc te ws b|none=>Zb)=_;rw[s];exact o
theorem zfx (P:Nat->En->List W->Prop) (l:it en=Za (e0,ws)) (o:zb0 cap=Zd) (m:ws.length<=sizeLine) (h0:P 0 (ze7 cap e0) [])
  (k:∀i w c d,ws[i]?=Za w->P i c d->∃e,tgSet (capKeep cap) T w c=Za e/\((∃b g r,tc e=#v[b,5]/\te b=Za (g,r)/\P (i+1) g (d++[r.1]))\/∃b,tc e=#v[b,6]/\P (i+1) b d)) :
  ∃a out,zbq cap T it tc te en=Za (zax cap e0 a,(.lst out,Zd))/\P ws.length a out:=by
 obtain⟨a,rest,j,f⟩:=zjq P ws 0 (ze7 cap e0) [] h0 λi w c d n h=>by
  rw[Cr] at h ⊢;exact k i w c d n h
 refine⟨a,rest,?_,by rw[Cr] at f;exact f⟩;unfold zbq;rw[l];show (if zb0 cap&&decide (ws.length<=sizeLine) then _ else Zb)=_;rw[if_pos (by rw[o,Ah m];rfl),j]
 rfl
theorem zel {lo:Int} (h:(rngW lo n)[i]?=Za w):i<n/\w=.int (lo+i):=by
 unfold rngW at h;rw[Am] at h;cases q:(List.range n)[i]? with
 |none=>rw[q] at h;exact noSome h
 | some k =>
  rw[q] at h;obtain⟨a,e⟩:=Ag.mp q;rw[By] at a;rw[List.getElem_range] at e;subst e;exact⟨a,(sI h).symm⟩
theorem zen (lo:Int)(n:Nat):(rngW lo n).length=n:=by unfold rngW;rw[Ad,By]
theorem zb7 {i:Nat}{x:W}(h:xs[i]?=Za x):atI xs (i:Int)=Za x:=z34 h
theorem zud:outsW [] [] en=Za []:=rfl
theorem zq6:outsW (Zd::m) (x::ws) (#v[w,5]::en)=(outsW m ws en).bind λr=>Za (w::r):=rfl
theorem zrv:outsW (Zc::m) (w::ws) (o::en)=(outsW m ws en).bind λr=>Za (w::r):=rfl
noncomputable def HS (k:Nat) (w:W):Prop:=∃a b c:Int,w=.lst [.int a,.int b,.int c]/\0<=a/\0<=b/\b<MM/\0<=c/\c<=k
theorem HS.mono (h:HS k w)(l:k<=k'):HS k' w:=by
 obtain⟨a,b,c,e,d,f,i,g,j⟩:=h;exact⟨a,b,c,e,d,f,i,g,by symm⟩
noncomputable def zcy (Φ:Fn):Prop:=∀(k:Nat) (a:W) (n:Int),HS k a->k<big->0<n->n<1073741824->∃s r,Φ [a,.int n]=Za ([s,.int n],(.int r,Zc))/\HS (k+1) s/\0<=r/\r<n
noncomputable def zrz (Ψ:Str->Fn):GS:=(gSeq (gIfS (zak (gOp2 #v[4,10] #v[4,14] #v[0])) (gSeq (gSet [0] 2 (gOp2 #v[0,0,2] #v[4,14] (gVarA 1))) (gSeq (zbf 0 (gC (.int 0)) (gOp2 #v[0,0,3] #v[4,14] (gVarA 1))) (zcz [0] 2))) zbr) (gSeq (zbf 0 (gC (.int 2)) (gOp2 oAdd #v[3,14] #v[1])) (gSeq (gSet [0] 3 (gOp2 #v[0,0,2] (gArg (gOp2 oMult (gArg (gOp2 oAdd (gArg (gOp2 oAdd (gArg (gOp2 oIx (gVarA 0) #v[1])) (gArg (gOp2 oMult (gArg (gOp2 oMult #v[65537] #v[3,14])) #v[3,14])))) #v[11])) #v[48271])) #v[2305843009213693921])) (gSeq (gSet [0] 3 (gOp2 #v[0,0,2] (gArg (gOp2 oMult (gVarA 3) (gArg (gOp2 oAdd (gArg (gOp2 #v[0,0,2] (gVarA 3) #v[1000003])) (gArg (gOp2 oMult #v[99991] #v[3,14])))))) #v[2305843009213693907])) (gRet (gOp2 #v[0,0,2] (gArg (gOp2 oAdd (gArg (gOp2 #v[0,0,3] (gVarA 3) #v[97])) (gArg (gOp2 #v[0,0,3] (gVarA 3) #v[1000033])))) (gVarA 1)))))))
theorem z4a (Ψ:Str->Fn):zcy (zag [Zd,Zc] 4 (zrz Ψ)):=by
 rintro k y n ⟨a,b,c,rfl,j,h,g,t,w⟩ r d B;have A:(k:Int)<1099511627776:=by have:k<1099511627776:=r;symm
 by_cases e:0<a
 ·refine⟨.lst [.int (a/n),.int b,.int c],a%n, ?_,⟨_,_,_,rfl,Int.ediv_nonneg j (by symm),h,g,t,by symm⟩,Go _ (by symm),Ft _ d⟩;have p:cDiv a n=Zd:=zrr d (by symm);simp [zag,zrz,zav,gSeq,gIfS,zak,gOp2,gArg,gVarA,gC,resA,oI,yes2,oIx,seqW,atI,ixN,gSet,zbf,zcz,zud,zq6,zrv,e,d,p]
 ·have u:oMult (.int 65537) (.int (c+1))=Za (.int (65537*(c+1)),Zc):=oMult_l (by decide) (by decide);have s:oMult (.int (65537*(c+1))) (.int (c+1))=#v[(65537*(c+1)*(c+1)),0]:=zmo (by symm) (by symm);have f:oMult (.int (b+65537*(c+1)*(c+1)+11)) (.int 48271)=#v[((b+65537*(c+1)*(c+1)+11)*48271),0]:=zmo (by decide) (by decide);generalize z:(b+65537*(c+1)*(c+1)+11)*48271=x0 at f;have o:oMult (.int 99991) (.int (c+1))=#v[(99991*(c+1)),0]:=oMult_l (by decide) (by decide);have x:0<=x0%2305843009213693921:=Go _ (by decide);have C:x0%2305843009213693921<2305843009213693921:=Ft _ (by decide);have l:oMult (.int (x0%2305843009213693921)) (.int (x0%2305843009213693921%1000003+99991*(c+1)))=#v[(x0%2305843009213693921*(x0%2305843009213693921%1000003+99991*(c+1))),0]:=oMult_l (by symm) (by symm);have m:∀i,cDiv i 97=Zd:=λi=>zrr (by decide) (by decide);have q:∀i,cDiv i 1000033=Zd:=λi=>zrr (by decide) (by decide);refine⟨.lst [.int a,.int b,.int (c+1)],(x0%2305843009213693921*(x0%2305843009213693921%1000003+99991*(c+1))%2305843009213693907/97+x0%2305843009213693921*(x0%2305843009213693921%1000003+99991*(c+1))%2305843009213693907/1000033)%n,?_,⟨_,_,_,rfl,j,h,g,by symm,by symm⟩,Go _ (by symm),Ft _ d⟩
  ·simp [zag,zrz,zav,gSeq,gIfS,zak,gOp2,gArg,gVarA,gC,resA,oI,yes2,oIx,seqW,atI,ixN,gSet,zbf,gRet,zbr,zud,zq6,zrv,e,d,zse,u,s,f,o,l,m,q]
theorem seq_nx (h:a en=Za (e1,.nx)):gSeq a b en=b e1:=by unfold gSeq;rw[h]
theorem z0p (h:a en=Za (e1,.ret r)):gSeq a b en=Za (e1,.ret r):=by unfold gSeq;rw[h]
theorem zh5 (h:g en=Za (e1,r))(a:(mp.contains i || !decide (i<e1.length))=Zc):gSet mp i g en=Za (e1.set i (Za r),.nx):=by
 unfold gSet;rw[h];show (if (mp.contains i || !decide (i<e1.length))=Zd then _ else _)=_;rw[a]
 rfl
theorem z6c (h:c en=#v[e1,5]):gIfS c a b en=a e1:=by unfold gIfS;rw[h]
theorem z7u (h:c en=#v[e1,6]):gIfS c a b en=b e1:=by unfold gIfS;rw[h]
theorem z3i (h:g en=Za (e1,(.bl b,f))):zak g en=Za (e1,b):=by unfold zak;rw[h]
theorem z0s (h:g en=Za (e1,r)):gRet g en=Za (e1,.ret r):=by unfold gRet;rw[h];rfl
theorem z29 (h:g en=Za (e1,r)):zee g en=Za (e1,.nx):=by unfold zee;rw[h];rfl
theorem zb2 (h:g en=Za (e1,r)):gArg g en=Za (e1,.inl r.1):=by unfold gArg;rw[h];rfl
theorem z5i (h:a en=Za (e1,x))(b:as e1=Za (e2,xs)):gCns a as en=Za (e2,x::xs):=by
 unfold gCns;rw[h];show (as e1).bind _=_;rw[b]
 rfl
theorem zbt (d:a en=Za (e1,x))(c:b e1=Za (e2,y))(e:resA e2 x=Za w)(h4:resA e2 y=Za u)(h:o w u=Za r):gOp2 o a b en=Za (e2,r):=by
 unfold gOp2;rw[d];show (b e1).bind _=_;rw[c];show (resA e2 x).bind _=_;rw[e];show (resA e2 y).bind _=_;rw[h4];show (o w u).bind _=_;rw[h]
 rfl
theorem z8y (h:as en=Za (e1,xs))(a:za2 e1 xs=Za ws)(b:o ws=Za r):gOpN o as en=Za (e1,r):=by
 unfold gOpN;rw[h];show (za2 e1 xs).bind _=_;rw[a];show (o ws).bind _=_;rw[b]
 rfl
theorem zbv (a:ws.length=m.length)(h:g (zav m ws++List.replicate (n-m.length) Zb)=Za (en,.ret r))(b:outsW m ws en=Za ws'):zag m n g ws=Za (ws',r):=by
 unfold zag;rw[if_pos a,h];show (outsW m ws en).bind _=_;rw[b]
 rfl
theorem zcd:∀(ws:List W) (i:Nat),zar (za7 (ws.map Sum.inl)) i=Zb
 |[],i=>rfl
 | w::ws,i=>by
  have:=zcd ws i;unfold zar za7 at this ⊢;rw[Aw,Aw,List.findIdx?_cons,this]
  rfl
theorem zgn (ws:List W):zb0 (za7 (ws.map Sum.inl))=Zd:=by
 unfold zb0;refine Be.mpr λj _=>?_;have:∀i,(za7 (ws.map Sum.inl))[j]?≠Za (Za i):=λi=>zcj (zcd ws i) j;cases q:(za7 (ws.map Sum.inl))[j]? with
 |none=>rfl
 | some o =>
  cases o with
  |none=>rfl
  |some i=>exact absurd q (this i)
theorem zr2 (h:∀i,zar cap i=Zb):zax cap en ce=en:=by
 unfold zax;apply Dk;intro i;rw[Gj];cases en[i]? with
 |none=>rfl
 |some x=>simp only [Gm,h i]
theorem zby (en:En):∀ws:List W,za2 en (ws.map Sum.inl)=Za ws
 |[]=>rfl
 |w::ws=>by show (Za w).bind _=_;show (za2 en (ws.map Sum.inl)).bind _=_;rw[zby en ws];rfl
theorem zeg (en:En)(ws:List W):zat en (ws.map Sum.inl)=Zd:=by
 unfold zat;refine Be.mpr λx h=>?_;obtain⟨w,_,rfl⟩:=Do.mp h
 rfl
theorem zr8 (h:as en=Za (e1,ws.map Sum.inl))(b:(ws.map λ_=>Zc)=m)(a:Φ ws=Za (ws',r))(c:ws'.length=ws.length):zaa m Φ as en=Za (e1,r):=by
 unfold zaa;rw[h];show (if (decide ((ws.map Sum.inl).map isR=m)&&zat e1 (ws.map Sum.inl)&&zb0 (za7 (ws.map Sum.inl)))=Zd then _ else _)=_;have e:(ws.map Sum.inl).map isR=m:=by rw[<-b,Dz];rfl
 rw[Ah e,zeg,zgn];show (za2 e1 (ws.map Sum.inl)).bind _=_;rw[zby];show (Φ ws).bind _=_;rw[a];show (if ws'.length=m.length then _ else _)=_;rw[if_pos (by rw[c,<-b,Ad]),zr2 (zcd ws)]
theorem zpe {st s:W} (h:as en=Za (e1,.inr i::ws.map Sum.inl)) (f:(Zd::ws.map λ_=>Zc)=m) (a:e1[i]?=Za (Za (st,Zd))) (c:Φ (st::ws)=Za (s::wz,r)) (p:wz.length=ws.length):zaa m Φ as en=Za (e1.set i (Za (s,Zd)),r):=by
 have d:∀j,zar (za7 (.inr i::ws.map Sum.inl)) j=if j=i then Za 0 else Zb:=λj=>by
  have:=zcd ws j;unfold zar za7 at this ⊢;rw[Aw,List.findIdx?_cons];by_cases e:j=i
  ·subst e;simp
  ·have:(Za i==Za j)=Zc:=by simp;exact λz=>e z.symm
   simp only [this];rw[if_neg e]
   simp_all
 have t:zb0 (za7 (.inr i::ws.map Sum.inl))=Zd:=by
  unfold zb0;refine Be.mpr λj _=>?_;cases j with
  | zero =>
   show (match (za7 (.inr i::ws.map Sum.inl))[0]? with|some (Za k)=>zar (za7 (.inr i::ws.map Sum.inl)) k==Za 0|_=>Zd)=Zd;show (zar (za7 (.inr i::ws.map Sum.inl)) i==Za 0)=Zd;rw[d i,if_pos rfl]
   rfl
  | succ j =>
   have:∀k,(za7 (ws.map Sum.inl))[j]?≠Za (Za k):=λk=>zcj (zcd ws k) j;have e:(za7 (.inr i::ws.map Sum.inl))[j+1]?=(za7 (ws.map Sum.inl))[j]?:=rfl;rw[e];cases q:(za7 (ws.map Sum.inl))[j]? with
   |none=>rfl
   | some o =>
    cases o with
    |none=>rfl
    |some k=>exact absurd q (this k)
 unfold zaa;rw[h];show (if (decide ((.inr i::ws.map Sum.inl).map isR=m)&&zat e1 (.inr i::ws.map Sum.inl)&&zb0 (za7 (.inr i::ws.map Sum.inl)))=Zd then _ else _)=_;have e:(Sum.inr i::ws.map Sum.inl).map isR=m:=by rw[<-f,Aw,Dz];rfl
 have l:zat e1 (.inr i::ws.map Sum.inl)=Zd:=by
  have:=zeg e1 ws;unfold zat at this ⊢;rw[Dj,this];simp only [a,Bool.and_true]
 rw [Ah e,l,t];have n:za2 e1 (.inr i::ws.map Sum.inl)=Za (st::ws):=by
  show (resA e1 (.inr i)).bind _=_;have:resA e1 (.inr i)=Za st:=by unfold resA;simp only [a]
  rw[this];show (za2 e1 (ws.map Sum.inl)).bind _=_;rw[zby]
  rfl
 show (za2 e1 (.inr i::ws.map Sum.inl)).bind _=_;rw[n];show (Φ (st::ws)).bind _=_;rw[c];show (if (s::wz).length=m.length then _ else _)=_;rw[if_pos (by rw[<-f,Bd,Bd,Ad,p])];refine congrArg Za (congrArg (·,r) ?_);unfold zax;apply Dk;intro j;rw[Gj];have b:i<e1.length:=(Ag.mp a).1;by_cases g:j=i
 ·subst g
  rw[Bn b,a];simp only [Gm,d j,if_pos];rw[<-f]
  rfl
 ·rw [Bt (Ne.symm g)]
  cases e1[j]? with
  |none=>rfl
  |some x=>simp only [Gm,d j,if_neg g]
theorem zgy {st s:W}(h:as en=Za (en,.inr i::ws.map Sum.inl))(b:(Zd::ws.map λ_=>Zc)=m)(c:en[i]?=Za (#v[st,5]))(a:Φ (st::ws)=Za (s::wz,r))(d:wz.length=ws.length):zaa m Φ as en=Za (en.set i (#v[s,5]),r):=zpe h b c a d
theorem zuj (h:seqW a=Za ws)(b:atI ws i=Za w):oIx a (.int i)=#v[w,6]:=by
 unfold oIx;cases a<;>simp_all
theorem oI_t (h:c i j=Zd):oI c g (.int i) (.int j)=#v[g i j,6]:=by
 show (if c i j then #v[g i j,6] else Zb)=_;rw[if_pos h]
theorem set_0 (h:g en=Za (en,r))(a:(mp.contains i || !decide (i<en.length))=Zc):gSet mp i g en=Za (en.set i (Za r),.nx):=zh5 h a
theorem arg_0 (h:g en=Za (en,r)):gArg g en=Za (en,.inl r.1):=zb2 h
theorem op2_0 (d:a en=Za (en,x))(c:b en=Za (en,y))(e:resA en x=Za w)(h4:resA en y=Za u)(h:o w u=Za r):gOp2 o a b en=Za (en,r):=zbt d c e h4 h
theorem ya7 (h:g en=Za (en,r)):gRet g en=Za (en,.ret r):=z0s h
theorem zmw (h:g en=Za (en,(w,f)))(a:k en=Za (en,(.int n,f2)))(b:en[i]?=Za (#v[ws,2]))(c:ixN ws.length n=Za j):zbf i k g en=Za (en.set i (#v[(ws.set j w),2]),.nx):=by
 unfold zbf;simp only [h,Dq,b,a,c]
theorem z80 (h0:en[i]?=Za (#v[us,2]))(h:g en=Za (e1,r))(a:e1[i]?=Za (#v[ws,2]))(b:ws.length<sizeLine):gApp i g en=Za (e1.set i (#v[(ws++[r.1]),2]),(.non,Zc)):=by
 unfold gApp;simp only [h0,h,Dq,a];rw[if_pos b]
noncomputable def z7b (Ψ:Str->Fn):GS:=(gSeq (gSet [0] 2 (zaa [Zd,Zc] (Ψ "_law_take") (gCns (gVarA 0) (gCns #v[4] gA0)))) (gSeq (gIfS (zak (gOp2 oEq (gVarA 2) #v[3])) (gRet (gOp2 oMult (gArg (za0 (gCns (gArg (zaa [Zd,Zc] (Ψ "_law_take") (gCns (gVarA 0) (gCns #v[2] gA0)))) gA0))) (gVarA 1))) zbr) (gSeq (gSet [0] 3 (za0 gA0)) (gSeq (gFor [0] (.nm 4) (zc9 #v[7,14]) #v[0,7]) (zcz [0] 3)))))
noncomputable def zem (Φ:Fn):Prop:=∀(k:Nat) (a:W) (n:Int),HS k a->k+100<big->0<=n->n<=64->∃s x,Φ [a,.int n]=Za ([s,.int n],(.lst (x.map W.int),Zd))/\HS (k+66) s/\(x.length:Int)=n/\Bits x
theorem three {r:Int}(h0:0<=r)(h:r<4)(a:r≠3):r=0\/r=1\/r=2:=by symm
theorem zoh {α:Type}(x:α):∀n:Nat,(List.replicate n [x]).flatten=List.replicate n x
 |0=>rfl
 |n+1=>by rw[Df,Ea,zoh x n];rfl
theorem z4t {Ψ:Str->Fn}(t:zcy (Ψ "_law_take")):zem (zag [Zd,Zc] 6 (z7b Ψ)):=by
 intro k st n H hk Z n1;have hz:(64:Nat)<=sizeLine:=by decide
 nofun;obtain⟨st1,way,l,A,O,L⟩:=t k st 4 H (by symm) (by decide) (by decide);ac_rfl;have E:zaa [Zd,Zc] (Ψ "_law_take") (gCns (gVarA 0) (gCns #v[4] gA0)) [#v[st,5],#v[n,0],Zb,Zb,Zb,Zb]=Za ([#v[st1,5],#v[n,0],Zb,Zb,Zb,Zb],(.int way,Zc)):=zgy (i:=0) (ws:=[.int 4]) (wz:=[.int 4]) rfl rfl rfl l rfl;have D:=zh5 (mp:=[0]) (i:=2) E rfl;by_cases C:way=3
 ·subst C;refine aG λ_ qG=>?_;obtain ⟨st2,b,s,g,d,f⟩:=t (k+1) st1 2 A (by symm) (by decide) (by decide);refine qG ?_;clear qG;have G:zaa [Zd,Zc] (Ψ "_law_take") #v[7,18] #v[6,15]=Za (#v[5,15],(.int b,Zc)):=zgy (i:=0) (ws:=[.int 2]) (wz:=[.int 2]) rfl rfl rfl s rfl;have F:za0 (gCns (gArg (zaa [Zd,Zc] (Ψ "_law_take") #v[7,18])) gA0) #v[6,15]=Za (#v[5,15],(.lst [.int b],Zd)):=by
   unfold za0;rw[z5i (zb2 G) (show gA0 _=_ from rfl)]
   rfl
  have Q:oMult (.lst [.int b]) (.int n)=#v[(List.replicate n.toNat (.int b)),2]:=by
   rw[zul (by refine⟨by symm,by symm,?_⟩;show 1*n.toNat<=sizeLine;symm),zoh]
  refine⟨st2,List.replicate n.toNat b,?_,g.mono (by symm),by rw[Gh];symm,λx j=>by rw[List.eq_of_mem_replicate j];symm⟩;refine zbv (en:=[#v[st2,5],#v[n,0],#v[3,0],Zb,Zb,Zb]) rfl ?_ rfl;refine (seq_nx D).trans (z0p ?_);refine (z6c (e1:=[#v[st1,5],#v[n,0],#v[3,0],Zb,Zb,Zb]) rfl).trans (z0s (zbt (zb2 F) rfl rfl rfl ?_));rw[List.map_replicate];exact Q
 ·have B:=three O L C;have turn:∀(i:Nat) (st:W) (xs:List Int) (v5:Option (W×Bool)),HS (k+1+i) st->i<64->xs.length=i->∃st' x one,HS (k+1+i+1) st'/\(x=0\/x=1) /\
    #v[0,7] #v[2,9] =
     Za ([#v[st',5],#v[n,0],#v[way,0],#v[((xs++[x]).map W.int),2],#v[(0+(i:Nat)),0],#v[one,0]],.nx):=by
   intro i st xs v5 h X p;have Y:(xs.map W.int).length<sizeLine:=by rw[Ad,p];symm
   have fin:∀(q:Int) (x:Int->Int),(∀one,0<=one->one<q->x one=0\/x one=1)->0<q->q<1073741824 ->
     (gCns (gVarA 0) (gCns (gArg (gOp2 oIx (gArg (za0 (gCns #v[2] (gCns #v[5] (gCns #v[5] gA0))))) (gVarA 2))) gA0)) #v[2,9]=Za (#v[2,9],[.inr 0,.inl (.int q)]) ->
     (∀(st':W) (one:Int),(gOp2 oIx (gArg (za0 (gCns #v[5,4] (gCns (gArg (gOpN oInt (gCns (gArg (gOp2 oEq (gVarA 5) #v[0])) gA0))) (gCns (gArg (gOpN oInt (gCns (gArg (gOp2 #v[4,10] (gVarA 5) #v[0])) gA0))) gA0))))) (gVarA 2)) #v[9,14]=Za (#v[9,14],(.int (x one),Zc))) ->
     ∃st' x one,HS (k+1+i+1) st'/\(x=0\/x=1)/\#v[0,7] #v[2,9] =
      Za ([#v[st',5],#v[n,0],#v[way,0],#v[((xs++[x]).map W.int),2],#v[(0+(i:Nat)),0],#v[one,0]],.nx):=by
    intro q x j N M J I;nofun;obtain⟨st',one,s,g,d,f⟩:=t (k+1+i) st q h (by symm) N M;ac_rfl;have K:=zgy (m:=[Zd,Zc]) (ws:=[.int q]) (wz:=[.int q]) J rfl rfl s rfl;refine⟨st',x one,one,g,j one d f,?_⟩;refine (seq_nx (zh5 (mp:=[0]) (i:=5) K rfl)).trans (z29 (r:=(.non,Zc)) ?_);rw[Dn];exact z80 (i:=3) rfl (I st' one) rfl Y
   rcases B with rfl|rfl|rfl
   ·exact fin 2 (λone=>one) (λone a b=>by symm) (by decide) (by decide) rfl λst' one=>rfl
   ·refine fin 5 (λone=>if decide (one=0) then 1 else 0) (λone a b => ?_) (by decide) (by decide) rfl λst' one=>rfl;by_cases z:one=0<;>simp [z]
   ·refine fin 5 (λone=>if decide (0<one) then 1 else 0) (λone a b => ?_) (by decide) (by decide) rfl λst' one=>rfl;by_cases z:0<one<;>simp [z]
  obtain⟨P,R,S⟩:=zbs (mp:=[0]) (T:=.nm 4) (it:=zc9 #v[7,14]) (body:=#v[0,7])
   (λi e=>∃st xs o v5,e=[#v[st,5],#v[n,0],#v[way,0],#v[(xs.map W.int),2],o,v5]/\HS (k+1+i) st/\xs.length=i/\Bits xs)
   (en:=#v[5,13]) (e0:=#v[5,13]) (ws:=rngW 0 n.toNat)
   (by
    have U:zdp n=Zd:=by unfold zdp;rw[Ah (by symm),Ah (by symm)];rfl
    show (if zdp n then Za (_,rngW 0 n.toNat) else Zb)=_;rw[U];rfl)
   ⟨st1,[],Zb,Zb,rfl,A,rfl,λx j=>by cases j⟩
   (by
    rintro i w e u ⟨st,xs,o,v5,rfl,h,p,V⟩;nofun;obtain⟨X,rfl⟩:=zel u;obtain⟨st',x,one,g,d,f⟩:=turn i st xs v5 h (by symm) p;ac_rfl;refine⟨_,_,rfl,.inl f,st',xs++[x],_,_,rfl,g,by rw[Bf,p];rfl,λy c=>?_⟩;rcases Cq.mp c with c|c
    ·exact V y c
    ·rw[Ax] at c;subst c;exact d)
  nofun;obtain⟨st2,xs,o,v5,rfl,g,d,f⟩:=S;ac_rfl;rw[zen] at g d;refine⟨st2,xs,?_,g.mono (by symm),by symm,f⟩;refine zbv (en:=[#v[st2,5],#v[n,0],#v[way,0],Zb,o,v5]) rfl ?_ rfl;refine (seq_nx D).trans ((seq_nx (e1:=[#v[st1,5],#v[n,0],#v[way,0],Zb,Zb,Zb]) ?_).trans ((seq_nx (e1:=#v[5,13]) rfl).trans ((seq_nx R).trans rfl)));rcases B with rfl|rfl|rfl<;>rfl
noncomputable def z8k (Ψ:Str->Fn):GS:=(gSeq (gSet [] 1 (gC (.int 0))) (gSeq (gFor [] (.nm 2) (gRev (gVar 0)) (gSet [] 1 #v[3,17])) (zcz [] 1)))
noncomputable def zjt (Φ:Fn):Prop:=∀x:List Int,Φ [.lst (x.map W.int)]=Za ([.lst (x.map W.int)],(.int (zad x),Zc))
theorem z3o (Ψ:Str->Fn):zjt (zag [Zc] 3 (z8k Ψ)):=by
 intro xs;obtain⟨k,d,j⟩:=zbs (mp:=[]) (T:=.nm 2) (it:=gRev (gVar 0)) (body:=gSet [] 1 #v[3,17])
  (λi e=>∃a,e=[#v[(xs.map W.int),1],#v[(zad (xs.drop (xs.length-i))),0],a])
  (en:=#v[7,16]) (e0:=#v[7,16]) (ws:=(xs.map W.int).reverse) rfl
  ⟨Zb,by rw[Fz,List.drop_length];rfl⟩
  (by
   rintro i w e h ⟨a,rfl⟩;have m:i<xs.length:=by have:=(Ag.mp h).1;rw[Fj,Ad] at this;exact this
   have c:xs.length-1-i<xs.length:=by symm
   have f:w=.int xs[xs.length-1-i]:=by
    rw[List.getElem?_reverse (by rw[Ad];exact m),Ad,Am,Ac c] at h;exact (sI h).symm
   subst f;have o:oMult (.int 2) (.int (zad (xs.drop (xs.length-i))))=#v[(2*zad (xs.drop (xs.length-i))),0]:=oMult_l (by decide) (by decide);have g:xs.drop (xs.length-(i+1))=xs[xs.length-1-i]::xs.drop (xs.length-i):=by
    have b:xs.length-(i+1)=xs.length-1-i:=by symm
    have l:xs.length-i=xs.length-1-i+1:=by symm
    rw[b,l];exact Ct c
   refine⟨_,_,rfl,.inl (zh5 (r:=(.int (zad (xs.drop (xs.length-(i+1)))),Zc)) (zbt (zb2 (zbt (x:=.inl (.int 2)) rfl rfl rfl rfl o)) rfl rfl rfl ?_) rfl),_,rfl⟩;rw[g]
   rfl)
 obtain⟨a,rfl⟩:=j;rw[Fj,Ad,Nat.sub_self,Eg] at d;exact zbv (en:=[#v[(xs.map W.int),1],#v[(zad xs),0],a]) rfl ((seq_nx (e1:=#v[7,16]) rfl).trans ((seq_nx d).trans rfl)) rfl
noncomputable def z6q (Ψ:Str->Fn):GS:=(gSeq (gSet [] 1 (za0 (gCns #v[0] (gCns #v[0] (gCns #v[0] gA0))))) (gSeq (gIfS (zif (zak (gOp2 #v[4,10] #v[0,10] #v[0])) (zak (gOp2 (oI yes2 λi j=>.bl (decide (j<=i))) #v[4,14] (gArg (gOp2 #v[1,14] #v[10] #v[18]))))) (gSeq (gSet [] 2 (gC (.int 1))) (gFor [] (.nm 3) (zau (gSl (gVarA 0) zc4 (zjg (gC (.int 63))))) (gSeq (zbf 1 (gC (.int 0)) (gOp2 oAdd (gArg (gOp2 oIx (gVarA 1) #v[0])) (gArg (gOp2 oMult (gArg (gOp2 #v[0,0,2] #v[3,12] (gArg (gOp2 #v[1,14] #v[10] #v[60])))) (gVarA 2))))) (gSet [] 2 (gOp2 oMult (gVarA 2) (gArg (gOp2 #v[1,14] #v[10] #v[60]))))))) zbr) (gSeq (gFor [] (.tp [4,3]) (zs6 (gSl (gVarA 0) zc4 (zjg (gC (.int 63))))) (gSeq (gSet [] 5 (gOp2 oAdd (gArg (gOp2 oAdd (gArg (gOp2 #v[0,0,2] (gVarA 3) #v[2305843009213693951])) (gArg (gOp2 oMult #v[7919] (gVarA 4))))) #v[3])) (zbf 1 (gC (.int 1)) (gOp2 #v[0,0,2] (gArg (gOp2 oAdd (gArg (gOp2 oMult (gArg (gOp2 oIx (gVarA 1) #v[1])) #v[48271])) (gVarA 5))) #v[2305843009213693951])))) (zcz [] 1))))
noncomputable def z0t (Φ:Fn):Prop:=∀n:List Int,n.length<=63->∃s,Φ [.frl (n.map W.int)]=Za ([.frl (n.map W.int)],(s,Zd))/\HS 0 s
theorem z7x {ns:List Int}(h:ns.length<=63):cutW (ns.map W.int) Zb (Za 63)=ns.map W.int:=by
 unfold cutW;have e:HT.sIx (ns.map W.int).length 0 Zb=0:=rfl;have a:HT.sIx (ns.map W.int).length (ns.map W.int).length (Za 63)=(ns.map W.int).length:=by
  have:=HT.sIx_nat (ns.map W.int).length (ns.map W.int).length 63;rw[show ((63:Nat):Int)=63 from rfl] at this;rw[this,Ad];symm
 rw[e,a,Eg,Fz,Db]
theorem zx8 {ns:List Int}(h:(zhi (ns.map W.int) 0)[i]?=Za w):∃a:i<ns.length,w=.tup [.int i,.int ns[i]]:=by
 have a:i<ns.length:=by have:=(Ag.mp h).1;rw[zce,Ad] at this;exact this
 have:=zer (ws:=ns.map W.int) (k:=0) (i:=i) (w:=.int ns[i]) (by rw[Am,Ac a];rfl);rw[h,Cr] at this;exact⟨a,sI this⟩
theorem z39 (Ψ:Str->Fn):z0t (zag [Zc] 6 (z6q Ψ)):=by
 intro ns C;have g:cPow 10 18=Zd:=by decide
 have p:cPow 10 60=Zd:=by decide
 have first:∃a0 v2 v3,0<=a0/\gIfS (zif (zak (gOp2 (oI yes2 λi j=>.bl (decide (j<i))) #v[0,10] (gArg (gC (.int 0))))) (zak (gOp2 (oI yes2 fun i j=>.bl (decide (j<=i))) (gArg (gOp2 oIx (gVarA 0) (gArg (gC (.int 0))))) (gArg (gOp2 (oI cPow fun i j=>.int (i ^ j.toNat)) (gArg (gC (.int 10))) (gArg (gC (.int 18)))))))) (gSeq (gSet [] 2 (gC (.int 1))) (gFor [] (.nm 3) (zau (gSl (gVarA 0) zc4 (zjg (gC (.int 63))))) #v[1,13])) zbr
   #v[8,9]=Za (#v[5,11],.nx):=by
  have l:(zak (gOp2 #v[4,10] #v[0,10] #v[0])) #v[8,9]=Za (#v[8,9],decide ((0:Int)<((ns.map W.int).length:Nat))):=rfl;cases ns with
  |nil=>exact⟨0,Zb,Zb,by decide,(z7u (by unfold zif;rw[l];rfl)).trans rfl⟩
  | cons n0 nr =>
   have t:(zak (gOp2 (oI yes2 fun i j=>.bl (decide (j<=i))) (gArg (gOp2 oIx (gVarA 0) (gArg (gC (.int 0))))) (gArg (gOp2 (oI cPow fun i j=>.int (i ^ j.toNat)) (gArg (gC (.int 10))) (gArg (gC (.int 18))))))) #v[4,15]=Za (#v[4,15],decide (10^18<=n0)) :=
    z3i (zbt (zb2 (zbt rfl rfl rfl rfl (zuj rfl (zb7 (i:=0) rfl)))) (zb2 (zbt (x:=.inl (.int 10)) rfl rfl rfl rfl (oI_t g))) rfl rfl rfl)
   have s:decide ((0:Int)<(((n0::nr).map W.int).length:Nat))=Zd:=Ah (by simp);rw[s] at l;by_cases c:(10:Int)^18<=n0
   ·rw [Ah c] at t
    obtain ⟨o,u,y⟩:=zbs (mp:=[]) (T:=.nm 3) (it:=zau (gSl (gVarA 0) zc4 (zjg (gC (.int 63))))) (body:=#v[1,13])
     (λi e=>∃a0 wt v3,e=[Za #v[9,8],#v[[.int a0,.int 0,.int 0],2],#v[wt,0],v3,Zb,Zb]/\0<=a0/\0<wt/\wt<=2^(200*i))
     (en:=#v[9,10]) (e0:=#v[9,10]) (ws:=(n0::nr).map W.int)
     (by
      show Za (_,cutW ((n0::nr).map W.int) Zb (Za 63))=_;rw[z7x C])
     ⟨0,1,Zb,rfl,by decide,by decide,by decide⟩
     (by
      rintro i w e a ⟨a0,wt,v3,rfl,f,q,d⟩;rw [Am] at a;have D:i<(n0::nr).length:=by
       rcases Nat.lt_or_ge i (n0::nr).length with z|z
       ·exact z
       ·rw[Bw z] at a;exact noSome a
      rw[Ac D] at a;have G:w=.int (n0::nr)[i]:=(sI a).symm;subst G;generalize (n0::nr)[i]=n;have E:0<=(if n<0 then -n else n)%(10:Int)^60:=Go _ (by decide);have H:(if n<0 then -n else n)%(10:Int)^60<10^60:=Ft _ (by decide);have M:i<=63:=by symm
      have O:Builtin.Int.intBits ((if n<0 then -n else n)%(10:Int)^60)<=2^20:=zi0 (i:=1) E (Int.le_trans (Int.le_of_lt H) (by decide)) (by decide);have A:Builtin.Int.intBits wt<=2^20:=zi0 (by symm) d M;have m:=zrf O A;have r:=zrf A (zi0 (w:=10^60) (i:=1) (by decide) (by decide) (by decide));obtain⟨N,K⟩:=zvg q d;refine⟨_,[Za #v[9,8],#v[[.int (a0+(if n<0 then -n else n)%(10:Int)^60*wt),.int 0,.int 0],2],#v[(wt*10^60),0],#v[n,0],Zb,Zb],rfl,.inl ?_,_,_,_,rfl,?_,N,K⟩
      ·refine (seq_nx (e1:=[Za (.frl ((n0::nr).map W.int),Zc),Za (.lst [.int (a0+(if n<0 then -n else n)%(10:Int)^60*wt),.int 0,.int 0],Zd),Za (.int wt,Zc),Za (.int n,Zc),Zb,Zb]) ?_).trans (set_0 (op2_0 rfl (arg_0 (op2_0 (x:=.inl (.int 10)) rfl rfl rfl rfl (oI_t p))) rfl rfl r) rfl)
       have k:gOp2 oAdd (gArg (gOp2 oIx (gVarA 1) (gArg (gC (.int 0))))) (gArg (gOp2 oMult (gArg (gOp2 #v[2,13] #v[3,12] #v[0,8])) (gVarA 2))) #v[0,12]=Za (#v[0,12],(.int (a0+(if n<0 then -n else n)%(10:Int)^60*wt),Zc)) :=
        zbt (zb2 (zbt rfl rfl rfl rfl (zuj rfl (zb7 (i:=0) rfl)))) (zb2 (zbt (zb2 (zbt (zb2 (z8y rfl rfl rfl)) (zb2 (zbt (x:=.inl (.int 10)) rfl rfl rfl rfl (oI_t p))) rfl rfl (oI_t (by decide)))) rfl rfl rfl m)) rfl rfl rfl
       exact zmw (n:=0) (j:=0) (ws:=[.int a0,.int 0,.int 0]) k rfl rfl rfl
      ·have:=Int.mul_nonneg E (Int.le_of_lt q)
       symm)
    nofun;obtain⟨a0,wt,v3,rfl,f,_⟩:=y;ac_rfl;exact⟨a0,_,_,f,(z6c (by unfold zif;rw[l];exact t)).trans ((seq_nx (e1:=#v[9,10]) rfl).trans u)⟩
   ·rw [Az c] at t
    exact⟨0,Zb,Zb,by decide,(z7u (by unfold zif;rw[l];exact t)).trans rfl⟩
 nofun;obtain⟨a0,v2,v3,f,h⟩:=first
 refine qG ?_;clear qG;obtain ⟨o,u,y⟩:=zbs (mp:=[]) (T:=.tp [4,3]) (it:=zs6 (gSl (gVarA 0) zc4 (zjg (gC (.int 63))))) (body:=(gSeq (gSet [] 5 (gOp2 oAdd (gArg (gOp2 oAdd (gArg (gOp2 #v[2,13] (gVarA 3) #v[9,15])) (gArg (gOp2 oMult (gArg (gC (.int 7919))) (gVarA 4))))) (gArg (gC (.int 3))))) (zbf 1 (gC (.int 1)) (gOp2 #v[2,13] #v[1,11] #v[9,15]))))
  (λi e=>∃b v3 B F,e=[Za #v[8,7],#v[#v[9,19],2],v2,v3,B,F]/\0<=b/\b<MM)
  (en:=#v[5,11]) (e0:=#v[5,11]) (ws:=zhi (ns.map W.int) 0)
  (by
   show Za (_,zhi (cutW (ns.map W.int) Zb (Za 63)) 0)=_;rw[z7x C])
  ⟨0,v3,Zb,Zb,rfl,by decide,by decide⟩
  (by
   rintro i w e a ⟨b,v3,B,F,rfl,q,d⟩;obtain ⟨D,rfl⟩:=zx8 a;generalize ns[i]=n;have P:MM=2305843009213693951:=rfl;have m:oMult (.int 7919) (.int (i:Nat))=Za (.int (7919*(i:Nat)),Zc):=oMult_l (by decide) (by decide);have r:oMult (.int b) (.int 48271)=Za (.int (b*48271),Zc):=zmo (by decide) (by decide);refine ⟨_,[Za #v[8,7],Za (.lst [.int a0,.int ((b*48271+(n%2305843009213693951+7919*(i:Nat)+3))%2305843009213693951),.int 0],Zd),v2,Za (.int n,Zc),Za (.int (i:Nat),Zc),Za (.int (n%2305843009213693951+7919*(i:Nat)+3),Zc)],rfl,.inl ?_,_,_,_,_,rfl,Go _ (by decide),Ft _ (by decide)⟩;refine (seq_nx (e1:=[some #v[8,7],some (.lst [.int a0,.int b,.int 0],true),v2,some (.int n,false),some (.int (i:Nat),false),some (.int (n % 2305843009213693951+7919 * (i:Nat)+3),false)]) (set_0 (op2_0 (arg_0 (op2_0 (arg_0 (op2_0 rfl rfl rfl rfl (oI_t (by decide)))) (arg_0 (op2_0 (x:=.inl (.int 7919)) rfl rfl rfl rfl m)) rfl rfl rfl)) rfl rfl rfl rfl) rfl)).trans ?_;have k:gOp2 #v[2,13] #v[1,11] #v[9,15] [some #v[8,7],some (.lst [.int a0,.int b,.int 0],true),v2,some (.int n,false),some (.int (i:Nat),false),some (.int (n % 2305843009213693951+7919 * (i:Nat)+3),false)]=Za ([some #v[8,7],some (.lst [.int a0,.int b,.int 0],true),v2,some (.int n,false),some (.int (i:Nat),false),some (.int (n % 2305843009213693951+7919 * (i:Nat)+3),false)],(.int ((b*48271+(n%2305843009213693951+7919*(i:Nat)+3))%2305843009213693951),Zc)) :=
    zbt (zb2 (zbt (zb2 (zbt (zb2 (zbt rfl rfl rfl rfl (zuj rfl (zb7 (i:=1) rfl)))) rfl rfl rfl r)) rfl rfl rfl rfl)) rfl rfl rfl (oI_t (by decide))
   exact zmw (n:=1) (j:=1) (ws:=#v[9,19]) k rfl rfl rfl)
 nofun;obtain⟨b,J,L,I,rfl,q,d⟩:=y;ac_rfl;refine⟨.lst #v[9,19],zbv (en:=[Za #v[8,7],Zb,v2,J,L,I]) rfl ?_ rfl,⟨_,_,_,rfl,f,q,d,by decide,by decide⟩⟩;exact (seq_nx (e1:=#v[8,9]) rfl).trans ((seq_nx h).trans ((seq_nx u).trans rfl))
theorem zu0 (a b x y:Nat)(h:x<2)(d:y<2):(2*a+x) &&& (2*b+y)=2*(a &&& b)+x*y:=by
 have f:((2*a+x) &&& (2*b+y))/2=a &&& b:=by
  have:=Nat.and_div_two_pow (n:=1) (a:=2*a+x) (b:=2*b+y);rw[Nat.pow_one] at this;rw[this];have e:(2*a+x)/2=a:=by symm
  have c:(2*b+y)/2=b:=by symm
  rw[e,c]
 have g:((2*a+x) &&& (2*b+y))%2=x*y:=by
  have:=Nat.and_mod_two_pow (n:=1) (a:=2*a+x) (b:=2*b+y);rw[Nat.pow_one] at this;rw[this];have e:(2*a+x)%2=x:=by symm
  have c:(2*b+y)%2=y:=by symm
  rw[e,c];have:x=0\/x=1:=by symm
  have:y=0\/y=1:=by symm
  rcases ‹x=0\/x=1› with rfl|rfl<;>rcases ‹y=0\/y=1› with rfl|rfl<;>rfl
 symm
noncomputable def Bit (x:Int):Prop:=x=0\/x=1
theorem zd7 (f:0<=a)(d:0<=b)(h:Bit x)(c:Bit y):Builtin.bitAnd (2*a+x) (2*b+y)=2*Builtin.bitAnd a b+x*y:=by
 have i:0<=x/\x<2:=by rcases h with rfl|rfl<;>decide
 have j:0<=y/\y<2:=by rcases c with rfl|rfl<;>decide
 rw[bitAnd_pp (by symm) (by symm),bitAnd_pp f d];have e:(2*a+x).toNat=2*a.toNat+x.toNat:=by symm
 have g:(2*b+y).toNat=2*b.toNat+y.toNat:=by symm
 rw[e,g,zu0 _ _ _ _ (by symm) (by symm)];rcases h with rfl|rfl<;>rcases c with rfl|rfl<;>simp
theorem znj (x y:Int):Builtin.bitXor x y=x+y-2*Builtin.bitAnd x y:=by
 show Builtin.bitOr x y-Builtin.bitAnd x y=_;rw[bitOr_and];symm
theorem zvr (h:0<=a)(c:0<=b)(e:Bit x)(d:Bit y):Builtin.bitXor (2*a+x) (2*b+y)=2*Builtin.bitXor a b+(x+y-2*(x*y)):=by
 rw[znj,znj,zd7 h c e d];symm
theorem xor_zero (x:Int):Builtin.bitXor x 0=x:=by rw[znj,bitAnd_zero];symm
theorem zw0 (x:Int):Builtin.bitAnd 0 x=0:=by rw[bitAnd_comm,bitAnd_zero]
theorem Bits.head (h:Bits (x::xs)):Bit x:=h x Au
theorem Bits.tail (h:Bits (x::xs)):Bits xs:=λy a=>h y (Ai _ a)
theorem zfa (h:Bits xs):0<=zad xs:=(zgw h).1
theorem zaq (x:Int)(xs:List Int):zad (x::xs)=2*zad xs+x:=rfl
theorem z9v {m:Int}(h:0<=m)(a:m<=6):m=0\/m=1\/m=2\/m=3\/m=4\/m=5\/m=6:=by symm
theorem ya3 {m:Int}(h:0<=m)(a:m<=6):(1:Int)<=1*2^m.toNat/\(1:Int)*2^m.toNat<=64:=by
 rcases z9v h a with rfl|rfl|rfl|rfl|rfl|rfl|rfl<;>decide
theorem cP1 (h:0<=m)(a:m<=6):cPow 1 m=Zd:=z0i h (by symm) (by decide)
theorem cP2 {m:Int}(h:0<=m)(a:m<=6):cPow 1 (1*2^m.toNat)=Zd:=by
 have:=ya3 h a;exact z0i (by symm) (by symm) (by decide)
noncomputable def yesW (m:Int):Int:=1*2^(1*2^m.toNat:Int).toNat-1
noncomputable def zou (Φ:Fn):Prop:=∀m:Int,0<=m->m<=6->Φ [.int m]=Za ([.int m],(.int (yesW m),Zc))
noncomputable def zsh (Ψ:Str->Fn):GS:=(gRet (gOp2 #v[0,0,0] (gArg (gOp2 #v[0,0,1] #v[1] #v[4,12])) #v[1]))
theorem zpz (Ψ:Str->Fn):zou (zag [Zc] 1 (zsh Ψ)):=λm a h =>
 zbv (en:=[#v[m,0]]) rfl (ya7 (op2_0 (arg_0 (op2_0 (x:=.inl (.int 1)) rfl (arg_0 (op2_0 (x:=.inl (.int 1)) rfl rfl rfl rfl (oI_t (cP1 a h)))) rfl rfl (oI_t (cP2 a h)))) rfl rfl rfl rfl)) rfl
noncomputable def z6e (Φ:Fn):Prop:=∀a b:Int,Φ [.int a,.int b]=Za ([.int a,.int b],(.int (Builtin.bitXor a b),Zc))
noncomputable def z55 (Φ:Fn):Prop:=∀a b:Int,Φ [.int a,.int b]=Za ([.int a,.int b],(.int (Builtin.bitAnd a b),Zc))
noncomputable def z57 (Ψ:Str->Fn):GS:=(gRet (gOp2 #v[2,15] (gVarA 0) (gVarA 1)))
noncomputable def z3m (Ψ:Str->Fn):GS:=(gRet (gOp2 #v[6,9] (gVarA 0) (gVarA 1)))
theorem z24 (Ψ:Str->Fn):z6e (zag [Zc,Zc] 2 (z57 Ψ)):=λa b=>rfl
theorem zx0 (Ψ:Str->Fn):z55 (zag [Zc,Zc] 2 (z3m Ψ)):=λa b=>rfl
noncomputable def dif (a b:Int):Int:=if !decide (a=b) then 1 else 0
theorem z1m (h:Bit a)(c:Bit b):a+b-2*(a*b)=dif a b:=by
 rcases h with rfl|rfl<;>rcases c with rfl|rfl<;>decide
theorem zlp:∀{xs ys:List Int},Bits xs->Bits ys->xs.length=ys.length->Builtin.bitXor (zad xs) (zad ys)=zad (List.zipWith dif xs ys)
 |[],[],_,_,_=>xor_zero 0
 |[],_::_,_,_,h=>by cases h
 |_::_,[],_,_,h=>by cases h
 | x::xs,y::ys,a,b,c=>by
  rw[zaq,zaq,zvr (zfa a.tail) (zfa b.tail) a.head b.head,zlp a.tail b.tail (by simpa using c),z1m a.head b.head]
  rfl
theorem zta:∀{xs:List Int},Bits xs->List.zipWith dif xs (List.replicate xs.length 1)=xs.map λa=>1-a
 |[],_=>rfl
 | x::xs,h=>by
  show dif x 1::List.zipWith dif xs (List.replicate xs.length 1)=_;rw[zta h.tail];rcases h.head with rfl|rfl<;>rfl
noncomputable def clr:List Int->List Int
 |[]=>[]
 |x::a=>if x=1 then 0::a else x::clr a
theorem zof:∀{xs:List Int},Bits xs->Bits (clr xs)
 |[],h=>h
 | x::xs,h=>by
  unfold clr;split
  ·exact λy a=>(Ak.mp a).elim (λe=>.inl e) (h.tail y)
  ·exact λy a=>(Ak.mp a).elim (λe=>by rw[e];exact h.head) (zof h.tail y)
theorem ztc:∀{xs:List Int},Bits xs->0<=xs.sum
 |[],_=>by decide
 | x::xs,h=>by
  have:=ztc h.tail;rw[Bj];rcases h.head with e|e<;>symm
theorem z0e:∀{xs:List Int},Bits xs->xs.sum<=xs.length
 |[],_=>by decide
 | x::xs,h=>by
  have:=z0e h.tail;rw[Bj,Bd];rcases h.head with e|e<;>symm
theorem zld:∀{xs:List Int},Bits xs->(zad xs=0↔xs.sum=0)
 |[],_=>⟨λ_=>rfl,λ_=>rfl⟩
 | x::xs,h=>by
  have i:=zld h.tail;have n:=zfa h.tail;have a:=ztc h.tail;rw[zaq,Bj];rcases h.head with e|e
  ·subst e
   constructor
   ·intro z;rw[i.mp (by symm)];rfl
   ·intro z;rw[i.mpr (by symm)];rfl
  ·subst e
   constructor<;>intro z<;>symm
theorem zq3:∀{xs:List Int},Bits xs->zad xs≠0->(clr xs).sum=xs.sum-1
 |[],_,h=>absurd rfl h
 | x::xs,h,b=>by
  unfold clr;split
  ·rename_i e;subst e;rw[Bj,Bj];symm
  ·rename_i e
   have a:x=0:=h.head.resolve_right e;subst a;have:zad xs≠0:=λz=>b (by rw[zaq,z];rfl);rw[Bj,Bj,zq3 h.tail this];symm
theorem zoa:∀{xs:List Int},Bits xs->zad xs≠0->Builtin.bitAnd (zad xs) (zad xs-1)=zad (clr xs)
 |[],_,h=>absurd rfl h
 | x::xs,h,c=>by
  have n:=zfa h.tail;unfold clr;split
  ·rename_i e
   subst e;have a:zad (1::xs)-1=2*zad xs+0:=by rw[zaq];symm
   rw[a,zaq,zd7 n n (.inr rfl) (.inl rfl),bitAnd_self]
   rfl
  ·rename_i e
   have d:x=0:=h.head.resolve_right e;subst d;have b:zad xs≠0:=λz=>c (by rw[zaq,z];rfl);have a:zad (0::xs)-1=2*(zad xs-1)+1:=by rw[zaq];symm
   rw[a,zaq,zd7 n (by symm) (.inl rfl) (.inr rfl),zoa h.tail b]
   rfl
noncomputable def zya (Ψ:Str->Fn):GS:=(gSeq (gSet [] 1 (gC (.int 0))) (gSeq (zc2 (zak #v[2,19]) #v[8,16] zd2) (zcz [] 1)))
noncomputable def zfs (Φ:Fn):Prop:=∀x:List Int,Bits x->x.length<=1000->Φ [.int (zad x)]=Za ([.int (zad x)],(.int x.sum,Zc))
theorem zgv:∀(n:Nat) (xs:List Int) (h:Int),Bits xs->xs.sum<n ->
  zc2 (zak #v[2,19]) #v[8,16] n #v[6,17]=Za ([#v[0,0],#v[(h+xs.sum),0]],.nx)
 |0,xs,h,a,c=>by have:=ztc a;symm
 | n+1,xs,h,a,c=>by
  have t:zak #v[2,19] #v[6,17]=Za (#v[6,17],!decide (zad xs=0)):=rfl;unfold zc2;by_cases z:zad xs=0
  ·rw [Ah z] at t
   rw[t,(zld a).mp z,z,Int.add_zero]
   rfl
  ·rw [Az z] at t
   have b:gSeq (gAug [] #v[6,9] 0 #v[1,10]) (gAug [] #v[0,14] 1 #v[1]) #v[6,17]=Za ([#v[(Builtin.bitAnd (zad xs) (zad xs-1)),0],#v[(h+1),0]],.nx):=rfl;rw[zoa a z] at b;rw[t];simp only [Gd,b];have:=zq3 a z;rw[zgv n (clr xs) (h+1) (zof a) (by symm),this];have e:h+1+(xs.sum-1)=h+xs.sum:=by symm
   rw[e]
theorem zun (Ψ:Str->Fn):zfs (zag [Zc] 2 (zya Ψ)):=λx h a=>by
 have w:=zgv zd2 x 0 h (by have:=z0e h;show x.sum<(4096:Nat);symm);rw[Gw] at w;exact zbv (en:=[#v[0,0],#v[x.sum,0]]) rfl ((seq_nx (e1:=[#v[(zad x),0],#v[0,0]]) rfl).trans ((seq_nx w).trans rfl)) rfl
theorem z19 (h:as en=Za (e1,xs))(b:za2 e1 xs=Za [.int j])(a:zdp j=Zd):zc9 as en=Za (e1,rngW 0 j.toNat):=by
 unfold zc9;rw[h];show (match za2 e1 xs with|some [.int j]=>if zdp j then Za (e1,rngW 0 j.toNat) else Zb|_=>Zb)=_;rw[b];show (if zdp j then Za (e1,rngW 0 j.toNat) else Zb)=_;rw[if_pos a]
theorem band (a b:Nat):Builtin.bitAnd (a:Int) (b:Int)=((a &&& b:Nat):Int):=by rw[bitAnd_pp (El a) (El b)];rfl
noncomputable def tab (n:Nat) (f:Nat->Int):List Int:=(List.range n).map f
theorem zbj (n:Nat)(f:Nat->Int):(tab n f).length=n:=by unfold tab;rw[Ad,By]
theorem zdc (h:i<n):(tab n f)[i]?=Za (f i):=by unfold tab;rw[Am,Gr h];rfl
theorem zmn (h:∀i,i<n->f i=g i):tab n f=tab n g:=by
 unfold tab;refine Fh λi a=>h i (Bo.mp a)
theorem z3w (n:Nat)(f g:Nat->Int)(h:Int->Int->Int):List.zipWith h (tab n f) (tab n g)=tab n λi=>h (f i) (g i):=by
 apply Dk;intro i;by_cases a:i<n
 ·rw[List.getElem?_zipWith,zdc a,zdc a,zdc a]
 ·rw[Bw (by rw[List.length_zipWith,zbj,zbj];symm),Bw (by rw[zbj];symm)]
theorem zcm (h:∀i,i<n->Bit (f i)):Bits (tab n f):=λx a=>by
 obtain⟨i,b,rfl⟩:=Do.mp a;exact h i (Bo.mp b)
theorem zol (n:Nat)(f:Nat->Int):tab (n+1) f=tab n f++[f n]:=by unfold tab;rw[List.range_succ,Dn];rfl
noncomputable def zbz (p:Nat):List Nat:=(List.range (p+1)).filter λo=>o &&& p==o
noncomputable def coefF (f:Nat->Int) (p:Nat):Int:=((zbz p).map f).sum%2
noncomputable def evS (L:List Nat) (f:Nat->Int) (S:Nat):Int:=((L.filter λi=>S.testBit i).map f).sum
theorem z0x (f:Nat->Int) (A B:Nat):∀L:List Nat,evS L f (A ^^^ B)%2=(evS L f A+evS L f B)%2
 |[]=>rfl
 | i::L=>by
  have a:=z0x f A B L;unfold evS at a ⊢;rw[Dc,Dc,Dc,Ca];cases A.testBit i<;>cases B.testBit i<;>simp only [Bool.xor_false,Bool.xor_true,Bool.not_true,Gd,Fe,Fx,Aw,Bj,Cz]<;>symm
noncomputable def itS:Nat->Nat->Nat
 |0,i=>2^i
 |k+1,i=>if i/2^k%2=1 then itS k i ^^^ itS k (i-2^k) else itS k i
theorem z4p:∀i:Fin 64,(List.range 64).filter (λj=>(2^i.val).testBit j)=[i.val]:=by decide +kernel
theorem z5b:∀m:Fin 7,∀p:Fin (2^m.val),(List.range 64).filter (λj=>(itS m.val p.val).testBit j)=zbz p.val:=by decide +kernel
theorem zm1 (h:o∈zbz p):o<=p:=by
 have:=Bo.mp (Ch.mp h).1;symm
theorem z12 (g:Nat->Int)(h:t<64):coefF g t=evS (List.range 64) g (itS 6 t)%2:=by
 unfold evS coefF;rw[z5b ⟨6,by decide⟩ ⟨t,h⟩]
theorem zke:∀(p:Nat) (xs:List Int),Bits xs->Builtin.bitAnd (zad xs/2^p) 1=xs.getD p 0
 | p,[],_=>by
  show Builtin.bitAnd ((0:Int)/2^p) 1=0;rw[Int.zero_ediv,zw0]
 | 0,x::xs,h=>by
  have a:=zd7 (zfa h.tail) (Int.le_refl 0) h.head (show Bit 1 from .inr rfl);rw[bitAnd_zero] at a;show Builtin.bitAnd (zad (x::xs)/1) 1=x;rw[Int.ediv_one,zaq];have e:(2*0+1:Int)=1:=rfl;rw[e] at a;rw[a];symm
 | p+1,x::xs,h=>by
  have i:=zke p xs h.tail;have e:zad (x::xs)/2^(p+1)=zad xs/2^p:=by
   rw[zaq,Int.pow_succ,Int.mul_comm ((2:Int)^p) 2,<-Int.ediv_ediv_of_nonneg (by decide)];congr 1;rcases h.head with q|q<;>rw[q]<;>symm
  rw[e,i]
  rfl
noncomputable def dueL (f:Nat->Int) (n:Nat):List Nat:=(List.range n).filter λp=>decide (f p=1)
noncomputable def zam (M:List Nat):List W:=M.map λp:Nat=>W.int p
theorem zbo (M:List Nat):(zam M).length=M.length:=Ad ..
theorem zeu {i:Nat}{w:W}(h:(zam M)[i]?=Za w):∃p,M[i]?=Za p/\w=.int (p:Nat):=by
 unfold zam at h;rw[Am] at h;obtain⟨p,a,b⟩:=Option.map_eq_some_iff.mp h;exact⟨p,a,b.symm⟩
theorem ze8:∀ws:List W,zbn (ws.map Sum.inl)=Za ws
 |[]=>rfl
 |w::ws=>by show (zbn (ws.map Sum.inl)).bind _=_;rw[ze8 ws];rfl
theorem zgm:∀{xs:List (W ⊕ Nat)}{ws:List W},zbn xs=Za ws->xs=ws.map Sum.inl
 |[],_,e=>by obtain rfl:=sI e;rfl
 | .inl w::xs,_,e=>by
  obtain⟨ws,h,e⟩:=bS (show (zbn xs).bind _=_ from e);obtain rfl:=sI e;rw[zgm h];rfl
 |.inr _::_,_,e=>by exact noSome e
theorem zlm (m:List Bool) (a:(m.all λb=>!b)=Zd) (h:xs.map isR=m):∃ws:List W,xs=ws.map Sum.inl:=by
 induction xs generalizing m with
 |nil=>exact⟨[],rfl⟩
 | cons x xs c =>
  cases m with
  |nil=>cases h
  | cons b m =>
   rw[Aw] at h;injection h with h1 h2;rw[Dj,Af] at a;obtain⟨ws,e⟩:=c m a.2 h2;cases x with
   |inl w=>exact⟨w::ws,by rw[e];rfl⟩
   |inr i=>rw[<-h1] at a;cases a.1
theorem zg2:∀{m:List Bool} (a:(m.all λb=>!b)=Zd) (ws:List W),ws.length=m.length->(ws.map λ_=>Zc)=m
 |[],_,[],_=>rfl
 |[],_,_::_,h=>by cases h
 |_::_,_,[],h=>by cases h
 | b::m,a,w::ws,h=>by
  rw[Dj,Af] at a;rw[Aw,zg2 a.2 ws (by simpa using h)];cases b with
  |false=>rfl
  |true=>cases a.1
theorem zcq (m:List Bool) (Φ:Fn) (as:GAs) (en:En) (f:(m.all λb=>!b)=Zd):zaa m Φ as en=(as en).bind λp=>(zbn p.2).bind λws=>if ws.length=m.length then (Φ ws).bind λq=>if q.1.length=m.length then Za (p.1,q.2) else Zb else Zb:=by
 cases ha:as en with
 |none=>unfold zaa;rw[ha];rfl
 | some p =>
  obtain⟨a,x⟩:=p;show _=(zbn x).bind _;cases hf:zbn x with
  | none =>
   unfold zaa;rw[ha];show (if (decide (x.map isR=m)&&_&&_)=Zd then _ else Zb)=Zb;rw[Az (λz=>by obtain⟨ws,e⟩:=zlm m f z;rw[e,ze8] at hf;cases hf)]
   rfl
  | some ws =>
   have g:=zgm hf;subst g;show _=if ws.length=m.length then _ else Zb;by_cases c:ws.length=m.length
   ·rw [if_pos c]
    have d:=zg2 f ws c;cases hq:Φ ws with
    | none =>
     unfold zaa;rw[ha];show (if (decide ((ws.map Sum.inl).map isR=m)&&zat a (ws.map Sum.inl)&&zb0 (za7 (ws.map Sum.inl)))=Zd then _ else _)=_;have e:(ws.map Sum.inl).map isR=m:=by rw[<-d,Dz];rfl
     rw[Ah e,zeg,zgn];show (za2 a (ws.map Sum.inl)).bind _=_;rw[zby];show (Φ ws).bind _=_;rw[hq]
     rfl
    | some q =>
     obtain⟨w,r⟩:=q;show _=if w.length=m.length then Za (a,r) else Zb;by_cases h:w.length=m.length
     ·rw [if_pos h]
      exact zr8 ha d hq (by symm)
     ·rw [if_neg h]
      unfold zaa;rw[ha];show (if (decide ((ws.map Sum.inl).map isR=m)&&zat a (ws.map Sum.inl)&&zb0 (za7 (ws.map Sum.inl)))=Zd then _ else _)=_;have e:(ws.map Sum.inl).map isR=m:=by rw[<-d,Dz];rfl
      rw[Ah e,zeg,zgn];show (za2 a (ws.map Sum.inl)).bind _=_;rw[zby];show (Φ ws).bind _=_;rw[hq];show (if w.length=m.length then _ else Zb)=Zb;rw[if_neg h]
   ·rw [if_neg c]
    unfold zaa;rw[ha];show (if (decide ((ws.map Sum.inl).map isR=m)&&_&&_)=Zd then _ else Zb)=Zb;rw[Az (λz=>c (by rw[<-z,Ad,Ad]))]
    rfl
theorem zdk (m:List Bool) (Φ:Fn) (as:GAs) (en:En) (A:(m.all λb=>!b)=Zd):zaa (Zd::m) Φ as en=(as en).bind λp=>match p.2 with
  | .inr i::x=>(zbn x).bind λa=>(match p.1[i]? with
   | some (Za (s,Zd))=>if a.length=m.length then (Φ (s::a)).bind λq=>(match q.1 with
    |n::u=>if u.length=m.length then Za (p.1.set i (#v[n,5]),q.2) else Zb
    |[]=>Zb) else Zb
   |_=>Zb)
  |_=>Zb:=by
 cases g:as en with
 |none=>unfold zaa;rw[g];rfl
 | some p =>
  obtain ⟨d,x⟩:=p;have base:zaa (Zd::m) Φ as en=if decide (x.map isR=Zd::m)&&zat d x&&zb0 (za7 x) then (za2 d x).bind λa=>(Φ a).bind λq=>if q.1.length=(Zd::m).length then Za (zax (za7 x) d (zav (Zd::m) q.1),q.2) else Zb else Zb:=by
   unfold zaa;rw[g];rfl
  have c:x.map isR≠Zd::m->zaa (Zd::m) Φ as en=Zb:=λz=>by rw[base,Az z];rfl
  have f:zat d x=Zc->zaa (Zd::m) Φ as en=Zb:=λz=>by rw[base,z,Bool.and_false];rfl
  simp only [Dq]
  match x,g,base,c,f with
  |[],g,_,c,_=>rw[c (by simp)]
  |.inl w::x,g,_,c,_=>rw[c (by simp [isR])]
  | .inr i::x,g,base,c,f =>
   simp only;cases hf:zbn x with
   | none=>rw [c (λz=>by
     rw[Aw] at z;injection z with _ z;obtain⟨a,e⟩:=zlm m A z;rw[e,ze8] at hf;cases hf)];rfl
   | some a =>
    have C:=zgm hf;subst C;simp only [Dq];have D:(∀s,d[i]?≠Za (Za (s,Zd)))->zat d (.inr i::a.map Sum.inl)=Zc:=λz=>by
     unfold zat;rw [Dj];have:(match d[i]? with | some (Za (_,Zd))=>Zd | _=>Zc)=Zc:=by
      split
      ·rename_i q;exact absurd q (z _)
      ·rfl
     simp only [this,Eh]
    split
    ·rename_i s h
     by_cases t:a.length=m.length
     ·rw [if_pos t]
      have B:=zg2 A a t;cases l:Φ (s::a) with
      | none =>
       rw[base];split
       ·have y:za2 d (.inr i::a.map Sum.inl)=Za (s::a):=by
         show (resA d (.inr i)).bind _=_;have:resA d (.inr i)=Za s:=by unfold resA;simp only [h]
         rw[this];show (za2 d (a.map Sum.inl)).bind _=_;rw[zby]
         rfl
        rw[y];show (Φ (s::a)).bind _=_;rw[l]
        rfl
       ·rfl
      | some q =>
       obtain ⟨k,r⟩:=q;simp only [Dq];have o:k.length≠(Zd::m).length->zaa (Zd::m) Φ as en=Zb:=λz=>by
        rw[base];split
        ·have y:za2 d (.inr i::a.map Sum.inl)=Za (s::a):=by
          show (resA d (.inr i)).bind _=_;have:resA d (.inr i)=Za s:=by unfold resA;simp only [h]
          rw[this];show (za2 d (a.map Sum.inl)).bind _=_;rw[zby]
          rfl
         rw[y];show (Φ (s::a)).bind _=_;rw[l];show (if k.length=(Zd::m).length then _ else Zb)=Zb;rw[if_neg z]
        ·rfl
       match k,l,o with
       |[],l,o=>rw[o (by simp)]
       | n::u,l,o =>
        simp only;by_cases j:u.length=m.length
        ·rw [if_pos j]
         exact zpe g (by rw[B]) h l (by symm)
        ·rw[if_neg j,o (by simpa using j)]
     ·rw [if_neg t,c (λz=>t (by
       have:=congrArg List.length z;simpa using this))]
    ·rename_i h
     exact f (D λs z=>h s z)
theorem oI_e {c:Int->Int->Bool}{g:Int->Int->W}{i j:Int}:oI c g (.int i) (.int j)=if c i j then #v[g i j,6] else Zb:=rfl
theorem z8x {i j:Int}:yes2 i j=Zd:=rfl
theorem zwp {ws:List W}:seqW (.tup ws)=Za ws:=rfl
theorem zwi {ws:List W}:seqW (.lst ws)=Za ws:=rfl
theorem zxt {ws:List W}:seqL (.lst ws)=Za ws:=rfl
theorem ya9 {a:W}{i:Int}:oIx a (.int i)=(seqW a).bind λws=>(atI ws i).bind λw=>#v[w,6]:=by cases a<;>rfl
theorem z5z {en:En}{w:W}:resA en (.inl w)=Za w:=rfl
theorem z6g {en:En}{i:Nat}:resA en (.inr i)=match en[i]? with|some (Za (w,_))=>Za w|_=>Zb:=by
 unfold resA;rfl
theorem yaw {i j:Int}:oEq (.int i) (.int j)=Za #v[9,16]:=rfl
theorem z96 {i j:Int}:oNe (.int i) (.int j)=Za (.bl (!decide (i=j)),false):=rfl
theorem zzp {w:W}{xs:List (W ⊕ Nat)}:zbn (.inl w::xs)=(zbn xs).bind λws=>Za (w::ws):=rfl
theorem zzl:zbn []=Za []:=rfl
theorem z2s {en:En}{x:W ⊕ Nat}{xs:List (W ⊕ Nat)}:za2 en (x::xs)=(resA en x).bind λw=>(za2 en xs).bind λws=>Za (w::ws):=rfl
theorem z1d {en:En}:za2 en []=Za []:=rfl
theorem z1o {b:Bool}{m:List Bool}{w:W}{ws:List W}:zav (b::m) (w::ws)=Za (w,b)::zav m ws:=rfl
theorem z36 {ws:List W}:zav [] ws=[]:=by unfold zav;simp
theorem z66 {en:En}:outsW [] [] en=Za []:=rfl
theorem z7k {m:List Bool}{w u:W}{ws:List W}{en:En}:outsW (Zd::m) (u::ws) (#v[w,5]::en)=(outsW m ws en).bind λr=>Za (w::r):=rfl
theorem z9q {m:List Bool}{w:W}{ws:List W}{x:Option (W×Bool)}{en:En}:outsW (Zc::m) (w::ws) (x::en)=(outsW m ws en).bind λr=>Za (w::r):=rfl
theorem ybf {x:W}{xs:List W}:atI (x::xs) 0=Za x:=by
 have:=zb7 (xs:=x::xs) (i:=0) rfl;exact this
theorem yay {x y:W}{xs:List W}:atI (x::y::xs) 1=Za y:=by
 have:=zb7 (xs:=x::y::xs) (i:=1) rfl;exact this
theorem yba {x y z:W}{xs:List W}:atI (x::y::z::xs) 2=Za z:=by
 have:=zb7 (xs:=x::y::z::xs) (i:=2) rfl;exact this
theorem zw4 {n:Nat}:((no_index (OfNat.ofNat n):Nat):Int)=(OfNat.ofNat n:Int):=rfl
theorem zyw {xs ys:List W}:oAdd (.lst xs) (.lst ys)=if xs.length+ys.length<=sizeLine then #v[(xs++ys),2] else Zb:=by
 by_cases h:xs.length+ys.length<=sizeLine
 ·rw[if_pos h];exact z1c h
 ·rw [if_neg h];show oOr oCat (oOr zvj z1g) (.lst xs) (.lst ys)=Zb;have e:oCat (.lst xs) (.lst ys)=Zb:=by
   show (if xs.length+ys.length<=sizeLine then _ else Zb)=Zb;rw[if_neg h]
  unfold oOr;rw[e]
  rfl
theorem zl9:oIsi .int .non=Za #v[9,7]:=rfl
theorem zp0 {b:Bool}:oIsi .int (.bl b)=Za #v[8,10]:=rfl
theorem zm2 {n:Int}:oIsi .int (.int n)=Za #v[8,10]:=rfl
theorem zl2 {x:Str}:oIsi .int (.str x)=Za #v[9,7]:=rfl
theorem zl4 {xs:List W}:oIsi .int (.tup xs)=Za #v[9,7]:=rfl
theorem zmv {xs:List W}:oIsi .int (.lst xs)=Za #v[9,7]:=rfl
theorem zma:oIsi .int .dic=Za #v[9,7]:=rfl
theorem zk2:oIsi .bool .non=Za #v[9,7]:=rfl
theorem zm9 {b:Bool}:oIsi .bool (.bl b)=Za #v[8,10]:=rfl
theorem zks {n:Int}:oIsi .bool (.int n)=Za #v[9,7]:=rfl
theorem zj8 {x:Str}:oIsi .bool (.str x)=Za #v[9,7]:=rfl
theorem zkn {xs:List W}:oIsi .bool (.tup xs)=Za #v[9,7]:=rfl
theorem zko {xs:List W}:oIsi .bool (.lst xs)=Za #v[9,7]:=rfl
theorem zkp:oIsi .bool .dic=Za #v[9,7]:=rfl
theorem zms:oIsi .str .non=Za #v[9,7]:=rfl
theorem zqe {b:Bool}:oIsi .str (.bl b)=Za #v[9,7]:=rfl
theorem zl0 {n:Int}:oIsi .str (.int n)=Za #v[9,7]:=rfl
theorem zna {x:Str}:oIsi .str (.str x)=Za #v[8,10]:=rfl
theorem zl7 {xs:List W}:oIsi .str (.tup xs)=Za #v[9,7]:=rfl
theorem zm3 {xs:List W}:oIsi .str (.lst xs)=Za #v[9,7]:=rfl
theorem zmq:oIsi .str .dic=Za #v[9,7]:=rfl
theorem zil:oIsi .tuple .non=Za #v[9,7]:=rfl
theorem zj9 {b:Bool}:oIsi .tuple (.bl b)=Za #v[9,7]:=rfl
theorem zjp {n:Int}:oIsi .tuple (.int n)=Za #v[9,7]:=rfl
theorem zjb {x:Str}:oIsi .tuple (.str x)=Za #v[9,7]:=rfl
theorem zid {xs:List W}:oIsi .tuple (.tup xs)=Za #v[8,10]:=rfl
theorem zi4 {xs:List W}:oIsi .tuple (.lst xs)=Za #v[9,7]:=rfl
theorem zjj:oIsi .tuple .dic=Za #v[9,7]:=rfl
theorem zkc:oIsi .list .non=Za #v[9,7]:=rfl
theorem zmu {b:Bool}:oIsi .list (.bl b)=Za #v[9,7]:=rfl
theorem zlf {n:Int}:oIsi .list (.int n)=Za #v[9,7]:=rfl
theorem zj6 {x:Str}:oIsi .list (.str x)=Za #v[9,7]:=rfl
theorem zj5 {xs:List W}:oIsi .list (.tup xs)=Za #v[9,7]:=rfl
theorem zj3 {xs:List W}:oIsi .list (.lst xs)=Za #v[8,10]:=rfl
theorem zkt:oIsi .list .dic=Za #v[9,7]:=rfl
theorem yam {i j:Bool}:oEq (.bl i) (.bl j)=Za #v[9,16]:=rfl
theorem yar {i j:Bool}:oNe (.bl i) (.bl j)=Za (.bl (!decide (i=j)),false):=rfl
theorem yau {i j:Str}:oEq (.str i) (.str j)=Za #v[9,16]:=rfl
theorem yak {i j:Str}:oNe (.str i) (.str j)=Za (.bl (!decide (i=j)),false):=rfl
theorem z97 {i j:Bool}:oIs (.bl i) (.bl j)=Za #v[9,16]:=rfl
theorem z6t {f:List Bool->Bool}{bs:List Bool}:oBl f [.lst (bs.map W.bl)]=Za (.bl (f bs),Zc):=by
 show (zmj (bs.map W.bl)).bind _=_;rw[zlu];rfl
theorem zn6 (q:it en=Za (e0,ws)) (s:ws.length<=1000) (n:rs.length=ws.length) (l:zb0 cap=Zd) (j:(capKeep cap).contains 1=Zc) (o:ze7 cap e0=Zb::Zb::xs) (p:∀v0 v1,zax cap e0 (v0::v1::xs)=e0)
  (k:∀(i:Nat) v0 w r,ws[i]?=Za w->rs[i]?=Za r->∃u f,te (v0::#v[w,6]::xs)=Za (v0::u::xs,(r,f))) :
  zbq cap (.nm 1) it gYes te en=Za (e0,(.lst rs,Zd)):=by
 have t:(1000:Nat)<=sizeLine:=by decide
 obtain⟨m,out,d,a⟩:=zfx (cap:=cap) (T:=.nm 1) (tc:=gYes) (te:=te) (λi c g=>(∃v0 v1,c=v0::v1::xs)/\g=rs.take i) q l (by symm) ⟨⟨_,_,o⟩,rfl⟩
  (λi w c g b a=>by
   obtain⟨⟨v0,v1,rfl⟩,rfl⟩:=a;have lt:i<ws.length:=(Ag.mp b).1;have e:rs[i]?=Za rs[i]:=Ac (by symm);obtain⟨u,f,h⟩:=k i v0 w _ b e;refine⟨v0::#v[w,6]::xs,?_,.inl ⟨_,_,_,rfl,h,⟨_,_,rfl⟩,?_⟩⟩
   ·show (if (capKeep cap).contains 1 || !decide (1<(v0::v1::xs).length) then Zb else _)=_;rw[j,Ah (by rw[Bd,Bd];symm)]
    rfl
   ·show rs.take i ++ [rs[i]]=rs.take (i+1);rw[Dt,e];rfl)
 obtain⟨⟨v0,v1,rfl⟩,rfl⟩:=a;rw[p,<-n,Db] at d;exact d
noncomputable def evA:=And.intro @oI_e ( And.intro @z8x ( And.intro @zse ( And.intro @zyw ( And.intro @zwp ( And.intro @zwi ( And.intro @zxt ( And.intro @ya9 ( And.intro @z5z ( And.intro @z6g ( And.intro @yaw ( And.intro @z96 ( And.intro @yam ( And.intro @yar ( And.intro @yau ( And.intro @yak ( And.intro @z97 ( And.intro @z6t ( And.intro @zzp ( And.intro @zzl ( And.intro @z2s ( And.intro @z1d ( And.intro @z1o ( And.intro @z36 ( And.intro @z66 ( And.intro @z7k ( And.intro @z9q ( And.intro (λΦ as en=>zcq [Zc] Φ as en rfl) ( And.intro (λΦ as en=>zcq [Zc,Zc] Φ as en rfl) ( And.intro (λΦ as en=>zcq [Zc,Zc,Zc] Φ as en rfl) ( And.intro (λΦ as en=>zcq [Zc,Zc,Zc,Zc] Φ as en rfl) ( And.intro (λΦ as en=>zdk [] Φ as en rfl) ( And.intro (λΦ as en=>zdk [Zc] Φ as en rfl) ( And.intro (λΦ as en=>zdk [Zc,Zc] Φ as en rfl) ( And.intro (λΦ as en=>zdk [Zc,Zc,Zc] Φ as en rfl) ( And.intro @ybf ( And.intro @yay ( And.intro @yba ( And.intro @Hj ( And.intro @zl9 ( And.intro @zp0 ( And.intro @zm2 ( And.intro @zl2 ( And.intro @zl4 ( And.intro @zmv ( And.intro @zma ( And.intro @zk2 ( And.intro @zm9 ( And.intro @zks ( And.intro @zj8 ( And.intro @zkn ( And.intro @zko ( And.intro @zkp ( And.intro @zms ( And.intro @zqe ( And.intro @zl0 ( And.intro @zna ( And.intro @zl7 ( And.intro @zm3 ( And.intro @zmq ( And.intro @zil ( And.intro @zj9 ( And.intro @zjp ( And.intro @zjb ( And.intro @zid ( And.intro @zi4 ( And.intro @zjj ( And.intro @zkc ( And.intro @zmu ( And.intro @zlf ( And.intro @zj6 ( And.intro @zj5 ( And.intro @zj3 ( And.intro @zkt ( And.intro @zw4 ( And.intro @Option.bind_some.{0,0} ( And.intro @Option.bind_none.{0,0} ( And.intro @List.length_cons.{0} ( And.intro @List.length_nil.{0} ( And.intro @List.getElem?_cons_zero.{0} ( And.intro @List.getElem?_cons_succ.{0} ( And.intro @List.set_cons_zero.{0} ( And.intro @List.set_cons_succ.{0} ( And.intro @List.nil_append.{0} ( And.intro @List.cons_append.{0} ( And.intro @List.contains_nil.{0} ( And.intro @Bool.false_or ( And.intro @Bool.or_false ( And.intro @Bool.not_true ( And.intro @Gd ( And.intro @Cr ( And.intro @Nat.lt_add_one ( And.intro @Nat.zero_lt_succ ( And.intro @decide_true ( And.intro @decide_false ( And.intro @Eu ( And.intro @List.elem_nil.{0} ( And.intro @List.elem_cons.{0} ( And.intro @Cz ( And.intro @Bool.true_eq_false ( And.intro @Bool.or_self ( And.intro @Bool.and_self ( And.intro @Bool.true_and ( And.intro @Eh ( And.intro @Bool.and_true ( And.intro @Bool.and_false ( And.intro @Bool.true_or ( And.intro @Bool.or_true ( And.intro @Dl ( And.intro @gVar.eq_1 ( And.intro @gVarA.eq_1 ( And.intro @gC.eq_1 ( And.intro @gArg.eq_1 ( And.intro @gA0.eq_1 ( And.intro @gCns.eq_1 ( And.intro @gOp1.eq_1 ( And.intro @gOp2.eq_1 ( And.intro @gOpN.eq_1 ( And.intro @zak.eq_1 ( And.intro @gAnd.eq_1 ( And.intro @gOr.eq_1 ( And.intro @gNot.eq_1 ( And.intro @zif.eq_1 ( And.intro @gOrT.eq_1 ( And.intro @zju.eq_1 ( And.intro @gIf.eq_1 ( And.intro @zcb.eq_1 ( And.intro @za0.eq_1 ( And.intro @zoe.eq_1 ( And.intro @zc4.eq_1 ( And.intro @zjg.eq_1 ( And.intro @gSl.eq_1 ( And.intro @zau.eq_1 ( And.intro @zc9.eq_1 ( And.intro @yaz.eq_1 ( And.intro @gRev.eq_1 ( And.intro @zbr.eq_1 ( And.intro @gBrk.eq_1 ( And.intro @gCnt.eq_1 ( And.intro @gSeq.eq_1 ( And.intro @gRet.eq_1 ( And.intro @ybc.eq_1 ( And.intro @gIfS.eq_1 ( And.intro @zee.eq_1 ( And.intro @gSet.eq_1 ( And.intro @gAsg.eq_1 ( And.intro @gPar.eq_1 ( And.intro @zbf.eq_1 ( And.intro @gApp.eq_1 ( And.intro @gExt.eq_1 ( And.intro @gAug.eq_1 ( And.intro @gYes.eq_1 ( And.intro @zcz.eq_1 ( And.intro @gZip.eq_1 ( And.intro @zs6.eq_1 ( And.intro @zag.eq_1 ( And.intro @yai.eq_1 (@ya2.eq_1)))))))))))))))))))))))))))))))))))))))))))))))))))))))))))))))))))))))))))))))))))))))))))))))))))))))))))))))))))))))))))))))))))))))))))))))))))))))))))))
end L2
local macro_rules | `(tactic| simp! [$xs,*])=>`(tactic| simp only [L2.evA,L2.tgSet,L2.keyW,L2.oNeg,L2.oLen,L2.setAll,List.replicate,List.contains,eq_self,Nat.reduceAdd,Nat.reduceSub,Nat.reduceLT,Nat.reduceLeDiff,reduceIte,reduceCtorEq,Nat.reduceEqDiff,Nat.reduceBEq,↓reduceIte,Int.reduceEq,Int.reduceLE,Int.reduceLT,Int.reduceAdd,Int.reduceSub,Int.reduceMul,Int.reduceNeg,$xs,*])
namespace L2
open PySem PySem.Spec PyProof.Rows
noncomputable def zsi (Ψ:Str->Fn):GE:=zbq [Zb,Zb,Za 3] (.nm 1) (zau (gVar 2)) gYes (gOp2 oAdd (gVarA 1) (gArg (zcb (gCns #v[2,4] gA0))))
noncomputable def zrq (Ψ:Str->Fn):GS:=(gSet [] 2 (gOp2 oAdd (gVarA 2) (gArg (zsi Ψ))))
noncomputable def zua (Ψ:Str->Fn):GS:=gFor [] (.nm 3) (zc9 (gCns (gVarA 0) gA0)) (zrq Ψ)
noncomputable def zup (Ψ:Str->Fn):GE:=zbq #v[8,19] (.nm 1) (zau (gVar 2)) (zak (gOp2 (oI yes2 λi j=>.bl (decide (i<=j))) (gArg (gOpN oLen #v[7,14])) (gVarA 2))) (gVar 1)
noncomputable def zpa (Ψ:Str->Fn):GS:=(gSeq (gSet [] 2 (za0 (gCns (gArg (zcb gA0)) gA0))) (gSeq (zua Ψ) (gRet (zq0 (zcb (gCns #v[0,10] #v[1,17])) (gArg (zup Ψ))))))
noncomputable def zfb (Ψ:Str->Fn):GE:=zbq [Zb,Zb,Za 2] (.nm 1) (zau (gVar 1)) gYes (gOp2 oEq (gArg #v[9,12]) #v[1])
noncomputable def zh0 (Ψ:Str->Fn):GE:=zbq [Zb,Zb,Za 3] (.nm 1) (zau (gVar 1)) (zak (gOpN (oBl λbs=>bs.all id) (gCns (gArg (zfb Ψ)) gA0))) (gVar 1)
noncomputable def ze3 (Ψ:Str->Fn):GS:=(gSeq (gSet [] 4 (zh0 Ψ)) (zee (gApp 2 (gOp2 #v[0,0,2] #v[8,15] #v[2]))))
noncomputable def zhk (Ψ:Str->Fn):GS:=gFor [] (.nm 3) (zc9 (gCns #v[4,12] gA0)) (ze3 Ψ)
noncomputable def zlg (Ψ:Str->Fn):GS:=(gSeq (gSet [] 2 (za0 gA0)) (gSeq (zhk Ψ) (zcz [] 2)))
noncomputable def zih (Ψ:Str->Fn):GE:=zbq [Zb,Zb,Zb] (.tp [1,2]) (gZip (gVar 3) #v[2,12]) (zak (gOp2 oEq (gVarA 2) #v[1])) (gVar 1)
noncomputable def zuy (Ψ:Str->Fn):GS:=(gSeq (gSet [0] 3 (zaa [Zc,Zc] (Ψ "_law_terms") #v[2,14])) (gRet (gOpN zfp (gCns (gArg (zih Ψ)) gA0))))
noncomputable def tmW (t:List Nat):W:=.tup (t.map λl=>.int (l:Nat))
noncomputable def ztg:Nat->Nat->Nat->Nat->List (List Nat)
 |_,_,_,0=>[[]]
 |0,_,_,_+1=>[]
 |f+1,l,m,k+1=>(if l<m then (ztg f (l+1) m k).map (l :: ·)++ztg f (l+1) m (k+1) else [])
noncomputable def zaf (m most:Nat):List (List Nat):=(List.range (most+1)).flatMap λk=>ztg (m+1) 0 m k
noncomputable def zda (Φ:Fn):Prop:=∀m most:Nat,m<=6->most<=6->Φ [.int m,.int most]=Za ([.int m,.int most],(.lst ((zaf m most).map tmW),Zd))
noncomputable def tmP (Ψ:Str->Fn) (m k:Nat):Prop:=zag [Zc,Zc] 4 (zpa Ψ) [.int (m:Int),.int (k:Int)]=Za ([.int (m:Int),.int (k:Int)],(.lst ((zaf m k).map tmW),Zd))
theorem tm0 (Ψ:Str->Fn):tmP Ψ 0 0/\tmP Ψ 0 1/\tmP Ψ 0 2/\tmP Ψ 0 3/\tmP Ψ 0 4/\tmP Ψ 0 5/\tmP Ψ 0 6:=by
 unfold tmP;refine⟨?_,?_,?_,?_,?_,?_,?_⟩<;>kernel_rfl
theorem tm1 (Ψ:Str->Fn):tmP Ψ 1 0/\tmP Ψ 1 1/\tmP Ψ 1 2/\tmP Ψ 1 3/\tmP Ψ 1 4/\tmP Ψ 1 5/\tmP Ψ 1 6:=by
 unfold tmP;refine⟨?_,?_,?_,?_,?_,?_,?_⟩<;>kernel_rfl
theorem tm2 (Ψ:Str->Fn):tmP Ψ 2 0/\tmP Ψ 2 1/\tmP Ψ 2 2/\tmP Ψ 2 3/\tmP Ψ 2 4/\tmP Ψ 2 5/\tmP Ψ 2 6:=by
 unfold tmP;refine⟨?_,?_,?_,?_,?_,?_,?_⟩<;>kernel_rfl
theorem tm3 (Ψ:Str->Fn):tmP Ψ 3 0/\tmP Ψ 3 1/\tmP Ψ 3 2/\tmP Ψ 3 3/\tmP Ψ 3 4/\tmP Ψ 3 5/\tmP Ψ 3 6:=by
 unfold tmP;refine⟨?_,?_,?_,?_,?_,?_,?_⟩<;>kernel_rfl
theorem tm4 (Ψ:Str->Fn):tmP Ψ 4 0/\tmP Ψ 4 1/\tmP Ψ 4 2/\tmP Ψ 4 3/\tmP Ψ 4 4/\tmP Ψ 4 5/\tmP Ψ 4 6:=by
 unfold tmP;refine⟨?_,?_,?_,?_,?_,?_,?_⟩<;>kernel_rfl
theorem tm5 (Ψ:Str->Fn):tmP Ψ 5 0/\tmP Ψ 5 1/\tmP Ψ 5 2/\tmP Ψ 5 3/\tmP Ψ 5 4/\tmP Ψ 5 5/\tmP Ψ 5 6:=by
 unfold tmP;refine⟨?_,?_,?_,?_,?_,?_,?_⟩<;>kernel_rfl
theorem tm6 (Ψ:Str->Fn):tmP Ψ 6 0/\tmP Ψ 6 1/\tmP Ψ 6 2/\tmP Ψ 6 3/\tmP Ψ 6 4/\tmP Ψ 6 5/\tmP Ψ 6 6:=by
 unfold tmP;refine⟨?_,?_,?_,?_,?_,?_,?_⟩<;>kernel_rfl
theorem zw3 (Ψ:Str->Fn):zda (zag [Zc,Zc] 4 (zpa Ψ)):=λm k b a=>by
 match m,k,b,a with
 |0,0,_,_=>exact (tm0 Ψ).1
 |0,1,_,_=>exact (tm0 Ψ).2.1
 |0,2,_,_=>exact (tm0 Ψ).2.2.1
 |0,3,_,_=>exact (tm0 Ψ).2.2.2.1
 |0,4,_,_=>exact (tm0 Ψ).2.2.2.2.1
 |0,5,_,_=>exact (tm0 Ψ).2.2.2.2.2.1
 |0,6,_,_=>exact (tm0 Ψ).2.2.2.2.2.2
 |1,0,_,_=>exact (tm1 Ψ).1
 |1,1,_,_=>exact (tm1 Ψ).2.1
 |1,2,_,_=>exact (tm1 Ψ).2.2.1
 |1,3,_,_=>exact (tm1 Ψ).2.2.2.1
 |1,4,_,_=>exact (tm1 Ψ).2.2.2.2.1
 |1,5,_,_=>exact (tm1 Ψ).2.2.2.2.2.1
 |1,6,_,_=>exact (tm1 Ψ).2.2.2.2.2.2
 |2,0,_,_=>exact (tm2 Ψ).1
 |2,1,_,_=>exact (tm2 Ψ).2.1
 |2,2,_,_=>exact (tm2 Ψ).2.2.1
 |2,3,_,_=>exact (tm2 Ψ).2.2.2.1
 |2,4,_,_=>exact (tm2 Ψ).2.2.2.2.1
 |2,5,_,_=>exact (tm2 Ψ).2.2.2.2.2.1
 |2,6,_,_=>exact (tm2 Ψ).2.2.2.2.2.2
 |3,0,_,_=>exact (tm3 Ψ).1
 |3,1,_,_=>exact (tm3 Ψ).2.1
 |3,2,_,_=>exact (tm3 Ψ).2.2.1
 |3,3,_,_=>exact (tm3 Ψ).2.2.2.1
 |3,4,_,_=>exact (tm3 Ψ).2.2.2.2.1
 |3,5,_,_=>exact (tm3 Ψ).2.2.2.2.2.1
 |3,6,_,_=>exact (tm3 Ψ).2.2.2.2.2.2
 |4,0,_,_=>exact (tm4 Ψ).1
 |4,1,_,_=>exact (tm4 Ψ).2.1
 |4,2,_,_=>exact (tm4 Ψ).2.2.1
 |4,3,_,_=>exact (tm4 Ψ).2.2.2.1
 |4,4,_,_=>exact (tm4 Ψ).2.2.2.2.1
 |4,5,_,_=>exact (tm4 Ψ).2.2.2.2.2.1
 |4,6,_,_=>exact (tm4 Ψ).2.2.2.2.2.2
 |5,0,_,_=>exact (tm5 Ψ).1
 |5,1,_,_=>exact (tm5 Ψ).2.1
 |5,2,_,_=>exact (tm5 Ψ).2.2.1
 |5,3,_,_=>exact (tm5 Ψ).2.2.2.1
 |5,4,_,_=>exact (tm5 Ψ).2.2.2.2.1
 |5,5,_,_=>exact (tm5 Ψ).2.2.2.2.2.1
 |5,6,_,_=>exact (tm5 Ψ).2.2.2.2.2.2
 |6,0,_,_=>exact (tm6 Ψ).1
 |6,1,_,_=>exact (tm6 Ψ).2.1
 |6,2,_,_=>exact (tm6 Ψ).2.2.1
 |6,3,_,_=>exact (tm6 Ψ).2.2.2.1
 |6,4,_,_=>exact (tm6 Ψ).2.2.2.2.1
 |6,5,_,_=>exact (tm6 Ψ).2.2.2.2.2.1
 |6,6,_,_=>exact (tm6 Ψ).2.2.2.2.2.2
 |m+7,_,h,_=>symm
 |_,k+7,_,h=>symm
theorem z1r {α:Type}{ts:List α} (f:α->W) (p:α->Bool) (g:α->W) (A:it en=Za (e0,ts.map f)) (B:ts.length<=1000) (r:zb0 cap=Zd) (m:(capKeep cap).contains 1=Zc) (y:ze7 cap e0=Zb::Zb::xs) (z:∀v0 v1,zax cap e0 (v0::v1::xs)=e0)
  (n:∀v0 a,a∈ts->∃u,tc (v0::#v[f a,6]::xs)=Za (v0::u::xs,p a)/\(p a=Zd->∃j b,te (v0::u::xs)=Za (v0::j::xs,(g a,b)))) :
  zbq cap (.nm 1) it tc te en=Za (e0,(.lst ((ts.filter p).map g),Zd)):=by
 have C:(1000:Nat)<=sizeLine:=by decide
 obtain ⟨x,out,k,e⟩:=zfx (cap:=cap) (T:=.nm 1) (tc:=tc) (te:=te) (λi c l=>(∃v0 v1,c=v0::v1::xs)/\l=((ts.take i).filter p).map g) A r (by rw [Ad];symm) ⟨⟨_,_,y⟩,rfl⟩
  (λi w c l h e=>by
   obtain⟨⟨v0,v1,rfl⟩,rfl⟩:=e;rw[Am] at h;cases ha:ts[i]? with
   |none=>rw[ha] at h;exact noSome h
   | some a =>
    rw[ha] at h;obtain rfl:=sI h;obtain⟨u,d,s⟩:=n v0 a (Bp ha);have t:ts.take (i+1)=ts.take i++[a]:=by rw[Dt,ha];rfl
    refine⟨v0::#v[f a,6]::xs,?_,?_⟩
    ·show (if (capKeep cap).contains 1 || !decide (1<(v0::v1::xs).length) then Zb else _)=_
     rw[m,Ah (by rw[Bd,Bd];symm)]
     rfl
    ·cases q:p a with
     | true =>
      obtain⟨j,b,o⟩:=s q;rw[q] at d;refine .inl ⟨_,_,_,d,o,⟨_,_,rfl⟩,?_⟩;rw[t,Du,Dn,List.filter_cons_of_pos q];rfl
     | false =>
      rw[q] at d;refine .inr ⟨_,d,⟨_,_,rfl⟩,?_⟩;rw[t,Du,List.filter_cons_of_neg (by rw[q];decide),List.filter_nil,Bm])
 obtain⟨⟨v0,v1,rfl⟩,rfl⟩:=e;rw[z,Ad,Db] at k;exact k
theorem rng1_n (h:a en=Za (e1,.inl (.int (n:Nat))))(c:n<=1000000):zc9 (gCns a gA0) en=Za (e1,rngW 0 n):=by
 have r:zdp (n:Int)=Zd:=by
  unfold zdp;rw[Ah (by symm),Ah (by symm)];rfl
 have b:gCns a gA0 en=Za (e1,[.inl (.int (n:Nat))]):=by unfold gCns;rw[h];rfl
 have:=z19 b rfl r;rw[Dl] at this;exact this
theorem pow1 {l:Nat}(h:l<=100):cPow 1 (l:Int)=Zd:=by
 unfold cPow;rw[Ah (by symm),Ah (by symm)];rfl
theorem one_mul_pow (l:Nat):(1:Int)*2^l=((2^l:Nat):Int):=by rw[Int.one_mul];norm_cast
theorem zyj (l:Nat):(((2^l:Nat):Int)).natAbs.log2=l:=by
 rw[Int.natAbs_natCast];exact Nat.log2_two_pow
theorem divP (h:l<=100):cDiv p ((2^l:Nat):Int)=Zd:=by
 unfold cDiv;have:0<2^l:=Fv (by decide);rw[Ah (by symm),Ah (by rw[zyj];symm)];rfl
theorem rngN {n:Nat}(h:n<=1000000):zdp (n:Int)=Zd:=by
 unfold zdp;rw[Ah (by symm),Ah (by symm)];rfl
noncomputable def hasT (t:List Nat) (p:Nat):Bool:=t.all λl=>decide (p/2^l%2=1)
noncomputable def valF (ts:List (List Nat)) (p:Nat):Int:=(((ts.filter λt=>hasT t p).length%2:Nat):Int)
theorem c1v (c:∀l∈t,l<64) (j:t.length<=64):zfb Ψ #v[3,18]=Za (#v[3,18],(.lst ((t.map λl=>decide (p/2^l%2=1)).map W.bl),Zd)):=by
 unfold zfb;refine zn6 (xs:=[#v[(p:Nat),0]]) (e0:=[v0,#v[tmW t,6],#v[(p:Nat),0]]) (ws:=t.map λl=>.int (l:Nat)) (by unfold tmW;simp! []) (by rw[Ad];symm) (by rw[Ad,Ad,Ad]) rfl rfl rfl (λ_ _=>rfl) λi v0 w r a b=>?_;rw[Am] at a;rw[Am,Am] at b;cases ha:t[i]? with
 |none=>rw[ha] at a;exact noSome a
 | some l =>
  rw [ha] at a b;obtain rfl:=sI a;obtain rfl:=sI b;have g:=c l (Bp ha);have e:=pow1 (l:=l) (by symm);have d:=divP (p:=(p:Int)) (l:=l) (by symm);have f:((p:Int)/((2^l:Nat):Int)%2=1)=(p/2^l%2=1):=by
   rw[<-Int.natCast_ediv];apply propext;constructor<;>intro h<;>symm
  refine⟨#v[(l:Nat),0],Zc,?_⟩;simp! [e,one_mul_pow,d,f]
theorem zb9 (h:m<=6):2^m<=64:=Cm (by decide) h
theorem i3v (h:m<=6):zc9 (gCns #v[4,12] gA0) [#v[(m:Nat),0],b,c,d,e]=Za ([#v[(m:Nat),0],b,c,d,e],rngW 0 (2^m)):=by
 have p:=zb9 h;have a:=pow1 (l:=m) (by symm);refine rng1_n ?_ (by symm);simp! [a,one_mul_pow]
theorem z5d {i:Nat}{w:W}(h:(zipW xs ys)[i]?=Za w):∃x y,xs[i]?=Za x/\ys[i]?=Za y/\w=.tup [x,y]:=by
 have l:=(Ag.mp h).1;rw[zek] at l;have a:xs[i]?=Za xs[i]:=Ac (by symm);have b:ys[i]?=Za ys[i]:=Ac (by symm);rw[zie a b] at h;obtain rfl:=sI h;exact⟨_,_,a,b,rfl⟩
noncomputable def zlr (Φ:Fn):Prop:=∀(k:Nat) (a:W) (m most:Nat),HS k a->k+100<big->m<=6->most<=6->∃(s:W) (t:List (List Nat)),Φ [a,.int (m:Nat),.int (most:Nat)]=Za ([s,.int (m:Nat),.int (most:Nat)],(.tup (t.map tmW),Zc))/\HS (k+66) s/\t.Sublist (zaf m most)
theorem zsq:∀m most:Fin 7,(zaf m.val most.val).length<=64/\∀t∈zaf m.val most.val,t.length<=6/\∀l∈t,l<m.val:=by decide +kernel
theorem zeq (a:m<=6)(h:most<=6):(zaf m most).length<=64/\∀t∈zaf m most,t.length<=6/\∀l∈t,l<m:=zsq ⟨m,by symm⟩ ⟨most,by symm⟩
theorem z4i {Ψ:Str->Fn} (I:zda (Ψ "_law_terms")) (G:zem (Ψ "_law_bits")):zlr (zag [Zd,Zc,Zc] 4 (zuy Ψ)):=λk st m most B C l p=>by
 have P:(1000:Nat)<=sizeLine:=by decide
 obtain⟨O,_⟩:=zeq l p;have D:=I m most l p;nofun;obtain⟨st',e,K,J,N,L⟩:=G k st ((zaf m most).length:Nat) B C (by symm) (by symm);ac_rfl;have M:e.length=(zaf m most).length:=by symm
 have E:∃a:List (List Nat),zih Ψ #v[6,11]=Za (#v[4,11],(.lst (a.map tmW),Zd))/\a.Sublist (zaf m most):=by
  unfold zih;obtain ⟨H,out,F,g⟩:=zfx (cap:=[Zb,Zb,Zb]) (T:=.tp [1,2]) (tc:=zak (gOp2 oEq (gVarA 2) (gArg (gC (.int 1))))) (te:=gVar 1) (it:=gZip (gVar 3) #v[2,12]) (en:=#v[6,11]) (e0:=#v[4,11]) (ws:=zipW ((zaf m most).map tmW) (e.map W.int)) (λi c s=>(∃v0 f j,c=[v0,f,j])/\∃a:List (List Nat),s=a.map tmW/\a.Sublist ((zaf m most).take i))
   (by simp! [Ad,K]) rfl (by rw [zek,Ad,Ad];symm) ⟨⟨_,_,_,rfl⟩,[],rfl,List.nil_sublist _⟩ λi w c s z g=>by
    nofun;obtain⟨⟨v0,f,j,rfl⟩,a,rfl,h⟩:=g;obtain⟨x,y,d,b,rfl⟩:=z5d z;ac_rfl;rw[Am] at d b;cases ha:(zaf m most)[i]? with
    |none=>rw[ha] at d;exact noSome d
    | some t =>
     cases hb:e[i]? with
     |none=>rw[hb] at b;exact noSome b
     | some n =>
      rw[ha] at d;rw[hb] at b;obtain rfl:=sI d;obtain rfl:=sI b;have o:(zaf m most).take (i+1)=(zaf m most).take i++[t]:=by rw[Dt,ha];rfl
      refine⟨#v[5,19],rfl,?_⟩;have r:zak (gOp2 oEq (gVarA 2) #v[1]) #v[5,19]=Za (#v[5,19],decide (n=1)):=by simp! []
      by_cases q:n=1
      ·refine .inl ⟨#v[8,14], #v[8,14],(tmW t,Zc), ?_,rfl,⟨_,_,_,rfl⟩,a ++ [t], ?_, ?_⟩
       ·rw[r,Ah q]
       ·rw[Dn];rfl
       ·rw[o];exact h.append (.refl _)
      ·refine .inr ⟨#v[8,14], ?_,⟨_,_,_,rfl⟩,a,rfl, ?_⟩
       ·rw[r,Az q]
       ·rw[o];exact h.trans (List.sublist_append_left _ _)
  nofun;obtain⟨⟨v0,f,j,rfl⟩,a,rfl,h⟩:=g;ac_rfl;exact⟨a,F,h.trans (Ew _ _)⟩
 obtain⟨a,u,sub⟩:=E;refine⟨st',a,?_,J,sub⟩;have A:zfp [.lst (a.map tmW)]=#v[(a.map tmW),3]:=rfl;unfold zuy;simp! [D,u,A]
noncomputable def z8f (n:Int):Prop:=n.natAbs.log2<1920
theorem zzv (h:n.natAbs<2^k)(a:k<=1919):z8f n:=by
 unfold z8f;by_cases z:n.natAbs=0
 ·rw[z];decide
 ·have:=(Nat.log2_lt z).mpr h;symm
theorem and1 (h:0<=a):Builtin.bitAnd a 1=a%2:=by
 have b:Bit (a%2):=by unfold Bit;symm
 have s:=zd7 (a:=a/2) (b:=0) (by symm) (Int.le_refl 0) b (show Bit 1 from .inr rfl);rw[bitAnd_zero] at s;have e:(2*0+1:Int)=1:=rfl;have c:2*(a/2)+a%2=a:=by symm
 rw[e,c] at s;rw[s];symm
theorem zui (h:Bits xs)(p:Nat):zad xs/2^p%2=xs.getD p 0:=by
 rw[<-zke p xs h,and1 (Int.ediv_nonneg (zfa h) (Int.pow_nonneg (by decide)))]
theorem mul2:oMult (.int 2) (.int b)=#v[(2*b),0]:=by
 have c:cMul 2 b=Zd:=by unfold cMul;rw[Cb];exact .inl (by decide)
 show oOr #v[0,19] _ (.int 2) (.int b)=_;have e:oI cMul (λi j=>.int (i*j)) (.int 2) (.int b)=#v[(2*b),0]:=by rw[oI_e,if_pos c]
 unfold oOr;rw[e]
structure ExcO (h:Heap) (H:Hp) (h0:Heap) (a:Zh) (cls:Ze):Prop where
 ex:∃oe vs a0,h.get? a=Za oe/\oe.cls=cls/\oe.data=.fields vs/\vs[0]?=Za a0/\vs[1]?=Za .none
 free:H a=Zb
 new:h0.get? a=Zb
structure ExcF (h:Heap) (H:Hp) (h0:Heap) (a:Zh) (cls:Ze):Prop where
 ex:∃oe vs a0 T oT ts,h.get? a=Za oe/\oe.cls=cls/\oe.data=.fields vs/\vs[0]?=Za a0/\vs[1]?=Za (.ref T)/\T≠a/\h.get? T=Za oT/\oT.data=.fields ts/\ts[3]?=Za .none/\H T=Zb/\h0.get? T=Zb
 free:H a=Zb
 new:h0.get? a=Zb
structure Passed (fs:List Zh) (H:Hp) (h0 h h':Heap):Prop where
 keep:∀b o,h.get? b=Za o->b ∉ fs->(H b≠Zb\/h0.get? b≠Zb)->h'.get? b=Za o
 slot:∀b o,h.get? b=Za o->b∈fs->∃sl,h'.get? b=Za { o with slots:=sl }
theorem in_hide (e:(PySem.W.hideAll h l).get? b=Zb)(a:b ∉ l):h.get? b=Zb:=by
 cases q:h.get? b with
 |none=>rfl
 |some o=>rw[Gp l q a] at e;exact noSome e.symm
theorem zdt (h:env∈l)(e:env.frame=Za a):a∈frs l:=Cn.mpr ⟨env,h,e⟩
theorem zbh.there (x:zbh P w H h a o):∃u,h.get? a=Za u:=by
 cases o with
 |lst b=>obtain⟨_,_,_,_,e⟩:=x;exact⟨_,e⟩
 |tup b=>obtain⟨_,_,_,_,e,_⟩:=x;exact⟨_,e⟩
 |dK kvs=>obtain⟨_,_,_,_,o,_,_,e,_⟩:=x;exact⟨_,e⟩
 |dT kvs=>obtain⟨_,_,_,_,o,_,_,e,_⟩:=x;exact⟨_,e⟩
 |set S n=>obtain⟨o,_,_,_,e,_⟩:=x;exact⟨_,e⟩
 |ins C d fs=>obtain⟨_,_,_,e,_⟩:=x;exact⟨_,e⟩
 |own y=>obtain⟨_,e⟩:=x;exact⟨_,e⟩
 |xd fs=>obtain⟨_,⟨_,_,_,e,_⟩,_⟩:=x;exact⟨_,e⟩
 |rng l c=>obtain⟨_,_,_,e⟩:=x;exact⟨_,e⟩
 |frz g u=>obtain⟨e,_⟩:=x;exact⟨_,e⟩
 |tbl p=>exact⟨_,(show h.get? a=Za _ from x)⟩
 |met f y=>exact⟨_,(show h.get? a=Za _ from x)⟩
 |ext φ=>obtain⟨_,⟨_,e⟩,_⟩:=x;exact⟨_,e⟩
section
variable {M:Model}{A:Around}{E:Ze->Zf->Prop}{P:Program}{w:World}{H:Hp}{h0 base:Heap}{s:Zf}{env:Env}{outer:List Env}{L a:Zh}{cls:Ze}{Q:Unit->Zf->Prop}
theorem z03 {l:List Env}{c:List Zh}{h':Heap}{m:Ze} (j:HOk P w H s.heap) (k:∀b o,h0.get? b=Za o->∃i,s.heap.get? b=Za i) (Q:s.heap.FunFrames base l) (y:H a=Zb) (p:h0.get? a=Zb) (sub:∀b∈c,b=a\/b∈frs l\/(H b=Zb/\h0.get? b=Zb/\∃o vs,s.heap.get? b=Za o/\o.data=.fields vs)) (X:∀b∈frs l,b∈c) (x:Heap.LeftW (PySem.W.hideAll s.heap c) l a cls m s.heap h'):Passed (frs l) H h0 s.heap h'/\ExcF h' H h0 a cls:=by
 obtain ⟨G,V,I,B⟩:=x;obtain ⟨L,vs,T,oT,N,O,⟨J,M⟩,D,F,E,ne,v,f,U⟩:=I;have W:T ∉ frs l:=λz=>by
  obtain⟨_,o,h,d⟩:=V.mem z;rw[v] at h;obtain rfl:=sI h;exact d _ f
 have A:H T=Zb/\h0.get? T=Zb:=by
  by_cases r:T∈c
  ·rcases sub T r with z | z | z
   ·exact absurd z ne
   ·exact absurd z W
   ·exact⟨z.1,z.2.1⟩
  ·have e:=in_hide E r
   refine⟨?_,?_⟩
   ·cases q:H T with
    |none=>rfl
    | some u =>
     obtain⟨o,h⟩:=(j T u q).there;rw[e] at h;exact noSome h
   ·cases q:h0.get? T with
    |none=>rfl
    | some o =>
     obtain⟨i,h⟩:=k T o q;rw[e] at h;exact noSome h
 refine⟨⟨λb o g R n=>?_,λb o g C=>?_⟩,⟨⟨L,vs,m,T,oT,N,O,J,D,M,F,ne,v,f,U,A.1,A.2⟩,y,p⟩⟩
 ·refine G b o (Gp c g λz => ?_)
  rcases sub b z with q|q|⟨K,S,_⟩
  ·subst q
   rcases n with t|t
   ·exact t y
   ·exact t p
  ·exact R q
  ·rcases n with t | t
   ·exact t K
   ·exact t S
 ·obtain ⟨_,i, h,d⟩:=Q.mem C
  rw[g] at h;obtain rfl:=sI h;exact B b o g d
theorem z1a (g:HOk P w H s.heap) (i:∀b o,h0.get? b=Za o->∃k,s.heap.get? b=Za k) (c:A.frames=Za (env::outer)) (j:s.heap.FunFrames base (env::outer)) (v:env.frame=Za L) (x:ExcO s.heap H h0 a cls)
  (h:∀h',Passed (frs (env::outer)) H h0 s.heap h'->ExcF h' H h0 a cls->Q () { s with heap:=h' }):wpAny M A (leaving env (.ref a)) Q E s:=by
 obtain⟨⟨F,G,C,d,r,l,t,n⟩,u,B⟩:=x;subst r;refine wpAny_leaving_firstW (base:=PySem.W.hideAll s.heap (a::frs (env::outer))) c (PySem.W.funFrames_hide j λD d b y=>Ai _ (zdt d y)) v d (λb o e=>Gx _ e) (Dx _ Au) l n t λh' m=>?_;obtain⟨p,q⟩:=z03 g i j u B (λb f=>(Ak.mp f).elim .inl λz=>.inr (.inl z)) (λb f=>Ai _ f) m;exact h h' p q
theorem z4q (i:HOk P w H s.heap) (j:∀b o,h0.get? b=Za o->∃m,s.heap.get? b=Za m) (d:A.frames=Za (env::outer)) (l:s.heap.FunFrames base (env::outer)) (F:env.frame=Za L) (x:ExcF s.heap H h0 a cls)
  (h:∀h',Passed (frs (env::outer)) H h0 s.heap h'->ExcF h' H h0 a cls->Q () { s with heap:=h' }):wpAny M A (leaving env (.ref a)) Q E s:=by
 obtain⟨⟨y,N,O,T,oT,C,f,v,n,B,t,ne,k,c,J,u,G⟩,D,K⟩:=x;subst v;refine wpAny_leaving_nextW (base:=PySem.W.hideAll s.heap (a::T::frs (env::outer))) d (PySem.W.funFrames_hide l λR f b I=>Ai _ (Ai _ (zdt f I))) F ⟨y,N,T,oT,C,f,⟨rfl,B⟩,n,t,Dx _ (Ai _ Au),ne,k,c,J⟩ (λb o e=>Gx _ e) (Dx _ Au) λh' r=>?_;obtain⟨p,q⟩:=z03 i j l D K (λb g=>(Ak.mp g).elim .inl λz=>(Ak.mp z).elim (λz=>by subst z;exact .inr (.inr ⟨u,G,_,_,k,c⟩)) λz=>.inr (.inl z)) (λb g=>Ai _ (Ai _ g)) r;exact h h' p q
end
theorem ExcF.mono (x:ExcF h H h0 a cls)(k:∀b,h0.get? b=Zb->h1.get? b=Zb):ExcF h H h1 a cls:=by
 obtain⟨⟨o,v,g,T,oT,t,j,d,e,z,p,ne,l,c,f,m,q⟩,i,n⟩:=x;exact⟨⟨o,v,g,T,oT,t,j,d,e,z,p,ne,l,c,f,m,k _ q⟩,i,k _ n⟩
theorem zn0 {h h' base:Heap}:∀{l:List Env},(∀b∈frs l,∀o,h.get? b=Za o->∃s,h'.get? b=Za { o with slots:=s })->h.FunFrames base l->h'.FunFrames base l
 |[],_,_=>trivial
 | env::l,k,⟨d,⟨L,o,a,i,m,c⟩,n⟩=>by
  obtain ⟨s,e⟩:=k L (zdt Au a) o m;exact ⟨d,⟨L,_,a,i,e,c⟩,zn0 (λb g=>k b (by
   obtain⟨p,f,j⟩:=Cn.mp g;exact zdt (Ai _ f) j)) n⟩
noncomputable def CXR (P:Program) (w:World):CXT:=λouter H s E e b=>∃(c:Hp) (a:Zh) (cls:Ze),e=.ref a/\b.os=s.os/\AllBare b.gens/\Un (frs outer) [] H c s.heap b.heap/\HOk P w c b.heap/\ExcF b.heap c s.heap a cls/\E cls Zb c
structure XOk (X:Cx) (E:XK):Prop where
 pass:zoi (CXR X.prog X.w) X E
 made:∀(pins:List (Zh×Obj)) (σ:St) (H:Hp) (s:Zf) (a:Zh) (cls:Ze),Inv X pins σ H s->ExcO s.heap H X.s₀.heap a cls->E cls Zb H->X.xe (.ref a) s
theorem zhp (p:Passed fs H h0 h h')(a:HOk P w H h)(e:∀b∈fs,H b=Zb):HOk P w H h':=λb u q =>
 (a b u q).stay (λc v d r=>by
  have t:H c≠Zb:=by
   rcases d with rfl|d
   ·rw[q];exact λz=>nomatch z
   ·rw[d];exact λz=>nomatch z
  exact p.keep c v r (λz=>t (e c z)) (.inl t)) (λ_ r=>r) λ_ _ r=>r
section
variable {K:Zg}
theorem zkx {t s':Zf} (I:Inv (cxOf (CXR P w) P w K mg base N qual scope f j A outer s H E) pins σ H1 t) (R:s'.os=t.os) (bare:AllBare s'.gens) (un:Un (frs (envOfC qual scope s.heap.objs.size f j::outer)) [] H1 H' t.heap s'.heap) (G:HOk P w H' s'.heap)
  (p:Passed (frs (envOfC qual scope s.heap.objs.size f j::outer)) H' s.heap s'.heap h') (x:ExcF h' H' s.heap a cls) (q:E cls Zb H'):CXR P w outer H s E (.ref a) { s' with heap:=h' }:=by
 have g:∀b∈frs outer,b∈frs (envOfC qual scope s.heap.objs.size f j::outer):=λb i=>by
  obtain⟨M,l,r⟩:=Cn.mp i;exact zdt (Ai _ l) r
 have d:∀b o,s.heap.get? b=Za o->b ∉ frs outer->b ∉ frs (envOfC qual scope s.heap.objs.size f j::outer):=λb o e m z=>by
  obtain⟨M,l,r⟩:=Cn.mp z;rcases Ak.mp l with rfl|l
  ·have:s.heap.objs.size=b:=sI r;have lt:=Ao e;rw[this] at lt;exact absurd lt (Ce _)
  ·exact m (zdt l r)
 have T:∀b∈frs (envOfC qual scope s.heap.objs.size f j::outer),H' b=Zb:=λb i=>by
  obtain⟨_,o,S,_⟩:=I.stack.mem i;exact un.free b o S (I.stkFree b i) (by simp)
 have c:Un (frs outer) [] H H1 s.heap t.heap:=I.base;have F:∀b o,s.heap.get? b=Za o->∃L,h'.get? b=Za L:=λb o e=>by
  obtain⟨C,h⟩:=c.there b o e (by simp);obtain⟨D,k⟩:=un.there b C h (by simp);by_cases i:b∈frs (envOfC qual scope s.heap.objs.size f j::outer)
  ·obtain⟨W,B⟩:=p.slot b D k i;exact⟨_,B⟩
  ·exact⟨D,p.keep b D k i (.inr (by rw[e];exact λz=>nomatch z))⟩
 refine⟨H',a,cls,rfl,R.trans I.os,bare,⟨λb o e n m _=>?_,λb o e n y _=>?_,λb o e n _=>?_,λb o e _=>F b o e,λb J e=>un.tups b J (c.tups b J e),λb o u e=>un.frzs b o u (c.frzs b o u e),λb O e=>?_⟩,zhp p G T,x,q⟩
 ·exact p.keep b o (un.keep b o (c.keep b o e n m (by simp)) (c.free b o e n (by simp)) (d b o e m) (by simp)) (d b o e m) (.inr (by rw[e];exact λz=>nomatch z))
 ·obtain⟨W,h⟩:=c.slot b o e n y (by simp);obtain⟨Q,k⟩:=un.slot b _ h (c.free b o e n (by simp)) (g b y) (by simp);obtain⟨v,B⟩:=p.slot b _ k (g b y);exact⟨v,B⟩
 ·obtain⟨C,h⟩:=c.there b o e (by simp);exact un.free b C h (c.free b o e n (by simp)) (by simp)
 ·obtain⟨U,h⟩:=c.tbls b O e;obtain⟨V,k⟩:=un.tbls b _ h;exact⟨U++V,by rw[k,Array.append_assoc]⟩
theorem z4r (l:(envOfC qual scope s.heap.objs.size f cd).frame=Za s.heap.objs.size:=by rfl):XOk (cxOf (CXR P w) P w K mg base N qual scope f cd A outer s H E) E where
 pass:=λpins σ d j e B I h=>by
  obtain⟨v,a,cls,rfl,t,bare,un,c,r,q⟩:=h;have un:Un (frs (envOfC qual scope s.heap.objs.size f cd::outer)) [] d v j.heap B.heap:=un;have g:Un (frs outer) [] H d s.heap j.heap:=I.base;refine z4q (h0:=s.heap) (base:=base) (outer:=outer) c (λb o e=>?_) I.ok.frames (zn0 (λb m o u=>un.slot b o u (I.stkFree b m) m (by simp)) I.stack) l (r.mono λb n=>?_) λy p x=>zkx I t bare un c p x q
  ·obtain⟨k,i⟩:=g.there b o e (by simp);exact un.there b k i (by simp)
  ·cases z:s.heap.get? b with
   |none=>rfl
   |some o=>obtain⟨k,i⟩:=g.there b o z (by simp);rw[n] at i;exact noSome i
 made:=λpins σ d j a cls I x q=>by
  have g:Un (frs outer) [] H d s.heap j.heap:=I.base;exact z1a (h0:=s.heap) (base:=base) (outer:=outer) I.hok (λb o e=>g.there b o e (by simp)) I.ok.frames I.stack l x λy p x=>zkx I rfl I.bare .refl I.hok p x q
end
noncomputable def vmB:List Ze:=[.type "ValueError",.type "Exception",.type "BaseException",.type "object"]
noncomputable def vNew:String := "ValueError.__new__"
structure XCls (K:Zg) (mg:Str->Option Ze) (x:Str) (C:Zh):Prop where
 bound:mg x=Za (.ref C)
 q:PySem.W.excIn K C vmB vNew=Zd
theorem z3y {K:Zg}(z:PySem.W.nsOkIn K N=Zd)(a:K.In h)(b:K.In h'):h'.nsMap N=h.nsMap N:=by
 unfold PySem.W.nsOkIn at z;cases e:K.lookup N with
 |none=>rw[e] at z;exact absurd z Av
 |some o=>funext n;unfold Heap.nsMap;rw[a _ _ e,b _ _ e]
theorem XCls.obj {K:Zg} (c:XCls K mg x C) (j:K.In h) :
  ∃bm N nm q bs hdct sn sub ab col dd k0 k1 k2 k3 k5 mN,mN "__init__" = Zb/\∀h':Heap,K.In h'->h'.get? C=Za (excClassObj nm q C N bs bm hdct sn sub ab col dd k0 k1 k2 k3 k5 vNew)/\h'.Ns N mN/\OwnTail h' vmB bm:=by
 obtain⟨_,z⟩:=c;unfold PySem.W.excIn at z;cases e:K.lookup C with
 |none=>rw[e] at z;exact absurd z Av
 | some o =>
  rw[e] at z;split at z
  ·rename_i F v s r
   obtain rfl:=sI r;split at z
   ·rename_i J I a g b f L i m B
    simp only [Af,Fs,Hd] at z;obtain⟨⟨⟨⟨⟨u,p⟩,d⟩,E⟩,w⟩,D⟩:=z;subst u p;have G:s=#[a,g,b,f,Za (.builtin vNew),i]:=Array.toList_inj.mp B;have y:=PySem.W.nsMap_none_of_in j w D;obtain⟨nm,bs,A,n,H,l,sn,sub,ab,col,t⟩:=v;dsimp only at m d w;subst m d G;exact⟨I,n,nm,H,bs,l,sn,sub,ab,col,F,a,g,b,f,i,h.nsMap n,y,λh' k=>⟨k _ _ e,z3y w j k ▸ Heap.Ns.of_isNs (PySem.W.isNs_of_in k w),PySem.W.tail_of_in k E⟩⟩
   ·exact absurd z Av
  ·exact absurd z Av
theorem zw8 {h h':Heap}{H:Hp}{h0:Heap}{a:Zh}{cls:Ze}{u:List Ze} (m:h.MadeExcOf h' a cls u) (g:H a=Zb) (c:∀b o,h0.get? b=Za o->∃d,h.get? b=Za d):ExcO h' H h0 a cls:=by
 obtain⟨t,f,_,_⟩:=m.there;refine⟨⟨_,_,_,f,rfl,rfl,rfl,rfl⟩,g,?_⟩;cases q:h0.get? a with
 |none=>rfl
 | some o =>
  obtain⟨d,e⟩:=c a o q;rw[m.new] at e;exact noSome e
section
theorem zrx (Y:XOk X E) (i:X.ex=[]) (S:X.calm=Zd) (P:Gl X x) (c:XCls X.K X.mg x C) (R:PA X [e] ta) (f:(x==("__debug__" : Str))=Zc) (w:starEach [e] X.env=[(Zc,eval e X.env)]) :
  PS X (.Raise (Za (.Call (.Name x np) [e] [] cpos)) Zb pos) (λ_ σ H=>ta σ H λvs O=>vs.length<=sizeLine/\E (.ref C) Zb O):=by
 intro pins s σ H D I h;obtain ⟨J,N,nm,q,bs,hdct,L,sub,y,col,K,n,t,z,A,v,G,l,F⟩:=c.obj I.kIn;obtain ⟨hC,hN,M⟩:=F _ I.kIn;refine wpAny_Raise_call_subU (C:=C) (nm:=nm) (q:=q) (N:=N) (bs:=bs) (bm:=J) (hdct:=hdct) (sn:=L) (sub:=sub) (ab:=y) (col:=col) (dd:=K) (k0:=n) (k1:=t) (k2:=z) (k3:=A) (k5:=v) (mN:=G) PySem.F.excBase_ValueError (by decide) PySem.F.excBase_ValueError (M.hasType (by decide)) (I.ok.hd S) (by rw [w];rfl) l ?_;refine zjc I P c.bound ⟨rfl,?_⟩ f;have B:=R cpos pins s σ H _ I h;rw [w] at B ⊢;refine Calls.evalArgs_plain (thn B λus p ⟨vs,g,d,Q,W,Z⟩=>?_);obtain ⟨j,k,T⟩:=F _ d.kIn;refine ⟨rfl,by show us.length<=_;rw [<-Q.length];exact W,j,k,T,λU a m=>?_⟩;have V:g a=Zb:=by
  cases q:g a with
  |none=>rfl
  | some u =>
   obtain⟨o,r⟩:=(d.hok a u q).there;rw[m.new] at r;exact noSome r
 refine Y.made pins σ g { p with heap:=U } a (.ref C) (d.kept (t':=p.toks) m.keeps) ?_ Z;exact zw8 m V λb o e=>d.base.there b o e (by rw[i];simp)
end
noncomputable abbrev Msg:=List (Nat ⊕ Str)
noncomputable def zqb (S:Sx):List Zi->Option Msg
 |[]=>Za []
 |.Constant (.str x) _ _::e=>(zqb S e).bind λp=>Za (.inr x::p)
 |.FormattedValue (.Name x _) c Zb _::e=>if c == -1 then (S.rd x).bind λi=>(zqb S e).bind λp=>Za (.inl i::p) else Zb
 |_=>Zb
noncomputable def zqo (en:En):Msg->Nat->Bool
 |[],n=>decide (n<=sizeLine)
 |.inr x::p,n=>decide (n+x.length<=sizeLine)&&zqo en p (n+x.length)
 | .inl i::p,n=>(match en[i]? with
  |some (#v[k,0])=>decide (k.natAbs.log2<1920)
  |_=>Zc)&&(decide (n+1921<=sizeLine)&&zqo en p (n+1921))
noncomputable def tMsg (K:Zg) (ps:Msg):TE:=λσ H Q=>∃F p e,Rel K F p e σ H/\zqo e ps 0=Zd/\∀x:Str,Q (.str x) H
theorem zrd (C:CxOk X S d) (R:Rel X.K F pr en σ H):∀(es:List Zi) (ps:Msg) (n:Nat) (a:Str) (s:Zf),zqb S es=Za ps->zqo en ps n=Zd->a.length<=n->Inv X pins σ H s->(∀out y,out.length<=sizeLine->Inv X pins σ H y->Q out y) ->
  Joins #v[1,7] X.A X.xe (evalEach es X.env) a Q s:=by
 intro es
 induction es with
 | nil =>
  intro ps n a s h o l I q;obtain rfl:=sI h;exact q a s (Bz l (Ap o)) I
 | cons e es D =>
  intro ps n a s h o l I q;show wpAny _ _ (eval e X.env) _ _ s;unfold zqb at h;split at h
  ·rename_i m;cases m
  ·rename_i x j p z m
   cases m;obtain⟨f,w,h⟩:=bS h;obtain rfl:=sI h;obtain⟨b,g⟩:=Bool.and_eq_true_iff.mp o;refine Calls.Constant_str ⟨x,_,rfl,?_,D f _ _ _ w g (by rw[strLen_append];symm) (I.tok _) q⟩;rw[strLen_append];have:=Ap b;symm
  ·rename_i x T c p z m
   cases m;split at h
   ·rename_i M
    obtain⟨i,P,h⟩:=bS h;obtain⟨f,w,h⟩:=bS h;obtain rfl:=sI h;obtain⟨b,g⟩:=Bool.and_eq_true_iff.mp o;obtain⟨g,O⟩:=Bool.and_eq_true_iff.mp g;obtain rfl:=Bl M;have g:=Ap g;split at b
    ·rename_i k J
     have b:=Ap b;obtain⟨v,E,K⟩:=R.val i _ J;cases K;refine wpAny_FormattedValue_plain (thn (zli C P pins s σ H (λA B=>A=.int k/\B=H) I ⟨_,E,rfl,rfl⟩) λu y ⟨A,B,N,r,L,G⟩=>?_);subst L G;obtain⟨t,rfl⟩:=r;have lt:=int_text_length_le (k:=1920) (by decide) b;refine wpAny_formatField_int b ⟨_,_,rfl,?_,D f _ _ _ w O ?_ (N.tok _) q⟩
     ·rw[strLen_append,PySem.ofString_length];symm
     ·rw[strLen_append,PySem.ofString_length];symm
    ·cases b
   ·exact noSome h
  ·exact noSome h
theorem z65 (C:CxOk X S d)(h:zqb S (v1::v2::vs)=Za ps):PE X (.JoinedStr (v1::v2::vs) pos) (tMsg X.K ps):=by
 intro pins s σ H Q I ⟨F,p,e,R,o,q⟩;refine wpAny_JoinedStr (zrd C R _ ps 0 _ s h o (Nat.le_of_eq rfl) I λout b l a=>⟨l,.str out,H,a.tok _,⟨_,rfl⟩,q out⟩)
inductive FlX where
 |fl (f:Fl)|xc (c:Str)
noncomputable abbrev GX:=En->Option (En×FlX)
noncomputable def endX (K:Zg) (m:Str->Option Ze) (E:XK) (mp:List Nat) (F:Hp) (p:Prt) (σ:St) (D:Ends) (en':En):FlX->Prop
 |.fl f=>zpl K mp F p σ D en' f
 |.xc c=>∃C,m c=Za (.ref C)/\∀b a H,Same F b->Rel K b p en' a H->Keep mp σ a->E (.ref C) Zb H
noncomputable def tX (K:Zg) (m:Str->Option Ze) (E:XK) (mp:List Nat) (g:GX):TS:=λD σ H=>∃F p a e fl,Rel K F p a σ H/\g a=Za (e,fl)/\endX K m E mp F p σ D e fl
theorem endX.step {K:Zg} (s:Same F F1) (k:Keep mp σ σ1) (h:endX K mg E mp F pr σ D en' fl):endX K mg E mp F1 pr σ1 D en' fl:=by
 cases fl with
 |fl f=>exact zpl.step s k h
 | xc c =>
  obtain⟨C,b,d⟩:=h;exact⟨C,b,λi a H e R g=>d i a H (s.trans e) R (k.trans g)⟩
noncomputable def gPl (g:GS):GX:=λe=>(g e).bind λp=>Za (p.1,.fl p.2)
noncomputable def gRs (g:GE) (c:Str):GX:=λe=>(g e).bind λp=>Za (p.1,.xc c)
noncomputable def gRm (ps:Msg) (c:Str):GX:=λe=>if zqo e ps 0 then Za (e,.xc c) else Zb
noncomputable def gIfX (c:GT) (a b:GX):GX:=λd=>match c d with
 |#v[e,5]=>a e
 |#v[e,6]=>b e
 |none=>Zb
noncomputable def gSqX (a b:GX):GX:=λc=>match a c with
 |some (e,.fl .nx)=>b e
 |some (e,f)=>Za (e,f)
 |none=>Zb
section
variable {K:Zg}
theorem zqy (h:tX K mg E mp (gPl g) D σ H):tS K mp g D σ H:=by
 obtain⟨F,p,c,b,fl,R,h,q⟩:=h;obtain⟨⟨e,f⟩,a,h⟩:=bS h;cases h;exact⟨F,p,c,e,f,R,a,q⟩
theorem z2t (d:mg c=Za (.ref C))(h:tX K mg E mp (gRs g c) D σ H):tE K g σ H λ_ f=>E (.ref C) Zb f:=by
 obtain⟨F,p,l,k,fl,R,h,q⟩:=h;obtain⟨⟨a,r⟩,j,h⟩:=bS h;cases h;obtain⟨n,e,q⟩:=q;rw[d] at e;cases e;exact⟨F,p,l,a,r,R,j,λm i v s b _=>q m σ i s b (.refl _ _)⟩
theorem z15 (a:mg c=Za (.ref C))(h:tX K mg E mp (gRm ps c) D σ H):tMsg K ps σ H λ_ b=>E (.ref C) Zb b:=by
 obtain⟨F,p,f,d,fl,R,h,q⟩:=h;unfold gRm at h;split at h
 ·rename_i o;cases h;obtain⟨g,e,q⟩:=q;rw[a] at e;cases e;exact⟨F,p,f,R,o,λ_=>q F σ H (.refl F) R (.refl _ _)⟩
 ·exact noSome h
theorem zx9 (h:tX K mg E mp (gIfX c a b) D σ H):tIfS (tT K c) (tX K mg E mp a) (tX K mg E mp b) D σ H:=by
 nofun;obtain⟨F,i,j,f,fl,R,h,q⟩:=h;ac_rfl;unfold gIfX at h;cases e:c j with
 |none=>simp only [e] at h;exact noSome h
 | some p =>
  obtain⟨g,d⟩:=p;refine⟨F,i,j,g,d,R,e,λk m s l=>?_⟩;cases d with
  |true=>simp only [e] at h;exact iteT ⟨k,i,g,f,fl,l,h,q.step s (.refl _ _)⟩
  |false=>simp only [e] at h;exact iteF ⟨k,i,g,f,fl,l,h,q.step s (.refl _ _)⟩
theorem zyy (h:tX K mg E mp (gSqX a b) D σ H):tSeq (tX K mg E mp a) (tX K mg E mp b) D σ H:=by
 nofun;obtain⟨F,i,j,d,fl,R,h,q⟩:=h;ac_rfl;unfold gSqX at h;cases e:a j with
 |none=>simp only [e] at h;exact noSome h
 | some p =>
  obtain⟨g,k⟩:=p;refine⟨F,i,j,g,k,R,e,?_⟩;cases k with
  | fl f =>
   cases f with
   | nx =>
    simp only [e] at h;exact λm σ1 o s n l=>⟨m,i,g,d,fl,n,h,q.step s l⟩
   |brk=>simp only [e] at h;cases h;exact q
   |cnt=>simp only [e] at h;cases h;exact q
   |ret r=>simp only [e] at h;cases h;exact q
  |xc c=>simp only [e] at h;cases h;exact q
end
noncomputable def blkX (f:Sx->Stmt->Option GX) (S:Sx):List Stmt->Option GX
 |[]=>Za (gPl zbr)
 | c::s=>match s with
  |[]=>f S c
  |_::_=>(f S c).bind λa=>(blkX f S s).bind λb=>Za (gSqX a b)
noncomputable def rsE (fE:Sx->Zi->Option GE) (S:Sx) (e:Zi) (c:Str):Option GX:=match e with
 |.JoinedStr (v::b::a) _=>(zqb S (v::b::a)).bind λp=>Za (gRm p c)
 |e=>if zaj e then (fE S e).bind λg=>Za (gRs g c) else Zb
noncomputable def rsS (fE:Sx->Zi->Option GE) (S:Sx) (c:List Str) (st:Stmt):Option GX:=match st with
 |.Raise (Za (.Call (.Name x _) [e] [] _)) Zb _=>if c.contains x&&S.kd.lookup x==Za .globalImplicit && !(x==("__debug__" : Str)) then rsE fE S e x else Zb
 |_=>Zb
noncomputable def zrn (fS:Sx->Stmt->Option GS) (fE:Sx->Zi->Option GE) (fT:Sx->Zi->Option GT) (d:List Str):Nat->Sx->Stmt->Option GX
 |0,S,s=>(fS S s).bind λg=>Za (gPl g)
 | n+1,S,s=>match s with
  |.If c a b _=>(fT S c).bind λt=>(blkX (zrn fS fE fT d n) S a).bind λx=>(blkX (zrn fS fE fT d n) S b).bind λy=>Za (gIfX t x y)
  |.Raise ..=>rsS fE S d s
  |s=>(fS S s).bind λg=>Za (gPl g)
theorem PS.nox {st:Stmt}(h:PS X.nox st t):PS X st t:=λpins s σ H D I a =>
 Cs (h pins s σ H D (I.wish _) a) (λ_ _ q=>q.unwish) λ_ _ z=>False.elim z
section
theorem zjm (HS:∀st g,f S st=Za g->PS X st (tX X.K X.mg E S.mp g)):∀{s:List Stmt}{g:GX},blkX f S s=Za g->PSs X s (tX X.K X.mg E S.mp g)
 |[],_,h=>by obtain rfl:=sI h;exact znf.wk λ_ _ _ h=>zgt (zqy h)
 |[st],_,h=>pss_one (HS _ _ h)
 | st::d::s,_,h=>by
  obtain⟨a,e,h⟩:=bS (show (f S st).bind _=_ from h);obtain⟨b,c,h⟩:=bS h;obtain rfl:=sI h;exact (zb1 (HS _ _ e) (zjm HS c)).wk λ_ _ _=>zyy
theorem z8e (K:zbw fE)(C:CxOk X.nox S d)(L:XOk X E)(k:X.ex=[])(B:X.calm=Zd)(y:Gl X x)(b:XCls X.K X.mg x a)(f:(x==("__debug__" : Str))=Zc)(h:rsE fE S e x=Za g):PS X (.Raise (Za (.Call (.Name x np) [e] [] cpos)) Zb pos) (tX X.K X.mg E S.mp g):=by
 have one:∀{t:TE},PE X e t->zaj e=Zd->(∀D σ H,tX X.K X.mg E S.mp g D σ H->t σ H λ_ m=>E (.ref a) Zb m)->(∀σ H Q c,(∀v H,Q v H->c v H)->t σ H Q->t σ H c)->PS X (.Raise (Za (.Call (.Name x np) [e] [] cpos)) Zb pos) (tX X.K X.mg E S.mp g):=λ{t} J n rd mono pins s σ H D I q=>by
  refine zrx L k B y b (zal J zbb (zah n)) f (zah n) pins s σ H D I ?_;exact mono σ H _ _ (λv m z=>⟨show 1<=sizeLine by decide,z⟩) (rd D σ H q)
 unfold rsE at h;split at h
 ·obtain⟨N,i,h⟩:=bS h;obtain rfl:=sI h;exact one (PE.nox (z65 C i)) rfl (λD σ H=>z15 b.bound) λσ H Q c w ⟨F,p,j,R,o,q⟩=>⟨F,p,j,R,o,λx=>w _ _ (q x)⟩
 ·split at h
  ·rename_i n;obtain⟨O,i,h⟩:=bS h;obtain rfl:=sI h;exact one (PE.nox (K X.nox S d C _ _ i)) n (λD σ H=>z2t b.bound) λσ H Q c w ⟨F,p,j,l,r,R,o,q⟩=>⟨F,p,j,l,r,R,o,λM A v G u z=>w _ _ (q M A v G u z)⟩
  ·exact noSome h
theorem zxg (HS:zuq fS) (H:zbw fE) (HT:zgl fT) (C:CxOk X.nox S d) (s:XOk X E) (c:X.ex=[]) (p:X.calm=Zd) (f:∀x∈r,∃a,XCls X.K X.mg x a):∀(n:Nat) (st:Stmt) (g:GX),zrn fS fE fT r n S st=Za g->PS X st (tX X.K X.mg E S.mp g):=by
 have l:∀{st:Stmt}{g:GX},((fS S st).bind λg=>Za (gPl g))=Za g->PS X st (tX X.K X.mg E S.mp g):=λ{st g} h=>by
  obtain⟨B,b,h⟩:=bS h;obtain rfl:=sI h;exact (PS.nox (HS X.nox S d C _ _ b)).wk λ_ _ _=>zqy
 intro n
 induction n with
 |zero=>exact λst g h=>l h
 | succ n i =>
  intro st g h;unfold zrn at h;split at h
  ·obtain ⟨t,b,h⟩:=bS h
   obtain⟨x,q,h⟩:=bS h;obtain⟨y,o,h⟩:=bS h;obtain rfl:=sI h;exact (z4j (PT.nox (HT X.nox S d C _ _ b)) (zjm i q) (zjm i o)).wk λ_ _ _=>zx9
  ·unfold rsS at h
   split at h
   ·rename_i x D e w A u
    cases u;split at h
    ·rename_i z
     simp only [Af,Hd,Fs] at z;obtain⟨⟨j,k⟩,v⟩:=z;obtain⟨a,m⟩:=f x (List.contains_iff_mem.mp j);exact z8e H C s c p (C.gl x k) m (by simpa using v) h
    ·exact noSome h
   ·exact noSome h
  ·exact l h
end
noncomputable abbrev FnX:=List W->Option ((List W×(W×Bool)) ⊕ (Str×List W))
noncomputable def zcv (m:List Bool) (n:Nat) (g:GX):FnX:=λa=>if a.length=m.length then match g (zav m a++List.replicate (n-m.length) Zb) with
 |some (e,.fl (.ret r))=>(outsW m a e).bind λw=>Za (.inl (w,r))
 |some (e,.fl .nx)=>(outsW m a e).bind λw=>Za (.inl (w,(.non,Zc)))
 |some (e,.xc c)=>(outsW m a e).bind λw=>Za (.inr (c,w))
 |_=>Zb else Zb
noncomputable def FnX.back (Φ:FnX):Fn:=λw=>match Φ w with
 |some (.inl p)=>Za p
 |_=>Zb
noncomputable def FnX.exc (Φ:FnX) (c:Str):Fn:=λw=>match Φ w with
 |some (.inr p)=>if p.1=c then Za (p.2,(.non,Zc)) else Zb
 |_=>Zb
noncomputable def spX (K:Zg) (b:Str->Option Ze) (m:List Bool) (Φ:FnX):Sp:=λv H Q E=>spF K m Φ.back v H Q E\/∃c C,b c=Za (.ref C)/\spF K m (Φ.exc c) v H (λ_ a=>E (.ref C) Zb a) E
theorem z4d {K:Zg}(h:spX K mg m Φ vs H Q E):vs.length=m.length:=by
 rcases h with h|⟨_,_,_,h⟩
 ·exact zgx h
 ·exact zgx h
noncomputable def gBk (g:GX):GS:=λa=>match g a with
 |some (e,.fl f)=>Za (e,f)
 |_=>Zb
noncomputable def gEx (g:GX) (c:Str):GS:=λb=>match g b with
 |some (e,.xc a)=>if a=c then Za (e,.nx) else Zb
 |_=>Zb
theorem back_sem (m:List Bool) (n:Nat) (g:GX):(zcv m n g).back=zag m n (gBk g):=by
 funext ws
 unfold FnX.back zcv zag gBk;by_cases h:ws.length=m.length
 ·rw [if_pos h,if_pos h]
  cases g (zav m ws++List.replicate (n-m.length) Zb) with
  |none=>rfl
  | some p =>
   obtain⟨e,f⟩:=p;cases f with
   | fl f =>
    cases f with
    |nx=>dsimp only;cases outsW m ws e<;>rfl
    |ret r=>dsimp only;cases outsW m ws e<;>rfl
    |brk=>rfl
    |cnt=>rfl
   |xc c=>dsimp only;cases outsW m ws e<;>rfl
 ·rw[if_neg h,if_neg h]
theorem exc_sem (m:List Bool) (n:Nat) (g:GX) (c:Str):(zcv m n g).exc c=zag m n (gEx g c):=by
 funext ws
 unfold FnX.exc zcv zag gEx;by_cases h:ws.length=m.length
 ·rw [if_pos h,if_pos h]
  cases g (zav m ws++List.replicate (n-m.length) Zb) with
  |none=>rfl
  | some p =>
   obtain⟨e,f⟩:=p;cases f with
   | fl f =>
    cases f with
    |nx=>dsimp only;cases outsW m ws e<;>rfl
    |ret r=>dsimp only;cases outsW m ws e<;>rfl
    |brk=>rfl
    |cnt=>rfl
   | xc b =>
    dsimp only;by_cases a:b=c
    ·rw [if_pos a];dsimp only;cases outsW m ws e with
     |none=>rfl
     |some w=>exact if_pos a
    ·rw [if_neg a];dsimp only;cases outsW m ws e with
     |none=>rfl
     |some w=>exact if_neg a
 ·rw[if_neg h,if_neg h]
theorem zxv {K:Zg}(h:spX K mg m (zcv m N.length g) vs H Q E):tX K mg E (mpOf m) g { nx:=λ_ H'=>Q .non H',rt:=Q } (start N vs) H:=by
 rcases h with h|⟨c,C,k,h⟩
 ·rw[back_sem] at h;obtain⟨F,p,d,a,fl,R,e,q⟩:=zgd h;unfold gBk at e;split at e
  ·rename_i i f b;cases e;exact⟨F,p,d,a,.fl fl,R,b,q⟩
  ·exact noSome e
 ·rw[exc_sem] at h;obtain⟨F,p,d,a,fl,R,e,q⟩:=zgd h;unfold gEx at e;split at e
  ·rename_i i l b;split at e
   ·rename_i j;subst j;cases e;exact⟨F,p,d,a,.xc l,R,b,C,k,q⟩
   ·exact noSome e
  ·exact noSome e
theorem Fun.okX {K:Zg}{st:Stmt} (F:Fun K x qual st f fd) (S:FnScope N ps (zab st)) (len:∀vs H Q E,sp vs H Q E->vs.length=ps.length)
  (h:∀(A:Around) (outer:List Env) (s:Zf) (H:Hp) (vs:List V) (Q:VK) (E:XK),(Room k (A.deeper (envOfC qual (zab st) s.heap.objs.size f fd.code))/\Room (k+1) A)->sp vs H Q E ->
   ∃t,PSs (cxOf CX P w K mg base N qual (zab st) f fd.code A outer s H E) (zbi st) t/\t { nx:=λ_ H'=>Q .non H',rt:=Q } (start N vs) H):FnOk P w K mg base CX (k+1) f fd ps sp:=by
 nofun;obtain⟨e,o,kV,doc,p,d,cdv,g,osl,rfl,l,b⟩:=F.ex;ac_rfl;exact z5w l b S len λA outer s H vs Q E c a=>h A outer s H vs Q E c a
section
variable {K:Zg}
noncomputable def AllFn (P:Program) (w:World) (K:Zg) (m:Str->Option Ze) (base:Heap) (T:List Fd) (d:Nat) (Ψ:Str->Fn):Prop:=∀u∈T,∀f a,Fun K u.nm u.nm u.st f a->m u.nm=Za (.ref f)->FnOk P w K m base CX0 d f a u.ps (spF K u.m (Ψ u.nm))
theorem znp (ok:∀t∈T,FdOk K mg t)(G:∀x∈bn,mg x=Zb)(k:K.In base)(nb:base.Ns mainGlobals mg)(b:("g SIGNS" : Str)∈bn->∃t,mg "SIGNS" = Za (.str "abcdef" t))
 (g:AllFn P w K mg base T d Ψ) (o:FdOk K mg t) (F:Fun K t.nm t.nm t.st f fd) (M:mg t.nm=Za (.ref f)) (p:Room d (A.deeper (envOfC t.nm (zab t.st) s.heap.objs.size f fd.code))/\Room (d+1) A) :
  CxOk (cxOf CX P w K mg base t.N t.nm (zab t.st) f fd.code A outer s H E).nox (sxOf T bn Ψ d t) d:={
   N:=rfl
   nd:=o.sc.nd
   loc:=λx e=>e
   cel:=λx e=>⟨e,rfl⟩
   vis:=λx e=>e
   gl:=λx e=>e
   calm:=rfl
   xe:=rfl
   bn:=G
   fs:=λx m Φ e=>by
    nofun;obtain⟨u,a,i,z,v⟩:=zqf e;ac_rfl;subst i z v;nofun;obtain⟨j,n,r,C,l⟩:=(ok u a).ex;ac_rfl;exact⟨u.ps,(ok u a).m.symm,⟨j,n,g u a j n r l,C,r.kp,l⟩⟩
   room:=p.1
   sl:=by have:=p.2.un;show A.units+3+16*d+205<cLine;symm
   dpo:=Ae _
   sg:=b
   lam:=λh=>by
    have q:=o.lam h;unfold zzn at q;split at q
    ·rename_i c y e;refine⟨c,y,e,q,?_,rfl⟩;nofun;obtain⟨L,J,kV,doc,Q,I,cdv,O,osl,i,D,B⟩:=F.ex;ac_rfl;exact PySem.W.law_code k nb e M (k _ _ D) rfl
    ·cases q
   bk:=by
    show (if (zab t.st).kind.isAnnotationScope then ScopeKind.function else (zab t.st).kind)=.function;rw[o.sc.kind];rfl }
noncomputable def znm (T:List Fd) (bn c:List Str) (Ψ:Str->Fn) (d:Nat) (t:Fd):Option GX:=blkX (zrn (zp1 deep) (compE deep) (compT deep) c 4) (sxOf T bn Ψ d t) (zbi t.st)
theorem zzr (ok:∀t∈T,FdOk K mg t)(l:∀x∈bn,mg x=Zb)(j:K.In base)(nb:base.Ns mainGlobals mg)(b:("g SIGNS" : Str)∈bn->∃t,mg "SIGNS" = Za (.str "abcdef" t))(c:∀x∈n,∃a,XCls K mg x a)
 (i:AllFn P w K mg base T d Ψ) (o:FdOk K mg t) (F:Fun K t.nm t.nm t.st f fd) (M:mg t.nm=Za (.ref f)) (e:znm T bn n Ψ d t=Za g) :
  FnOk P w K mg base (CXR P w) (d+1) f fd t.ps (spX K mg t.m (zcv t.m t.N.length g)) :=
 F.okX (CX:=CXR P w) (k:=d) o.sc (λv H Q E h=>(z4d h).trans o.m) λA outer s H v Q E m h =>
  ⟨_,zjm (zxg (zff deep) (zcc deep).1 (zcc deep).2 (znp ok l j nb b i o F M m) z4r rfl rfl c 4) e,zxv h⟩
noncomputable abbrev Ovr:=(Str->Fn)->Nat->Str->Option Fn
noncomputable def sem2 (T:List Fd) (bn:List Str) (O:Ovr):Nat->Str->Fn
 |0,_=>λ_=>Zb
 |1,_=>λ_=>Zb
 | d+2,x=>match O (sem2 T bn O d) d x with
  |some Φ=>Φ
  | none=>match T.find? (·.nm==x) with
   |some t=>fnAt T bn (sem2 T bn O (d+1)) (d+1) t
   |none=>λ_=>Zb
theorem zmi:FnOk P w K mg base CX0 k f fd ps (spF K m λ_=>Zb) :=
 ⟨λv H Q E h=>(by obtain⟨_,_,_,_,_,_,_,_,h,_⟩:=h;cases h),λA outer s H args u v Q E c d a b h=>(by obtain⟨_,_,_,_,_,_,_,_,h,_⟩:=h;cases h)⟩
theorem yah (ok:∀t∈T,FdOk K mg t)(i:∀x∈bn,mg x=Zb)(c:K.In base)(nb:base.Ns mainGlobals mg)(a:("g SIGNS" : Str)∈bn->∃t,mg "SIGNS" = Za (.str "abcdef" t))
 (b:AllFn P w K mg base T d Ψ) (o:FdOk K mg t) (F:Fun K t.nm t.nm t.st f fd) (M:mg t.nm=Za (.ref f)):FnOk P w K mg base CX0 (d+1) f fd t.ps (spF K t.m (fnAt T bn Ψ d t)):=by
  unfold fnAt;cases e:zas T bn Ψ d t with
  |none=>exact zmi
  | some g =>
   refine F.okC (k:=d) o.sc (λv H Q E h=>(zgx h).trans o.m) (λA outer s H v Q E j h=>?_);exact⟨_,zhj (zff deep) (znp ok i c nb a b o F M j) e,zgd h⟩
theorem zoj (n:(T.map (·.nm)).Nodup) (ok:∀t∈T,FdOk K mg t) (i:∀x∈bn,mg x=Zb) (k:K.In base) (nb:base.Ns mainGlobals mg) (h:("g SIGNS" : Str)∈bn->∃t,mg "SIGNS" = Za (.str "abcdef" t))
  (g:∀(d:Nat) (Ψ:Str->Fn),AllFn P w K mg base T d Ψ->∀t∈T,∀Φ,O Ψ d t.nm=Za Φ->∀f a,Fun K t.nm t.nm t.st f a->mg t.nm=Za (.ref f)->FnOk P w K mg base CX0 (d+2) f a t.ps (spF K t.m Φ)) :
  ∀d:Nat,AllFn P w K mg base T d (sem2 T bn O d)/\AllFn P w K mg base T (d+1) (sem2 T bn O (d+1))
 |0=>⟨λu _ f a _ _=>zmi,λu _ f a _ _=>zmi⟩
 | d+1=>by
  obtain ⟨j,c⟩:=zoj n ok i k nb h g d;refine ⟨c,λt b f a F M=>?_⟩;show FnOk P w K mg base CX0 (d+2) f a t.ps (spF K t.m (match O (sem2 T bn O d) d t.nm with
   |some Φ=>Φ
   | none=>match T.find? (·.nm==t.nm) with
    |some t=>fnAt T bn (sem2 T bn O (d+1)) (d+1) t
    |none=>λ_=>Zb))
  cases e:O (sem2 T bn O d) d t.nm with
  |some Φ=>exact g d _ j t b Φ e f a F M
  | none =>
   rw[zm8 n b];exact yah ok i k nb h c (ok t b) F M
end
section
theorem zrh {o:OsState}
  (k:h.get? C=Za (excClassObj nm q C N bs bm hdct sn sub ab col dd k0 k1 k2 k3 k5 newId)) (i:h.get? C'=Za (excClassObj nm' q' C' N' bs' bm' hdct' sn' sub' ab' col' dd' k0' k1' k2' k3' k5' newId')) (m:h.get? e=Za oe) (c:oe.cls=.ref C) (a:bm'.contains (.type "BaseException")=Zd) (l:(Ze.ref C::bm).contains (.ref C')=b)
  (n:Q b ⟨h,g,d,t,o⟩):wpAny M A (excMatches (.ref e) (.ref C')) Q E ⟨h,g,d,t,o⟩:=by
 have j:(Ze.ref C'::bm').contains (.type "BaseException")=Zd:=by rw[List.contains_cons,a,Bool.or_true]
 have f:=tc_notTuple;unfold excMatches
 repeat (first|(with_reducible refine Ee m ?_;rw[c])|with_reducible refine Ee i ?_|(with_reducible refine Gz i ?_;rw[j])|(with_reducible refine Gz k ?_;rw[l])|wp_step)
 cases b<;>(wp_walk;exact n)
end
noncomputable def subIn (K:Zg) (C a:Zh):Bool:=match K.lookup C with
 |some ⟨_,_,.cls c,_⟩=>c.mro.contains (.ref a)
 |_=>Zc
theorem z42 (u:Un fs [] H H1 h0 h)(p:Passed fs H1 h0 h h'):Un fs [] H H1 h0 h' where
 keep b o e n nb x:=p.keep b o (u.keep b o e n nb x) nb (.inr (by rw[e];exact λz=>nomatch z))
 slot b o e n mb x:=by
  obtain⟨g,a⟩:=u.slot b o e n mb x;obtain⟨s,c⟩:=p.slot b _ a mb;exact⟨s,c⟩
 free:=u.free
 there b o e x:=by
  obtain⟨d,a⟩:=u.there b o e x;by_cases f:b∈fs
  ·obtain⟨g,c⟩:=p.slot b d a f;exact⟨_,c⟩
  ·exact⟨d,p.keep b d a f (.inr (by rw[e];exact λz=>nomatch z))⟩
 tups:=u.tups
 frzs:=u.frzs
 tbls:=u.tbls
theorem zxa (g:h.FunFrames base0 l)(st:(PySem.W.hideAll h (a::T::frs l)).StaysIn h')(up:h.UpToSlots h')(f:H1 a=Zb)(na:h0.get? a=Zb)(fT:H1 T=Zb)(n:h0.get? T=Zb):Passed (frs l) H1 h0 h h' where
 keep b o e nb t:=st b o (Gp _ e λz=>by
  rcases Ak.mp z with rfl|z
  ·rcases t with t|t
   ·exact t f
   ·exact t na
  ·rcases Ak.mp z with rfl|z
   ·rcases t with t|t
    ·exact t fT
    ·exact t n
   ·exact nb z)
 slot b o e mb:=by
  obtain⟨_,i,d,c⟩:=g.mem mb;rw[e] at d;obtain rfl:=sI d;exact up b o e c
noncomputable def zcp (a C:Zh):HO:=.ext λh=>∃o,h.get? a=Za o/\o.cls=.ref C
theorem z1z (x:HOk P w H h)(j:H a=Zb)(e:∃o,h.get? a=Za o/\o.cls=.ref C):HOk P w (upd H a (zcp a C)) h:=λb u q=>by
 by_cases i:b=a
 ·subst i;rw[upd_same] at q;obtain rfl:=sI q;obtain⟨o,d,g⟩:=e;exact⟨⟨o,d,g⟩,⟨o,d⟩,λl m ⟨o,d,g⟩ k=>⟨o,k o d,g⟩⟩
 ·rw [upd_ne i] at q;have ne:∀c v,H c=Za v->upd H a (zcp a C) c=Za v:=λc v f=>by
   rw[upd_ne λz=>by subst z;rw[j] at f;exact noSome f];exact f
  exact (x b u q).stay (λ_ _ _ r=>r) (λc=>ne c _) λc n=>ne c _
theorem z6o (u:Un fs [] H H1 h0 h)(na:h0.get? a=Zb)(i:H1 a=Zb):Un fs [] H (upd H1 a (zcp a C)) h0 h:=by
 have ne:∀c v,H1 c=Za v->upd H1 a (zcp a C) c=Za v:=λc v d=>by
  rw[upd_ne λz=>by subst z;rw[i] at d;exact noSome d];exact d
 exact { keep:=u.keep,slot:=u.slot,there:=u.there,free:=λb o e n x=>by rw[upd_ne λz=>by subst z;rw[na] at e;exact noSome e];exact u.free b o e n x,tups:=λb j e=>ne _ _ (u.tups b j e),frzs:=λb o g e=>ne _ _ (u.frzs b o g e),tbls:=λb p e=>by obtain⟨m,f⟩:=u.tbls b p e;exact⟨m,ne _ _ f⟩}
section
theorem zsz (I:Inv X pins σ H s) (J:X.N.Nodup) (V:X.N[i]?=Za n) (O:X.env.kindOf n=Za .local)
  (h:∀s',Inv X pins (σ.set i Zb) H s'->Q () s'):wpAny M A (do bindName X.env n .none;unbindBehindTheSuite X.env n pos) Q E s:=by
 obtain⟨m,C,u⟩:=id I.loc;have l:(X.env.scope.kind == .class || (X.env.scope.kind == .module && X.env.locals != X.env.globals))=Zc:=by rw[I.ok.kind];rfl
 have cne:=I.cne;obtain⟨Z,_,_,P,_⟩:=id C;refine wpAny_nameGoes_keeps O C l λR v x a=>?_;have B:HOk X.prog X.w H R:=λb S e=>by
  refine (I.hok b S e).stay (λc F t q=>(a.2 c ?_).trans q) (λ_ q=>q) λ_ _ q=>q;rintro rfl;rcases t with rfl|t
  ·rw[I.free] at e;cases e
  ·rw[I.free] at t;cases t
 refine h _ ⟨I.ok,I.os,I.bare,⟨λb o e n w r=>?_,λb o e n w r=>?_,I.base.free,λb o e r=>?_,I.base.tups,I.base.frzs,I.base.tbls⟩,⟨_,x,λj y K g f N=>?_⟩,λy c e=>?_,I.free,I.freeC,λp T=>?_,B,by simpa using I.len⟩
 ·exact (a.2 b (Bc (At (Ao e) I.ok.above))).trans (I.base.keep b o e n w r)
 ·obtain⟨U,g⟩:=I.base.slot b o e n w r;exact⟨U,(a.2 b (Bc (At (Ao e) I.ok.above))).trans g⟩
 ·obtain⟨G, g⟩:=I.base.there b o e r;exact⟨G,(a.2 b (Bc (At (Ao e) I.ok.above))).trans g⟩
 ·have D:j≠i:=fun z=>by
   subst z;by_cases u:j<σ.length
   ·rw[Bn u] at f;cases f
   ·rw[Bw (by rw[Bq];symm)] at f;cases f
  rw[Bt (Ne.symm D)] at f;obtain⟨L,W,q⟩:=u j y K g f N;refine⟨L,W,?_⟩;rcases q with⟨k,e⟩|⟨k,c,e,z⟩
  ·refine .inl ⟨k, ?_⟩;have:y≠n:=λe=>D (zii J g (e ▸ V));simp [this,e]
  ·exact .inr ⟨k,c,e,z.sameBut a (cne y c e)⟩
 ·obtain⟨F, z⟩:=I.cell y c e;exact⟨F,z.sameBut a (cne y c e)⟩
 ·obtain⟨e,n,ne,Y,d⟩:=I.pin p T;exact⟨(a.2 p.1 ne).trans e,n,ne,Y,d⟩
end
noncomputable abbrev Cx.hdl (X:Cx) (a:Zh):Cx:={ X with A:=X.A.mark (Za (.ref a)),calm:=Zc,xe:=λ_ _=>False }
theorem Cx.Ok.hdl {X:Cx}(ok:X.Ok)(a:Zh):(X.hdl a).Ok :=
 ⟨ok.mod,ok.kind,ok.glob,ok.blt,ok.above,ok.inj,ok.has,ok.cab,(λz=>nomatch z),ok.frames,ok.stk,ok.exf,ok.bs,ok.bsz,ok.noex,ok.exfs,ok.funs,ok.frf⟩
section
theorem Inv.hdl (I:Inv X pins σ H s)(a:Zh):Inv (X.hdl a) pins σ H s:=⟨I.ok.hdl a,I.os,I.bare,I.base,I.loc,I.cell,I.free,I.freeC,I.pin,I.hok,I.len⟩
theorem Inv.unhdl (o:X.Ok)(I:Inv (X.hdl a) pins σ H s):Inv X pins σ H s:=⟨o,I.os,I.bare,I.base,I.loc,I.cell,I.free,I.freeC,I.pin,I.hok,I.len⟩
theorem z8r {rest:List ExceptHandler} (I:Inv X pins σ H s) (g:X.stack=X.env::X.outer) (J:X.env.frame=Za X.env.locals)
  (gl:Gl X x) (c2:XCls X.K X.mg x C2) (L:(x==("__debug__" : Str))=Zc) (hN:X.N.Nodup) (hi:X.N[i]?=Za n) (hn:Loc X.env.scope n) (hf:X.fn n=Zd\/X.env.scope.names.lookup n=Za .local)
  (hE:∀cls H',EK cls Zb H'->∃C y,cls=.ref C/\XCls X.K X.mg y C/\subIn X.K C C2=Zd)
  (cx:CXR X.prog X.w X.stack H s EK e s')
  (k:∀a C H' Z,EK (.ref C) Zb H'->H' a=Zb->Inv X pins (σ.set i (Za (.ref a))) (upd H' a (zcp a C)) Z->e=.ref a ->
   wpAny #v[1,7] (X.A.mark (Za (.ref a))) (execs (b₀::suite) X.env) (λf s4=>wpAny #v[1,7] X.A (do bindName X.env n .none;unbindBehindTheSuite X.env n hp) (λ_ s5=>Q f s5) E s4) (λ_ _=>False) Z) :
  wpAny #v[1,7] X.A (noteFrame e X.env) (λ_ s2=>wpAny #v[1,7] X.A (setFlight e Zb) (λ_ s3=>wpAny #v[1,7] X.A (handleBy e X.env (.ExceptHandler (Za (.Name x np)) (Za n) (b₀::suite) hp::rest)) Q E s3) E s2) E s':=by
 obtain ⟨H',a,cls,rfl,os,bare,un,A,⟨⟨oe,vs,a0,T,oT,ts,R,hc,hd,z0,z1,ne,hT,K,z3,t1,t2⟩,G,nw⟩,q⟩:=cx;obtain ⟨C,y,rfl,cC,l⟩:=hE cls H' q;have I1:Inv X pins σ H' s':=I.call' (ch:=[]) os un A bare (λb z=>absurd z (by simp));have Y:s'.heap.FunFrames X.base X.stack:=I1.stack;have U:s'.heap.FunFrames (PySem.W.hideAll s'.heap (a::T::frs X.stack)) X.stack:=PySem.W.funFrames_hide Y λen R b eb=>Ai _ (Ai _ (zdt R eb));have r : ∀m,(PySem.W.hideAll s'.heap (a::T::frs X.stack)).StaysIn m->s'.heap.UpToSlots m->(∃o,m.get? a=Za o/\o.cls=.ref C)->∀t',Inv X pins σ (upd H' a (zcp a C)) { s' with heap:=m,toks:=t' }:=λm st up ea t'=>by
  have p:=zxa Y st up G nw t1 t2;refine I.call' (ch:=[]) os ?_ ?_ bare (λb z=>absurd z (by simp))
  ·exact z6o (z42 un p) nw G
  ·exact z1z (zhp p A λb hb=>I1.stkFree b hb) G ea
 have B:Heap.FlyingW (PySem.W.hideAll s'.heap (a::T::frs X.stack)) X.stack a (.ref C) a0 s'.heap :=
  ⟨λb o e=>Gx _ e,Dx _ Au,U,oe,vs,T,oT,ts,R,⟨hc,z0⟩,hd,z1,Dx _ (Ai _ Au),ne,hT,K,z3⟩
 have F:X.A.frames=Za (X.env::X.outer):=I.ok.frames.trans (congrArg Za g);rw [g] at B;refine wpAny_looks_onW F J B λh4 h M=>?_;refine wpAny_landsW h λh5 c w=>?_;have t:=M.trans w;rw [<-g] at c;have d:=r h5 c.1 t c.there s'.toks;obtain ⟨bm,N,nm,qn,bs,hdct,sn,sub,ab,col,dd,k0,k1,k2,k3,k5,mN,hni,al⟩:=cC.obj d.kIn;obtain ⟨bm',N',nm',qn',bs',hdct',sn',sub',ab',col',dd',k0',k1',k2',k3',k5',mN',hni',W⟩:=c2.obj d.kIn;obtain ⟨hC,_,TL⟩:=al _ d.kIn;obtain ⟨S,_,P⟩:=W _ d.kIn;have j:(Ze.ref C::bm).contains (.ref C2)=Zd:=by
  unfold subIn at l;cases eL:X.K.lookup C with
  |none=>rw[eL] at l;cases l
  | some o =>
   have eo:=d.kIn _ _ eL;have:o=_:=sI (eo.symm.trans hC);rw[eL,this] at l;exact l
 obtain⟨oe5,V,O⟩:=c.there;refine wpAny_handleBy_cons (codeAny_handlers_test (Hh d.ok.kind gl (Calls.loadGlobal_global (by rw[d.ok.glob];exact d.mod.glob.keeps d.bk) c2.bound ?_) L)) (by intro z;cases z);refine zrh hC S V O (P.hasType (by decide)) j (codeAny_handlers_suite_as ?_);refine lands_againW c λh6 D u=>?_;have I6:=r h6 D.1 (t.trans u) D.there s'.toks;refine zec I6 hN hi hn (v:=.ref a) rfl (λs7 I7=>?_) hf;exact Cs (k a C H' s7 q G I7 rfl) (λ_ _ z=>z) λ_ _ z=>z.elim
end
noncomputable def tTry (sp:Sp) (t:TA) (K:Zg) (m:Str->Option Ze) (f:Zh) (i j:Nat) (ts:TS):TS:=λD σ H=>t σ H λg e=>sp g e (λv c=>D.nx (σ.set i (Za v)) c)
 λcls _ d=>∃C y,cls=.ref C/\XCls K m y C/\subIn K C f=Zd/\∀a,d a=Zb->ts { nx:=λb c=>D.nx (b.set j Zb) c,rt:=D.rt } (σ.set j (Za (.ref a))) (upd d a (zcp a C))
section
variable {rest:List ExceptHandler}
theorem ps_try (F:FnOk X.prog X.w X.K X.mg X.base (CXR X.prog X.w) k fa fd ps sp) (hr:Room k X.A) (Y:Gl X f) (W:X.mg f=Za (.ref fa)) (hk:PySem.W.keepIn X.K (.ref fa)=Zd) (hb:zfq X.K fd ps [])
  (ha:PA X.nox (e::es) ta) (K:(f==("__debug__" : Str))=Zc) (he:starEach (e::es) X.env=(Zc,eval e X.env)::starEach es X.env) (O:(backTo cp (starEach es X.env)).any (·.1)=Zc)
  (m:X.N.Nodup) (hi:X.N[i]?=Za y) (hy:Loc X.env.scope y) (M:X.fn y=Zd\/X.env.scope.names.lookup y=Za .local)
  (Q:X.stack=X.env::X.outer) (L:X.env.frame=Za X.env.locals) (gl:Gl X x) (c2:XCls X.K X.mg x C2) (G:(x==("__debug__" : Str))=Zc)
  (P:X.N[j]?=Za n) (S:X.env.scope.names.lookup n=Za .local) (l:X.env.kindOf n=Za .local) (hs:∀a,PSs (X.hdl a) (b₀::suite) ts) :
  PS X (.Try [.Assign [.Name y p] (.Call (.Name f fp) (e::es) [] cp) ap] (.ExceptHandler (Za (.Name x np)) (Za n) (b₀::suite) hp::rest) [] [] pos) (tTry sp ta X.K X.mg C2 i j ts):=by
 intro pins s σ H D I h;refine wpAny_Try_except (wpAny_execs_cons (wpAny_Assign_Name ?_ rfl));refine Gf (zjc I Y W ?_ K);refine PySem.W.callWith_K (h₀:=X.base) I.ok.mod.kin hk (Cs (ha cp pins s σ H _ (I.wish _) h) (λw t ⟨vs,B,b,r,q⟩=>⟨b.unwish.kIn,?_⟩) λ_ _ z=>z.elim) he O;have b:Inv X pins σ B t:=b.unwish;have hl:(w++[]).length=ps.length:=by rw[Bm,<-r.length];exact F.len _ _ _ _ q
 have V:=hb t w b.kIn hl;rw[Bm] at V;refine wpAny_call (codeAny_mono (F.run X.A X.stack t B ⟨w,[]⟩ w vs _ _ hr b.env0 V r q) λr s' c=>?_);cases r with
 | error ex =>
  have c:CXR X.prog X.w X.stack B t (λcls _ o=>∃C y,cls=.ref C/\XCls X.K X.mg y C/\subIn X.K C C2=Zd/\∀a,o a=Zb->ts { nx:=λd g=>D.nx (d.set j Zb) g,rt:=D.rt } (σ.set j (Za (.ref a))) (upd o a (zcp a C))) ex s':=c;refine z8r b Q L gl c2 G m P (.inl S) (.inr S) (λcls o ⟨C,T,J,U,R,_⟩=>⟨C,T,J,U,R⟩) c λa C o s6 ⟨C',T,J,U,R,Z⟩ fr I6 ea=>?_;cases J;refine Cs (hs a pins s6 _ _ _ (I6.hdl a) (Z a fr)) (λfl s7 z=>?_) λ_ _ z=>z;cases fl with
  | next =>
   obtain⟨d,g,A,z⟩:=z;exact zsz (A.unhdl I.ok) m P l λs8 E=>⟨_,_,E,z⟩
  | ret u =>
   obtain⟨v,d,g,A,N,z⟩:=z;exact zsz (A.unhdl I.ok) m P l λs8 E=>⟨v,_,g,E,N,z⟩
  |brk=>obtain⟨_,_,_,z⟩:=z;exact z.elim
  |cont=>obtain⟨_,_,_,z⟩:=z;exact z.elim
 | ok fl =>
  cases fl with
  | ret u =>
   obtain⟨v,g,I2,N,z⟩:=b.after c;refine zec I2 m hi hy N (λs2 I3=>?_) M;exact Ge (Ge ⟨_,g,I3,z⟩)
  |next=>exact False.elim c
  |brk=>exact False.elim c
  |cont=>exact False.elim c
end
theorem Rel.unk {K:Zg}(R:Rel K F pr en σ H)(i:Nat)(x:Option V):Rel K F pr (en.set i Zb) (σ.set i x) H:=by
 have g:∀(k:Nat) (w:W) (b:Bool),(en.set i Zb)[k]?=Za (Za (w,b))->k≠i/\en[k]?=Za (Za (w,b)):=λk w b e=>by
  by_cases d:k=i
  ·subst d;by_cases v:k<en.length
   ·rw[Bn v] at e;cases e
   ·rw[Bw (by rw[Bq];symm)] at e;cases e
  ·rw[Bt (Ne.symm d)] at e;exact⟨d,e⟩
 have f:∀k,k≠i->(σ.set i x)[k]?=σ[k]?:=λk d=>Bt (Ne.symm d);refine⟨by rw[Bq,Bq];exact R.len,R.sub,λk w e=>?_,λk w e=>?_,λk l a w r s u p n=>?_,λb o q=>?_,R.tb⟩
 ·obtain⟨h,c⟩:=g k w _ e;rw[f k h];exact R.val k w c
 ·obtain⟨h,c⟩:=g k w _ e;rw[f k h];exact R.own k w c
 ·obtain⟨h,c⟩:=g k w _ s;obtain⟨m,j⟩:=g l r _ u;rw[f k h] at p;rw[f l m] at n;exact R.inj k l a w r c j p n
 ·obtain⟨h,c,m⟩:=R.prt b o q;refine⟨h,c,λk w e=>?_⟩;obtain⟨j,t⟩:=g k w _ e;rw[f k j];exact m k w t
theorem Rel.more {K:Zg}(R:Rel K F pr en σ H)(s:Same H H'):Rel K F pr en σ H':=by
 refine⟨R.len,R.sub.trans s,R.val,λi w e=>?_,R.inj,λb o q=>?_,R.tb.go (λ_ _ z=>z) (λb p e f=>⟨s _ _ e,f⟩) (.refl F) λb p e h=>h⟩
 ·obtain⟨a,o,j, c,d,g,k⟩:=R.own i w e;exact⟨a,o,j,c,d,s _ _ g,k⟩
 ·obtain⟨c,d,g⟩:=R.prt b o q;exact⟨s _ _ c,d,g⟩
theorem tAs_mono {K:Zg}(w:∀vs H',Q vs H'->Q' vs H')(h:tAs K as σ H Q):tAs K as σ H Q':=by
 obtain⟨F,p,c,e,x,R,h,q⟩:=h;exact⟨F,p,c,e,x,R,h,λd H' vs s b a=>w _ _ (q d H' vs s b a)⟩
noncomputable def zt4 (mp:List Nat) (m:List Bool) (Φ:FnX) (as:GAs) (i jb jn:Nat) (a:List Str):GS:=λen0 =>
 if mp.contains i||mp.contains jb||mp.contains jn||decide (i=jb)||decide (jn=i)||decide (jn=jb) || !decide (i<en0.length) || !decide (jb<en0.length) || !decide (jn<en0.length) then Zb else
 match zaa m Φ.back as ((en0.set i (Za (.non,Zc))).set jb (Za (.non,Zc))) with
 |some p=>if p.2.2 then Zb else Za (p.1.set i (#v[p.2.1,6]),.ret (p.2.1,Zc))
 | none=>(a.find? λc=>#v[5,14].isSome).bind λc =>
  #v[5,14].bind λp=>Za ((p.1.set jn Zb).set jb Zb,.ret (.str c,Zc))
noncomputable def z4h (sp:Sp) (spR:Sp) (t:TA) (K:Zg) (m:Str->Option Ze) (C:Zh) (i jb jn:Nat):TS :=
 tSeq (tAsg (tTup (zaw (tC .non) (zaw (tC .non) tNil))) (gTup K 2 (zpo (ze9 i) (zpo (ze9 jb) gNil))))
  (tSeq (tTry sp t K m C i jn (tAsg (tVar jn) (ze9 jb))) (tRet (tIf (tB (tIsN (tVar jb))) (tVar i) (zni spR [] E0 (zaw (tVar jb) tNil)))))
theorem zth {K:Zg}
  (hR:∀c∈cs,∃C,mg c=Za (.ref C)/\XCls K mg c C/\subIn K C C2=Zd/\∀a H (Q:VK),H a=Za (zcp a C)->(∀H',Same H H'->Q (.str c) H')->spR [.ref a] H Q E0)
  (h:tS K mp (zt4 mp m Φ as i jb jn cs) D σ H):z4h (spX K mg m Φ) spR (tAs K as) K mg C2 i jb jn D σ H:=by
 obtain⟨F,N,n,en',fl,R,h,q⟩:=h;unfold zt4 at h;split at h
 ·exact noSome h
 ·rename_i z
  simp only [Cb,not_or,Bi,Cy,Eu,decide_eq_false_iff_not] at z;obtain ⟨⟨⟨⟨⟨⟨⟨⟨X,Y⟩,Z⟩,z4⟩,z5⟩,B⟩,M⟩,I⟩,z9⟩:=z;refine ⟨by decide,λp hp=>⟨p,_,rfl,SqT.of upd_same,rfl,.non,_,rfl,.non,_,rfl,rfl,?_⟩⟩;have u:Rel K F N ((n.set i (Za (.non,Zc))).set jb (Za (.non,Zc))) ((σ.set i (Za .non)).set jb (Za .non)) (upd H p (.tup [.non,.non])) :=
   ((R.lay hp _).store (r:=(.non,Zc)) (i:=i) (v:=.non) .non M).store (r:=(.non,Zc)) (i:=jb) (v:=.non) .non (by rw[Bq];exact I)
  have G:Keep mp σ ((σ.set i (Za .non)).set jb (Za .non)):=(Keep.set X _).trans (Keep.set Y _);have l:σ.length=n.length:=R.len.symm;generalize j:(σ.set i (Za V.non)).set jb (Za .non)=σ1 at u G ⊢;have o:σ1.length=σ.length:=by rw[<-j,Bq,Bq]
  have e1:σ1[jb]?=Za (Za .non):=by rw[<-j,Bn (by rw[Bq,l];exact I)]
  generalize S:(n.set i (#v[W.non,6])).set jb (#v[W.non,6])=en1 at u h;have le:en1.length=n.length:=by rw[<-S,Bq,Bq]
  cases e:zaa m Φ.back as en1 with
  | some P =>
   obtain⟨d,r⟩:=P;rw[e] at h;dsimp only at h;split at h
   ·exact noSome h
   ·rename_i hr
    obtain ⟨w,b⟩:=r;have hb:b=Zc:=by cases b with
     |true=>exact absurd rfl hr
     |false=>rfl
    subst hb;cases h;have c:=zg5 (K:=K) (σ:=σ1) (H:=upd H p (.tup [.non,.non])) (Q:=λv A=>(tRet (tIf (tB (tIsN (tVar jb))) (tVar i) (zni spR [] E0 (zaw (tVar jb) tNil)))) D (σ1.set i (Za v)) A) ⟨F,N,en1,d,(w,Zc),u,e,λk H' v s f y=>?_⟩
    ·refine tAs_mono (λT H' (g:spF K m Φ.back (T ++ []) H' _ E0) => ?_) c
     rw[Bm] at g;exact .inl g
    ·have t:(σ1.set i (Za v))[jb]? = Za (Za .non):=by rw [Bt z4];exact e1
     have e3:(σ1.set i (Za v))[i]?=Za (Za v):=Bn (by rw[o,l];exact M);refine⟨.non,t,Zd,rfl,?_⟩;refine iteT ⟨v,e3,q k _ H' v s (f.store (r:=(w,Zc)) (i:=i) y ?_) (G.trans (Keep.set X _)) y⟩;rw[f.len,o,l];exact M
  | none =>
   rw[e] at h;dsimp only at h;obtain⟨c,hc,h⟩:=bS h;obtain⟨⟨d,r⟩,h2,h⟩:=bS h;cases h;obtain⟨C,x,cC,sb,L⟩:=hR c (List.mem_of_find?_eq_some hc);have cr:=zg5 (K:=K) (σ:=σ1) (H:=upd H p (.tup [.non,.non])) (Q:=λ_ H'=>∃C y,Ze.ref C=.ref C/\XCls K mg y C/\subIn K C C2=Zd/\mg c=Za (.ref C)/\∀a,H' a=Zb->(tAsg (tVar jn) (ze9 jb)) { nx:=λO A=>(tRet (tIf (tB (tIsN (tVar jb))) (tVar i) (zni spR [] E0 (zaw (tVar jb) tNil)))) D (O.set jn Zb) A,rt:=D.rt } (σ1.set jn (Za (.ref a))) (upd H' a (zcp a C))) ⟨F,N,en1,d,r,u,h2,λk H' v s f y=>?_⟩
   ·refine tAs_mono (λT H' (g:spF K m (Φ.exc c) (T ++ []) H' _ E0) => ?_) cr
    rw[Bm] at g;refine .inr ⟨c,C,x,?_⟩;obtain⟨F1,J,ws,E,r1,q1,q2,q3,q4,q5⟩:=g;refine⟨F1,J,ws,E,r1,q1,q2,q3,q4,λk H' v s f y=>?_⟩;obtain⟨C',y',_,a2,a3,U,a5⟩:=q5 k H' v s f y;rw[x] at U;cases U;exact⟨C,y',rfl,a2,a3,a5⟩
   ·refine ⟨C,c,rfl,cC,sb,x,λa fr => ?_⟩
    have hn:jn<σ1.length:=by rw[o,l];exact z9
    have lj:jb<σ1.length:=by rw[o,l];exact I
    have t:((((σ1.set jn (Za (V.ref a))).set jb (Za (.ref a))).set jn Zb))[jb]?=Za (Za (.ref a)):=by
     rw[Bt B,Bn (by rw[Bq];exact lj)]
    refine ⟨.ref a,Bn hn,?_⟩;have go:(tRet (tIf (tB (tIsN (tVar jb))) (tVar i) (zni spR [] E0 (zaw (tVar jb) tNil)))) D ((((σ1.set jn (Za (V.ref a))).set jb (Za (.ref a))).set jn Zb)) (upd H' a (zcp a C)):=by
     refine ⟨.ref a,t,Zc,rfl,?_⟩;refine iteF ⟨.ref a,t,L a _ _ upd_same λH3 s3=>?_⟩;have RR:=(((f.lay fr (zcp a C)).unk jn Zb).unk jb (Za (.ref a)));have es:((σ1.set jn (Za (V.ref a))).set jb (Za (.ref a))).set jn Zb=(σ1.set jn Zb).set jb (Za (.ref a)):=by
      rw[List.set_comm _ _ B,List.set_set,List.set_comm _ _ (Ne.symm B)]
     rw[<-es] at RR;exact q k _ H3 (.str c) s (RR.more s3) (G.trans ((Keep.set Z _).trans ((Keep.set Y _).trans (Keep.set Z _)))) (.str c)
    exact go
theorem z5f:swappedStores [.Tuple [.Name x px,.Name y py] kt pt] (.Tuple [.Constant .none j1 p1,.Constant .none j2 p2] k2 pt2) env=pure Zb:=by
 have f:([Zi.Constant .none j1 p1,.Constant .none j2 p2].all (foldedForSure 8))=Zd:=rfl;unfold swappedStores;dsimp only;simp only [f,Fe];split
 ·rfl
 ·split
  ·rfl
  ·split
   ·rfl
   ·rfl
section
variable
 {py pb pt pt2 p1 p2 ap0 pb' pn ap2 tp pb2 p3 cp2 py2 gp pb3 cp3 ip rp:Pos}
theorem zvl (O:X.calm=Zd) (F:FnOk X.prog X.w X.K X.mg X.base (CXR X.prog X.w) k fa fd ps sp) (D:Room k X.A) (I:Gl X f) (E:X.mg f=Za (.ref fa)) (M:PySem.W.keepIn X.K (.ref fa)=Zd) (S:zfq X.K fd ps [])
  (N:PA X.nox (e::es) ta) (o:(f==("__debug__" : Str))=Zc) (R:starEach (e::es) X.env=(Zc,eval e X.env)::starEach es X.env) (s:(backTo cp (starEach es X.env)).any (·.1)=Zc)
  (G:FnOk X.prog X.w X.K X.mg X.base CX0 k ga gd pg spR) (T:Gl X g) (L:X.mg g=Za (.ref ga)) (J:PySem.W.keepIn X.K (.ref ga)=Zd) (P:zfq X.K gd pg []) (v:(g==("__debug__" : Str))=Zc)
  (l:X.N.Nodup) (w:X.N[i]?=Za y) (j:X.env.scope.names.lookup y=Za .local) (c:X.N[jb]?=Za b) (h:X.env.scope.names.lookup b=Za .local)
  (t:X.stack=X.env::X.outer) (r:X.env.frame=Za X.env.locals) (H:Gl X x) (K:XCls X.K X.mg x C2) (m:(x==("__debug__" : Str))=Zc)
  (C:X.N[jn]?=Za n) (B:X.env.scope.names.lookup n=Za .local) (u:X.env.kindOf n=Za .local)
  (d:∀z,z=y\/z=b\/z=n->(z==("__debug__" : Str))=Zc/\(z==("__classdict__" : Str))=Zc) :
  PSs X [.Assign [.Tuple [.Name y py,.Name b pb] kt pt] (.Tuple [.Constant .none j1 p1,.Constant .none j2 p2] k2 pt2) ap0,
   .Try [.Assign [.Name y p] (.Call (.Name f fp) (e::es) [] cp) ap] [.ExceptHandler (Za (.Name x np)) (Za n) [.Assign [.Name b pb'] (.Name n pn) ap2] hp] [] [] tp,
   .Return (Za (.IfExp (.Compare (.Name b pb2) [.Is] [.Constant .none j3 p3] cp2) (.Name y py2) (.Call (.Name g gp) [.Name b pb3] [] cp3) ip)) rp] (z4h sp spR ta X.K X.mg C2 i jb jn):=by
 have Q:PE X (.Name y py2) (tVar i):=zd9 w (.inl j) (d y (.inl rfl)).1 (d y (.inl rfl)).2;have A:∀{q:Pos},PE X (.Name b q) (tVar jb):=zd9 c (.inl h) (d b (.inr (.inl rfl))).1 (d b (.inr (.inl rfl))).2;refine zb1 (zt8 (z02 (zal zsx (zal zsx zbb))) (z0o O (ziw (zik l w (.inl j) (.inr j)) (ziw (zik l c (.inl h) (.inr h)) ztk))) znv z5f) (zb1 ?_ (pss_one ?_))
 ·refine ps_try F D I E M S N o R s l w (.inl j) (.inr j) t r H K m C B u λa=>pss_one ?_;exact zj2 (X:=X.hdl a) l c (.inl h) (zd9 (X:=X.hdl a) C (.inl B) (d n (.inr (.inr rfl))).1 (d n (.inr (.inr rfl))).2) rfl (.inr h)
 ·exact zkv (znw (z0h (z7w A)) Q (zry G D T L J P .nil z51 (zal A zbb) v))
end
end L2
namespace PySem
open Sem (wp)
section
variable {os:OsState}{K:Zg}
theorem zqa (j:h.get? C=Za (excClassObj nm q C N bs bm hdct sn sub ab col dd k0 k1 k2 k3 k5 newId)) (i:bm.contains (.type "object")=Zd)
  (e:h.get? a=Za o) (f:o.cls=.ref C) (k:R (.ok (.ret (.ref C))) ⟨h,g,d,t,os⟩) :
  codeAny (model prog w) A (.call (.builtin "getset_descriptor.__get__") ⟨[.builtin "object.__class__",.ref a,.ref C],[]⟩) R ⟨h,g,d,t,os⟩:=by
 have b:(⟨h,g,d,t,os⟩:Zf).TypeIs (.builtin "object.__class__") "getset_descriptor" := F.typeOf_object_class;have c:(Ze.ref C::bm).contains (.type (".".intercalate ("object.__class__".cutAt '.').dropLast))=Zd:=by
  rw[F.owner_object_class,List.contains_cons,i];rfl
 refine codeAny_call_builtin F.slot_gs_get.plain F.entry_gs_get (F.slot_gs_get.check _ _ _ _ _ _ _ _ b (F.args_gs_get _ _ _) ?_)
 repeat (any_goals (first|assumption|(with_reducible refine Ee e ?_;rw[f])|(with_reducible refine Gz j ?_;rw[c])|wp_step))
 refine⟨Code.quiet_builtin _ (by decide +kernel),codeAny_builtin F.entry_object_class ?_⟩
 repeat (any_goals (first|assumption|(with_reducible refine Ee e ?_;rw[f])|wp_step))
theorem zll (X:K.In h) (j:PySem.W.findIn K (.ref C) "__class__" = Za (Za (.builtin "object.__class__"))) (f:h.get? C=Za (excClassObj nm q C N bs bm hdct sn sub ab col dd k0 k1 k2 k3 k5 newId)) (e:bm.contains (.type "object")=Zd)
  (b:h.get? a=Za o) (c:o.cls=.ref C) (n:Q (.done (.ret (.ref C))) ⟨h,g,d,t,os⟩) :
  wpAny (model prog w) A (Builtin.«object.__getattribute__» ⟨[.ref a,.str "__class__" tk],[]⟩) Q E ⟨h,g,d,t,os⟩:=by
 have i:(⟨h,g,d,t,os⟩:Zf).TypeIs (.builtin "object.__class__") "getset_descriptor" := F.typeOf_object_class;have l:=F.typeOf_object_class;have k:=F.slot_gs_get.lookup;have m:=F.slot_gs_set.lookup
 repeat (any_goals (first|assumption|(with_reducible refine Ee b ?_;rw[c])|(with_reducible refine (PySem.W.looks_findIn (M:=model prog w) X j).at ?_)|wp_step))
 refine zqa f e b c ?_
 repeat (any_goals (first|assumption|wp_step))
theorem zq2 (i:h.get? C=Za (excClassObj nm q C N bs bm hdct sn sub ab col dd k0 k1 k2 k3 k5 newId)) (j:bm.contains (.type "BaseException")=Zd)
  (e:h.get? a=Za o) (f:o.cls=.ref C) (l:Q () ⟨h,g,d,t,os⟩):wpAny M A (checkBuiltinCall "BaseException.__getattribute__" ⟨[.ref a,nameV],[]⟩) Q E ⟨h,g,d,t,os⟩:=by
 have k:builtinKind "BaseException.__getattribute__" = Za .slot:=by decide +kernel
 have b:splitId "BaseException.__getattribute__" = Za ("BaseException","__getattribute__"):=by decide +kernel
 have c:(Ze.ref C::bm).contains (.type "BaseException")=Zd:=by rw[List.contains_cons,j];rfl
 have m:=F.args_bexc_ga (.ref a) nameV;simp only [checkBuiltinCall,k,b];refine Aa ?_
 ·unfold isInstance
  repeat (first|(with_reducible refine Ee e ?_;rw[f])|(with_reducible refine Gz i ?_;rw[c])|wp_step)
  exact l
theorem zmh (X:K.In h) (k:PySem.W.findIn K (.ref C) "__class__" = Za (Za (.builtin "object.__class__"))) (e:h.get? C=Za (excClassObj nm q C N bs bm hdct sn sub ab col dd k0 k1 k2 k3 k5 newId)) (f:bm.contains (.type "object")=Zd) (i:bm.contains (.type "BaseException")=Zd)
  (b:h.get? a=Za o) (c:o.cls=.ref C) (j:R (.ok (.ret (.ref C))) ⟨h,g,d,t,os⟩) :
  codeAny (model prog w) A (.call (.builtin "BaseException.__getattribute__") ⟨[.ref a,.str "__class__" tk],[]⟩) R ⟨h,g,d,t,os⟩ :=
 codeAny_call_builtin (by decide +kernel) F.entry_bexc_ga (zq2 e i b c (zll X k e f b c j))
theorem zr1 (X:K.In h) (n:PySem.W.findIn K (.ref C) "__class__" = Za (Za (.builtin "object.__class__"))) (j:PySem.W.findIn K (.ref C) "__getattribute__" = Za (Za (.builtin "BaseException.__getattribute__"))) (i:PySem.W.findIn K (.ref C) "__getattr__" = Za Zb)
  (k:h.get? C=Za (excClassObj nm q C N bs bm hdct sn sub ab col dd k0 k1 k2 k3 k5 newId)) (f:bm.contains (.type "object")=Zd) (l:bm.contains (.type "BaseException")=Zd)
  (c:h.get? a=Za o) (e:o.cls=.ref C) (p:Q (.ref C) ⟨h,g,d,t,os⟩):wpAny (model prog w) A (getAttrBy (.ref a) (.str "__class__" tk) Zc) Q E ⟨h,g,d,t,os⟩:=by
 have f3:=F.excAttr_ValueError.ga.bind (.ref a);have b:(Ze.builtin "BaseException.__getattribute__" == Ze.builtin "object.__getattribute__")=Zc:=by decide +kernel
 have m:(onTheHeap (Ze.ref C)&&Ze.builtin "BaseException.__getattribute__" == Ze.builtin "object.__getattribute__")=Zc:=by rw[b];rfl
 repeat (any_goals (first|assumption|(with_reducible refine Ee c ?_;rw[e])|(with_reducible refine (PySem.W.looks_findIn (M:=model prog w) X j).at ?_)|(with_reducible refine (PySem.W.looks_findIn (M:=model prog w) X i).at ?_)|wp_step))
 refine zmh X n k f l c e ?_
 repeat (any_goals (first|assumption|wp_step))
theorem zmf (X:K.In h) (l:PySem.W.findIn K (.ref C) "__class__" = Za (Za (.builtin "object.__class__"))) (i:PySem.W.findIn K (.ref C) "__getattribute__" = Za (Za (.builtin "BaseException.__getattribute__"))) (f:PySem.W.findIn K (.ref C) "__getattr__" = Za Zb)
  (j:h.get? C=Za (excClassObj nm q C N bs bm hdct sn sub ab col dd k0 k1 k2 k3 k5 newId)) (c:bm.contains (.type "object")=Zd) (k:bm.contains (.type "BaseException")=Zd)
  (b:h.get? a=Za o) (e:o.cls=.ref C) (m:Q (Za (.ref C)) ⟨h,g,d,t+1,os⟩):wpAny (model prog w) A (getAttr? (.ref a) "__class__") Q E ⟨h,g,d,t,os⟩:=by
 unfold getAttr? getAttrBy?
 repeat (any_goals (first|assumption|with_reducible apply zr1 X l i f j c k b e|wp_step))
end
end PySem
namespace L2
open PySem PySem.Spec PyProof.Rows
noncomputable def excQ (K:Zg) (C:Zh):Bool:=PySem.W.findIn K (.ref C) "__class__" == Za (Za (.builtin "object.__class__"))&&PySem.W.findIn K (.ref C) "__getattribute__" == Za (Za (.builtin "BaseException.__getattribute__"))&&PySem.W.findIn K (.ref C) "__getattr__" == Za Zb
theorem zzt {K:Zg}(j:XCls K mg y C)(q:excQ K C=Zd):PySem.W.KitX K (.ref a) (.ref C) (λh=>∃o,h.get? a=Za o/\o.cls=.ref C) where
 ty:=λ_ _ _ ⟨_,f,l⟩=>l ▸ (PySem.W.Looks.ld f).andThen .now
 it:=λ_ h X _=>by
  obtain⟨_,_,_,_,_,_,_,_,_,_,_,_,_,_,_,_,_,_,c⟩:=j.obj X;have b:=(c _ X).1;intro A Q E u k q;unfold isType loadHead;exact Aa (wpAny_loadPart (k _ _ b) (Ar q))
 ne:=λh tp p m n r X i=>by
  obtain⟨_,_,_,_,_,_,_,_,_,_,_,_,_,_,_,_,_,_,c⟩:=j.obj X;have b:=(c _ X).1;refine Bool.eq_false_iff.mpr λq=>?_;have e:C=tp:=Ze.ref.inj (Fs.mp q);subst e;have z:=congrArg Obj.cls (sI (b.symm.trans i));exact absurd (Ze.type.inj z) (by decide)
 ca:=λ{_ _ _ _ _ s} X ⟨o,f,l⟩ k=>by
  obtain⟨h,g,d,t,w⟩:=s;obtain⟨_,_,_,_,_,_,_,_,_,_,_,_,_,_,_,_,_,_,c⟩:=j.obj X;obtain⟨b,_,T⟩:=c _ X;unfold excQ at q;simp only [Af,Fs] at q;exact zmf X q.1.1 q.1.2 q.2 b (T.hasType (by decide)) (T.hasType (by decide)) f l k
theorem zxo (I:Inv X pins σ H s) (d:XCls X.K X.mg y C) (q:excQ X.K C=Zd) (e:H a=Za (zcp a C)) (k:PySem.W.kitOne X.K (.ref C) c=Za b) (h:∀tk,Q (.bool b) { s with toks:=tk }) :
  wpAny #v[1,7] A (call (.builtin "isinstance") [.ref a,c]) Q E s :=
 Co (zzt d q) I.kIn (show zbh X.prog X.w H s.heap a (zcp a C) from I.hok a _ e).1 k (λz=>nomatch z) h
noncomputable def rXi (K:Zg) (m:Str->Option Ze):List V->Hp->VK->Prop:=λx H Q=>∃a C y c b,x=[.ref a,c]/\H a=Za (zcp a C)/\XCls K m y C/\excQ K C=Zd/\(∃u,RelV c u/\PySem.W.kitOne K (.ref C) u=Za b/\((∃D,c=.ref D)\/∃T,c=.ty T))/\Q (.bl b) H
theorem zs8:zdo X (.builtin "isinstance") (rXi X.K X.mg):=by
 intro pins s σ H x p Q I r h;nofun;obtain⟨a,C,y,c,b,rfl,e,j,q,⟨u,g,o,l⟩,n⟩:=h;ac_rfl;cases r with
 | cons i m =>
  obtain ⟨d,rfl,f⟩:=vals1 m;cases (show _=Ze.ref a from i);have k:d=u:=by
   rcases l with⟨D,rfl⟩|⟨T,rfl⟩
   ·exact (show d=Ze.ref D from f).trans (show u=Ze.ref D from g).symm
   ·exact (show d=Ze.type T from f).trans (show u=Ze.type T from g).symm
  subst k;exact zxo I j q e o λt=>⟨.bl b,H,I.tok _,rfl,n⟩
theorem z3l (g:Gl X x)(c:X.mg x=Za (.ref D))(a:(x==("__debug__" : Str))=Zc):PE X (.Name x pos) (tC (.ref D)):=λpins s σ H Q I h =>
 zjc I g c ⟨.ref D,H,I,rfl,h⟩ a
section
variable {K:Zg}
theorem AllFn.mono (h:AllFn P w K mg base T d Ψ):AllFn P w K mg base T (d+1) Ψ:=λu a f b F M=>(h u a f b F M).mono (Nat.le_succ d)
theorem zuv (ok:∀t∈T,FdOk K mg t)(hb:∀x∈bn,mg x=Zb)(kb:K.In base)(nb:base.Ns mainGlobals mg)(q:("g SIGNS" : Str)∈bn->∃t,mg "SIGNS" = Za (.str "abcdef" t))
 (N:AllFn P w K mg base T d Ψ) (o:FdOk K mg t) (F:Fun K t.nm t.nm t.st f fd) (M:mg t.nm=Za (.ref f))
 {fp p cp Y hp pos np py pb pt B p1 p2 l U pn S tp O p3 r R gp j v ip rp:Pos}
  (g:zbi t.st=[.Assign [.Tuple [.Name y py,.Name b pb] kt pt] (.Tuple [.Constant .none j1 p1,.Constant .none j2 p2] k2 B) l,
   .Try [.Assign [.Name y p] (.Call (.Name fn fp) (e::es) [] cp) Y] [.ExceptHandler (Za (.Name xn np)) (Za n) [.Assign [.Name b U] (.Name n pn) S] hp] [] [] tp,
   .Return (Za (.IfExp (.Compare (.Name b O) [.Is] [.Constant .none j3 p3] r) (.Name y R) (.Call (.Name gn gp) [.Name b j] [] v) ip)) rp])
 (FA:FnOk P w K mg base (CXR P w) (d+1) fa fda ps (spX K mg m Φ)) (J:mg fn=Za (.ref fa)) (u:PySem.W.keepIn K (.ref fa)=Zd) (D:zfq K fda ps [])
 (G:FnOk P w K mg base CX0 (d+1) ga gda pg spR) (gm:mg gn=Za (.ref ga)) (gk:PySem.W.keepIn K (.ref ga)=Zd) (gb:zfq K gda pg [])
 (c2:XCls K mg xn C2) (hi:t.N[i]?=Za y) (I:t.N[jb]?=Za b) (hj:t.N[jn]?=Za n)
  (ly:(zab t.st).names.lookup y=Za .local) (lb:(zab t.st).names.lookup b=Za .local) (V:(zab t.st).names.lookup n=Za .local)
  (lf:(zab t.st).names.lookup fn=Za .globalImplicit) (lx:(zab t.st).names.lookup xn=Za .globalImplicit) (Z:(zab t.st).names.lookup gn=Za .globalImplicit)
  (df:(fn==("__debug__" : Str))=Zc) (dx:(xn==("__debug__" : Str))=Zc) (dg:(gn==("__debug__" : Str))=Zc) (nd:∀z,z=y\/z=b\/z=n->(z==("__debug__" : Str))=Zc/\(z==("__classdict__" : Str))=Zc)
 (has:asM (compE deep) (sxOf T bn Ψ (d+1) t) (e::es) m=Za as)
  (hR:∀c∈cs,∃C,mg c=Za (.ref C)/\XCls K mg c C/\subIn K C C2=Zd/\∀a H (Q:VK),H a=Za (zcp a C)->(∀H',Same H H'->Q (.str c) H')->spR [.ref a] H Q E0) :
  FnOk P w K mg base CX0 (d+2) f fd t.ps (spF K t.m (zag t.m t.N.length (zt4 (mpOf t.m) m Φ as i jb jn cs))):=by
 refine F.okX (CX:=CX0) (k:=d+1) o.sc (λvs H Q E h=>(zgx h).trans o.m) λA outer s H vs Q E W h=>?_;have C:=znp (CX:=CX0) (outer:=outer) (H:=H) (E:=E) ok hb kb nb q N.mono o F M W;obtain⟨pa,L⟩:=zsd (zcc deep).1 C has;rw[Dj,Af] at L;rw[g];refine⟨z4h (spX K mg m Φ) spR (tAs K as) K mg C2 i jb jn,?_,zth hR (zgd h)⟩;exact zvl (X:=cxOf CX0 P w K mg base t.N t.nm (zab t.st) f fd.code A outer s H E) rfl FA W.1 (C.gl fn lf) J u D pa df (zah L.1) (zja L.2) G (C.gl gn Z) gm gk gb dg
  o.sc.nd hi (C.loc y ly) I (C.loc b lb) rfl rfl (C.gl xn lx) c2 dx hj (C.loc n V) (C.loc n V) nd
end
theorem zi2:∀{bs:List Bool}{u:List Ze},Vals (bs.map V.bl) u->u=bs.map Ze.bool
 |[],_,.nil=>rfl
 | b::bs,_,.cons (b:=y) r h=>by
  cases (show y=Ze.bool b from r);rw[zi2 h];rfl
theorem z00 (k:Bool){bs:List Bool}{A:Around}{s:Zf}:∀y,y∈bs.map Ze.bool->PySem.SeqAt.EqAt A s y (.bool k) (isBoolOf k y):=λy h=>by
 obtain⟨b,_,rfl⟩:=Do.mp h;exact PySem.SeqAt.EqAt.bool_bool b k
theorem zqw (k:Bool):∀bs:List Bool,(bs.map Ze.bool).countP (isBoolOf k)=bs.count k
 |[]=>rfl
 | b::bs=>by
  rw[Aw,List.countP_cons,List.count_cons,zqw k bs]
  rfl
noncomputable def z61:V->List V->Hp->VK->Prop:=λx v H Q=>∃(l:Zh) (bs:List Bool) (k:Bool),x=.ref l/\v=[.bl k]/\H l=Za (.lst (bs.map V.bl))/\Q (.int (bs.count k:Nat)) H
noncomputable def z5o:V->List V->Hp->VK->Prop:=λx v H Q=>∃(l:Zh) (bs:List Bool) (k:Bool) (j:Nat),x=.ref l/\v=[.bl k]/\H l=Za (.lst (bs.map V.bl))/\bs[j]?=Za k/\(∀m,m<j->bs[m]?=Za (!k))/\Q (.int (j:Nat)) H
theorem z4w:MtR X "list.count" z61:=by
 intro pins s σ H x j v m Q I a f h;obtain⟨l,bs,k,rfl,rfl,c,q⟩:=h;cases a;obtain⟨u,rfl,d⟩:=f.one;cases (show u=Ze.bool k from d);obtain⟨z,i,n,r,g,e⟩:=I.lstM c;obtain rfl:=zi2 r;refine Gu PySem.F.slot_list_count ⟨_,e,rfl⟩ PySem.F.entry_list_count (PySem.F.args_list_count_2 _ _)
  (PySem.SeqAt.list_countAt l (bs.map Ze.bool).toArray n Zb #[] (.bool k) (isBoolOf k)) ⟨e,λy b=>z00 k y (by simpa using b),?_⟩
 rw[show (bs.map Ze.bool).toArray.toList=bs.map Ze.bool from rfl,zqw k];exact⟨.int _,H,I.tok _,⟨_,rfl⟩,q⟩
theorem z3g:MtR X "list.index" z5o:=by
 intro pins s σ H x E v F Q I p o h;obtain⟨l,bs,k,j,rfl,rfl,t,c,d,q⟩:=h;cases p;obtain⟨u,rfl,w⟩:=o.one;cases (show u=Ze.bool k from w);obtain⟨z,i,n,r,D,e⟩:=I.lstM t;obtain rfl:=zi2 r;have A:j<bs.length:=(Ag.mp c).1;have B:bs.length<=sizeLine:=by simpa using z
 have C:sizeLine<2^63-1:=by decide
 refine Gu Fu ⟨_,e,rfl⟩ PySem.F.entry_list_index (PySem.F.args_list_index_2 _ _)
  (PySem.SeqAt.list_indexAt l (bs.map Ze.bool).toArray n Zb #[] (.bool k) (isBoolOf k) j (by simpa using A) (by symm) ?_ λm a b=>?_) ⟨e,λy f=>z00 k y (by simpa using f),?_⟩
 ·have:bs[j]=k:=(Ag.mp c).2;simp [isBoolOf,this]
 ·have g:=d m b;have:bs[m]'(by simpa using a)=!k:=(Ag.mp g).2;simp [isBoolOf,this]
 ·exact⟨.int _,H,I.tok _,⟨_,rfl⟩,q⟩
noncomputable def tIs (C:Zh) (b:Bool):TE:=λσ H Q=>(∃a,σ[0]?=Za (Za (.ref a))/\H a=Za (zcp a C))/\Q (.bl b) H
noncomputable def Und (K:Zg) (m:Str->Option Ze) (C:Zh) (D:Str) (b:Bool):Prop:=(∃a,m D=Za (.ref a)/\PySem.W.kitOne K (.ref C) (.ref a)=Za b)
noncomputable def tRef (K:Zg) (C:Zh) (f a e b c g d:Bool):TS :=
 tSeq (tAsg (tLst (zaw (tIs C f) (zaw (tIs C a) (zaw (tIs C e) tNil)))) (ze9 1))
 (tSeq (tAsg (tOp rCat (tVar 1) (tLst (zaw (tIs C b) (zaw (tIs C c) tNil)))) (ze9 1))
 (tSeq (z3p (tBM K "list" zme (tVar 1) (zaw (tIs C g) tNil)))
 (tSeq (tIfS (tOr (tB (tNeI (tBM K "list" z61 (tVar 1) (zaw (tC (.bl Zd)) tNil)) (tC (.int 1)))) (tNot (tB (tIs C d)))) (tRet (tC (.str "other"))) zzb)
 (tRet (tOp (rIxL K) (tLst (zaw (tC (.str "NoFit")) (zaw (tC (.str "NoLine")) (zaw (tC (.str "NoMost")) (zaw (tC (.str "NotIn")) (zaw (tC (.str "NoText")) (zaw (tC (.str "TooFar")) tNil))))))) (tBM K "list" z5o (tVar 1) (zaw (tC (.bl Zd)) tNil)))))))
section
variable {y cn mn:Str}
theorem zpk (f:XCls X.K X.mg y C) (q:excQ X.K C=Zd) (d:X.N[0]?=Za cn) (l:X.env.scope.names.lookup cn=Za .local) (n:(cn==("__debug__" : Str))=Zc/\(cn==("__classdict__" : Str))=Zc)
  (i:Gl X "isinstance") (m:X.mg "isinstance" = Zb) (s:Gl X D) (u:Und X.K X.mg C D b) (r:(D==("__debug__" : Str))=Zc):PE X (.Call (.Name "isinstance" p) [.Name cn p1,.Name D p2] [] pos) (tIs C b):=by
 obtain⟨c,e,k⟩:=u;refine (zbm zs8 i m zcl (zal (zd9 d (.inl l) n.1 n.2) (zal (z3l s e r) zbb))).wk λσ H Q h=>?_;obtain⟨⟨a,g,j⟩,o⟩:=h;exact⟨.ref a,g,a,C,y,.ref c,b,rfl,j,f,q,⟨.ref c,rfl,k,.inl ⟨c,rfl⟩⟩,o⟩
theorem z86 (c:XCls X.K X.mg y C) (q:excQ X.K C=Zd) (b:X.N[0]?=Za cn) (l:X.env.scope.names.lookup cn=Za .local) (n:(cn==("__debug__" : Str))=Zc/\(cn==("__classdict__" : Str))=Zc)
  (g:Gl X "isinstance") (m:X.mg "isinstance" = Zb) (j:Gl X "ValueError") (f:X.mg "ValueError" = Zb) (k:PySem.W.kitOne X.K (.ref C) (.type "ValueError")=Za bv):PE X (.Call (.Name "isinstance" p) [.Name cn p1,.Name "ValueError" p2] [] pos) (tIs C bv):=by
 refine (zbm zs8 g m zcl (zal (zd9 b (.inl l) n.1 n.2) (zal (zvd (v:=.ty "ValueError") j f (by decide +kernel) rfl) zbb))).wk λσ H Q h=>?_;obtain⟨⟨a,d,e⟩,i⟩:=h;exact⟨.ref a,d,a,C,y,.ty "ValueError",bv,rfl,e,c,q,⟨.type "ValueError",rfl,k,.inr ⟨_,rfl⟩⟩,i⟩
theorem zmz {q1 q2 q3 q4 q5 q6 q7 q8 q9 D G q12 H u A s q17 O w P q21 z Q q24 K Z Y x r1 r2 r3 r4 r5 r6 r7 r8 r9 r f E r13 d k i S r18 I F N J T r24 t r26 o L W M U b r33 e V R:Pos} (c:XCls X.K X.mg y C) (q:excQ X.K C=Zd) (hN:X.N.Nodup) (h:X.N[0]?=Za cn) (B:X.N[1]?=Za mn) (l:X.env.scope.names.lookup cn=Za .local) (a:X.env.scope.names.lookup mn=Za .local)
  (n:(cn==("__debug__" : Str))=Zc/\(cn==("__classdict__" : Str))=Zc) (nm:(mn==("__debug__" : Str))=Zc/\(mn==("__classdict__" : Str))=Zc) (g:Gl X "isinstance") (m:X.mg "isinstance" = Zb)
  (g1:Gl X "NoFit") (g2:Gl X "NoLine") (g3:Gl X "NoMost") (g4:Gl X "NotIn") (g5:Gl X "NoText") (g6:Gl X "TooFar") (gv:Gl X "ValueError") (mv:X.mg "ValueError" = Zb)
  (u1:Und X.K X.mg C "NoFit" b1) (u2:Und X.K X.mg C "NoLine" b2) (u3:Und X.K X.mg C "NoMost" b3) (u4:Und X.K X.mg C "NotIn" b4) (u5:Und X.K X.mg C "NoText" b5) (u6:Und X.K X.mg C "TooFar" b6) (uv:PySem.W.kitOne X.K (.ref C) (.type "ValueError")=Za bv)
  (l1:(r.endLine==f.line)=Zd) (l2:(d.endLine==i.line)=Zd) (l3:(b.endLine==e.line)=Zd) :
  PSs X [.Assign [.Name mn r1] (.List [.Call (.Name "isinstance" q1) [.Name cn q2,.Name "NoFit" q3] [] q4,.Call (.Name "isinstance" q5) [.Name cn q6,.Name "NoLine" q7] [] q8,.Call (.Name "isinstance" q9) [.Name cn D,.Name "NoMost" G] [] q12] r2) r3,
   .Assign [.Name mn r4] (.BinOp (.Name mn r5) .Add (.List [.Call (.Name "isinstance" H) [.Name cn u,.Name "NotIn" A] [] s,.Call (.Name "isinstance" q17) [.Name cn O,.Name "NoText" w] [] P] r6) r7) r8,
   .Expr (.Call (.Attribute (.Name mn r9) "append" r) [.Call (.Name "isinstance" q21) [.Name cn z,.Name "TooFar" Q] [] q24] [] f) E,
   .If (.BoolOp .Or [.Compare (.Call (.Attribute (.Name mn r13) "count" d) [.Constant (.bool Zd) j1 k] [] i) [.NotEq] [.Constant (.int 1) j2 S] r18,.UnaryOp .Not (.Call (.Name "isinstance" K) [.Name cn Z,.Name "ValueError" Y] [] x) I] F) [.Return (Za (.Constant (.str "other") j3 N)) J] [] T,
   .Return (Za (.Subscript (.List [.Constant (.str "NoFit") j4 r24,.Constant (.str "NoLine") j5 t,.Constant (.str "NoMost") j6 r26,.Constant (.str "NotIn") j7 o,.Constant (.str "NoText") j8 L,.Constant (.str "TooFar") j9 W] M) (.Call (.Attribute (.Name mn U) "index" b) [.Constant (.bool Zd) j10 r33] [] e) V)) R] (tRef X.K C b1 b2 b3 b4 b5 b6 bv):=by
 have j:∀{p:Pos},PE X (.Name mn p) (tVar 1):=zd9 B (.inl a) nm.1 nm.2;refine zb1 (zj2 hN B (.inl a) (zpi (zal (zpk c q h l n g m g1 u1 (by decide)) (zal (zpk c q h l n g m g2 u2 (by decide)) (zal (zpk c q h l n g m g3 u3 (by decide)) zbb)))) rfl (.inr a)) ?_;refine zb1 (zj2 hN B (.inl a) (z9a z0l j (zpi (zal (zpk c q h l n g m g4 u4 (by decide)) (zal (zpk c q h l n g m g5 u5 (by decide)) zbb)))) rfl (.inr a)) ?_;refine zb1 (zu5 (zl6 Da PySem.F.slot_list_append PySem.F.type_list_append zgh j (zal (zpk c q h l n g m g6 u6 (by decide)) zbb) rfl rfl l1)) ?_;refine zb1 (z4j (PW.pt (z6n (z0h (z9e (zl6 Da PySem.F.slot_list_count PySem.F.type_list_count z4w j (zal z26 zbb) rfl rfl l2) z0u)) (z0v (z0y (zz9 (z86 c q h l n g m gv mv uv)))))) (pss_one (zkv zfj)) znf) ?_;exact pss_one (zkv (z5u zq5 (zpi (zal zfj (zal zfj (zal zfj (zal zfj (zal zfj (zal zfj zbb))))))) (zl6 Da Fu PySem.F.type_list_index z3g j (zal z26 zbb) rfl rfl l3) (zhr rfl)))
end
theorem z6s {c:Bool}{p q:Prop}(e:c=Zc)(h:q):if c=Zd then p else q:=by subst e;exact h
theorem zv6 {K:Zg}{Q:VK}{j:Nat}{nm:Str} (c:H a=Za (zcp a C)) (r:bv=Zd) (u:[b1,b2,b3,b4,b5,b6].count Zd=1) (v:[b1,b2,b3,b4,b5,b6][j]?=Za Zd) (t:∀m,m<j->[b1,b2,b3,b4,b5,b6][m]?=Za Zc)
  (b:(["NoFit","NoLine","NoMost","NotIn","NoText","TooFar"]:List Str)[j]?=Za nm) (h:∀H',Same H H'->Q (.str nm) H'):tRef K C b1 b2 b3 b4 b5 b6 bv { nx:=λ_ H'=>Q .non H',rt:=Q } [Za (.ref a),Zb] H:=by
 have lt:∀p,H p=Zb->a≠p:=λp i z=>by subst z;rw[i] at c;cases c
 refine⟨⟨a,rfl,c⟩,⟨a,rfl,c⟩,⟨a,rfl,c⟩,show 3<=sizeLine by decide,λp i=>?_⟩;have s:Same H (upd H p (.lst [.bl b1,.bl b2,.bl b3])):=Same.new i _;refine⟨.ref p,rfl,⟨a,rfl,s _ _ c⟩,⟨a,rfl,s _ _ c⟩,show 2<=sizeLine by decide,λo g=>?_⟩;have f:=Same.new g (.lst [.bl b4,.bl b5]);refine⟨p,o,[.bl b1,.bl b2,.bl b3],[.bl b4,.bl b5],rfl,rfl,f _ _ upd_same,upd_same,show 5<=sizeLine by decide,λd e=>?_⟩;have w:=Same.new e (.lst ([.bl b1,.bl b2,.bl b3]++[.bl b4,.bl b5]));have x:=(s.trans f).trans w;refine⟨.ref d,rfl,.inl ⟨rfl,_,SqL.of upd_same⟩,⟨a,rfl,x _ _ c⟩,d,[.bl b1,.bl b2,.bl b3,.bl b4,.bl b5],.bl b6,rfl,rfl,upd_same,show 5<sizeLine by decide,?_⟩;have n:Same H (upd (upd (upd (upd H p (.lst [.bl b1,.bl b2,.bl b3])) o (.lst [.bl b4,.bl b5])) d (.lst [.bl b1,.bl b2,.bl b3,.bl b4,.bl b5])) d (.lst ([.bl b1,.bl b2,.bl b3,.bl b4,.bl b5]++[.bl b6]))):=by
  rw[z23];exact (s.trans f).trans (Same.new e _)
 refine⟨.ref d,rfl,.inl ⟨rfl,_,SqL.of upd_same⟩,d,[b1,b2,b3,b4,b5,b6],Zd,rfl,rfl,upd_same,?_⟩;refine⟨_,_,rfl,rfl,_,rfl,?_⟩;refine z6s (by rw[u];decide) ⟨⟨a,rfl,n _ _ c⟩,bv,rfl,?_⟩;refine z6s (by rw[r];decide) ?_;refine⟨show 6<=sizeLine by decide,λq l=>?_⟩;have k:=Same.new l (.lst [.str "NoFit",.str "NoLine",.str "NoMost",.str "NotIn",.str "NoText",.str "TooFar"]);refine⟨.ref d,rfl,.inl ⟨rfl,_,SqL.of (k _ _ upd_same)⟩,d,[b1,b2,b3,b4,b5,b6],Zd,j,rfl,rfl,k _ _ upd_same,v,t,?_⟩;refine⟨q,_,(j:Int),.str nm,rfl,rfl,SqL.of upd_same,?_,h _ (n.trans k)⟩
 match j,b with
 |0,b=>obtain rfl:=sI b;rfl
 |1,b=>obtain rfl:=sI b;rfl
 |2,b=>obtain rfl:=sI b;rfl
 |3,b=>obtain rfl:=sI b;rfl
 |4,b=>obtain rfl:=sI b;rfl
 |5,b=>obtain rfl:=sI b;rfl
 |_+6,b=>exact noSome b
noncomputable def zxi (K:Zg) (a:Str->Option Ze) (C:Zh) (nm:Str):Prop:=∃(y:Str) (f b e c d g:Bool) (j:Nat),XCls K a y C/\excQ K C=Zd/\(Und K a C "NoFit" f/\Und K a C "NoLine" b/\Und K a C "NoMost" e/\Und K a C "NotIn" c/\Und K a C "NoText" d/\Und K a C "TooFar" g)/\PySem.W.kitOne K (.ref C) (.type "ValueError")=Za Zd /\
 [f,b,e,c,d,g].count Zd=1/\[f,b,e,c,d,g][j]?=Za Zd/\(∀m,m<j->[f,b,e,c,d,g][m]?=Za Zc)/\(["NoFit","NoLine","NoMost","NotIn","NoText","TooFar"]:List Str)[j]?=Za nm
noncomputable def z6y (K:Zg) (m:Str->Option Ze):Sp:=λv H Q _=>∃a C nm,v=[.ref a]/\H a=Za (zcp a C)/\zxi K m C nm/\∀b,Same H b->Q (.str nm) b
theorem zka {P:Program}{w:World}{K:Zg}{m:Str->Option Ze}{base:Heap}{d:Nat}{t:Fd} (o:FdOk K m t) {f:Zh}{fd:FuncData} (F:Fun K t.nm t.nm t.st f fd) {cn mn:Str} (u:t.N=[cn,mn]) (tp:t.ps=[cn])
  {q1 q2 q3 q4 q5 q6 q7 q8 q9 O T q12 U G N B q17 q18 J q20 q21 M q23 q24 Y q26 q27 L r1 r2 r3 r4 r5 r6 r7 r8 r9 r p R r13 g v q r17 r18 V S r21 W r23 r24 D r26 z Z r29 r30 r31 c r33 i r35 r36:Pos}{j1 j2 j3 j4 j5 j6 j7 j8 j9 I:Nat} (b:zbi t.st=[.Assign [.Name mn r1] (.List [.Call (.Name "isinstance" q1) [.Name cn q2,.Name "NoFit" q3] [] q4,.Call (.Name "isinstance" q5) [.Name cn q6,.Name "NoLine" q7] [] q8,.Call (.Name "isinstance" q9) [.Name cn O,.Name "NoMost" T] [] q12] r2) r3,
   .Assign [.Name mn r4] (.BinOp (.Name mn r5) .Add (.List [.Call (.Name "isinstance" U) [.Name cn G,.Name "NotIn" N] [] B,.Call (.Name "isinstance" q17) [.Name cn q18,.Name "NoText" J] [] q20] r6) r7) r8,
   .Expr (.Call (.Attribute (.Name mn r9) "append" r) [.Call (.Name "isinstance" q21) [.Name cn M,.Name "TooFar" q23] [] q24] [] p) R,
   .If (.BoolOp .Or [.Compare (.Call (.Attribute (.Name mn r13) "count" g) [.Constant (.bool Zd) j1 v] [] q) [.NotEq] [.Constant (.int 1) j2 r17] r18,.UnaryOp .Not (.Call (.Name "isinstance" Y) [.Name cn q26,.Name "ValueError" q27] [] L) V] S) [.Return (Za (.Constant (.str "other") j3 r21)) W] [] r23,
   .Return (Za (.Subscript (.List [.Constant (.str "NoFit") j4 r24,.Constant (.str "NoLine") j5 D,.Constant (.str "NoMost") j6 r26,.Constant (.str "NotIn") j7 z,.Constant (.str "NoText") j8 Z,.Constant (.str "TooFar") j9 r29] r30) (.Call (.Attribute (.Name mn r31) "index" c) [.Constant (.bool Zd) I r33] [] i) r35)) r36])
  (lc:(zab t.st).names.lookup cn=Za .local) (lm:(zab t.st).names.lookup mn=Za .local) (nc:(cn==("__debug__" : Str))=Zc/\(cn==("__classdict__" : Str))=Zc) (nm:(mn==("__debug__" : Str))=Zc/\(mn==("__classdict__" : Str))=Zc)
  (mi:m "isinstance" = Zb) (mv:m "ValueError" = Zb) (l:∀x∈(["isinstance","NoFit","NoLine","NoMost","NotIn","NoText","TooFar","ValueError"]:List Str),(zab t.st).names.lookup x=Za .globalImplicit)
  (l1:(r.endLine==p.line)=Zd) (l2:(g.endLine==q.line)=Zd) (l3:(c.endLine==i.line)=Zd):FnOk P w K m base CX0 (d+1) f fd t.ps (z6y K m):=by
 refine F.okX (CX:=CX0) (k:=d) o.sc (λvs H Q E ⟨a,C,n,e,_⟩=>by rw[e,tp];rfl) λA outer s H vs Q E hr ⟨a,C,n,e,hH,⟨y,b1,b2,b3,b4,b5,b6,j,cC,xq,⟨u1,u2,u3,u4,u5,u6⟩,uv,hc,hj,hn,hs⟩,h⟩=>?_;subst e;rw[b];have nd:=o.sc.nd;rw[u] at nd;refine⟨tRef K C b1 b2 b3 b4 b5 b6 Zd,?_,?_⟩
 ·exact zmz (X:=cxOf CX0 P w K m base t.N t.nm (zab t.st) f fd.code A outer s H E) cC xq o.sc.nd (by show t.N[0]?=_;rw[u];rfl) (by show t.N[1]?=_;rw[u];rfl) lc lm nc nm (l _ (by simp)) mi (l _ (by simp)) (l _ (by simp)) (l _ (by simp)) (l _ (by simp)) (l _ (by simp)) (l _ (by simp)) (l _ (by simp)) mv u1 u2 u3 u4 u5 u6 uv l1 l2 l3
 ·have es:start t.N [.ref a]=[Za (.ref a),Zb]:=by rw[u];rfl
  rw[es];exact zv6 hH rfl hc hj hn hs h
noncomputable def ze4 (t:Str) (Φ:(Str->Fn)->Nat->Fn):Ovr:=λΨ d x=>if x==t then Za (Φ Ψ d) else Zb
theorem za6 (a:(x==tn)=Zc) (h:T.find? (·.nm==x)=Za t) (b:zas T bn (sem2 T bn (ze4 tn Φ) (d+2)) (d+2) t=Za g):sem2 T bn (ze4 tn Φ) (d+3) x=zag t.m t.N.length g:=by
 show (match ze4 tn Φ (sem2 T bn (ze4 tn Φ) (d+1)) (d+1) x with
  |some Φ=>Φ
  | none=>match T.find? (λu:Fd=>u.nm==x) with
   |some t=>fnAt T bn (sem2 T bn (ze4 tn Φ) (d+2)) (d+2) t
   |none=>λ_=>Zb)=_
 have e:ze4 tn Φ (sem2 T bn (ze4 tn Φ) (d+1)) (d+1) x=Zb:=by unfold ze4;rw[a];rfl
 rw[e,h];show fnAt T bn (sem2 T bn (ze4 tn Φ) (d+2)) (d+2) t=_;unfold fnAt;rw[b]
theorem z4f {P:Program}{w:World}{K:Zg}{m:Str->Option Ze}{base:Heap}{T:List Fd}{bn:List Str}{J:List Str} (nd:(T.map (·.nm)).Nodup) (ok:∀t∈T,FdOk K m t) (U:∀x∈bn,m x=Zb) (Y:K.In base) (nb:base.Ns mainGlobals m) (l:("g SIGNS" : Str)∈bn->∃t,m "SIGNS" = Za (.str "abcdef" t))
  {tt td tr:Fd} (mt:tt∈T) (Z:td∈T) (mr:tr∈T)
  {y b n s:Str}{fp p cp ap hp pos np py pb pt N p1 p2 L S pn R tp I p3 A O gp v D ip rp:Pos}{kt k2 j1 j2 j3:Nat}{e:Zi}{es:List Zi}
  (g:zbi tt.st=[.Assign [.Tuple [.Name y py,.Name b pb] kt pt] (.Tuple [.Constant .none j1 p1,.Constant .none j2 p2] k2 N) L,
   .Try [.Assign [.Name y p] (.Call (.Name td.nm fp) (e::es) [] cp) ap] [.ExceptHandler (Za (.Name s np)) (Za n) [.Assign [.Name b S] (.Name n pn) R] hp] [] [] tp,
   .Return (Za (.IfExp (.Compare (.Name b I) [.Is] [.Constant .none j3 p3] A) (.Name y O) (.Call (.Name tr.nm gp) [.Name b v] [] D) ip)) rp])
  {W:Zh} (c2:XCls K m s W) {i jb jn:Nat} (hi:tt.N[i]?=Za y) (E:tt.N[jb]?=Za b) (hj:tt.N[jn]?=Za n)
  (ly:(zab tt.st).names.lookup y=Za .local) (lb:(zab tt.st).names.lookup b=Za .local) (ln:(zab tt.st).names.lookup n=Za .local)
  (lf:(zab tt.st).names.lookup td.nm=Za .globalImplicit) (lx:(zab tt.st).names.lookup s=Za .globalImplicit) (lg:(zab tt.st).names.lookup tr.nm=Za .globalImplicit)
  (df:(td.nm==("__debug__" : Str))=Zc) (dx:(s==("__debug__" : Str))=Zc) (dg:(tr.nm==("__debug__" : Str))=Zc) (nn:∀z,z=y\/z=b\/z=n->(z==("__debug__" : Str))=Zc/\(z==("__classdict__" : Str))=Zc)
  {gx:(Str->Fn)->GX} (eX:∀Ψ d,znm T bn J Ψ d td=Za (gx Ψ)) {as:(Str->Fn)->GAs} (eA:∀Ψ d,asM (compE deep) (sxOf T bn Ψ (d+1) tt) (e::es) td.m=Za (as Ψ))
  (B:∀(k:Nat) f j,Fun K tr.nm tr.nm tr.st f j->FnOk P w K m base CX0 (k+1) f j tr.ps (z6y K m))
  (h:∀c∈J,∃C,m c=Za (.ref C)/\XCls K m c C/\subIn K C W=Zd/\zxi K m C c) :
  ∀(d:Nat) (Ψ:Str->Fn),AllFn P w K m base T d Ψ->∀t∈T,∀Φ,ze4 tt.nm (λΨ _=>zag tt.m tt.N.length (zt4 (mpOf tt.m) td.m (zcv td.m td.N.length (gx Ψ)) (as Ψ) i jb jn J)) Ψ d t.nm=Za Φ->∀f j,Fun K t.nm t.nm t.st f j->m t.nm=Za (.ref f)->FnOk P w K m base CX0 (d+2) f j t.ps (spF K t.m Φ):=by
 intro d Ψ o t ht Φ r f j F M;unfold ze4 at r;split at r
 ·rename_i u;obtain rfl:=sI r;have u:=Bl u;have e1:=zm8 nd ht;rw [u,zm8 nd mt] at e1;obtain rfl:=sI e1;obtain ⟨fa,fda,X,Ba,Ma⟩:=(ok td Z).ex;obtain ⟨ga,gda,Fg,Bg,Mg⟩:=(ok tr mr).ex;exact zuv (pos:=pos) ok U Y nb l o (ok _ mt) F M g (zzr ok U Y nb l (λx hx=>let ⟨C,V,G,_⟩:=h x hx;⟨C,G⟩) o (ok td Z) X Ma (eX Ψ d)) Ma X.kp Ba
   (B d ga gda Fg) Mg Fg.kp Bg c2 hi E hj ly lb ln lf lx lg df dx dg nn (eA Ψ d) λc hc=>by
    obtain⟨C,V,G,h3,h4⟩:=h c hc;exact⟨C,V,G,h3,λa H Q e q=>⟨a,C,c,rfl,e,h4,q⟩⟩
 ·exact noSome r
theorem za5 (h:a en=Za (e1,.nx))(c:b e1=r):gSeq a b en=r:=(seq_nx h).trans c
noncomputable def bitF (p i:Nat):Int:=((p/2^i%2:Nat):Int)
noncomputable def letL (p:Nat):List Nat:=dueL (bitF p) 6
noncomputable def zbx (t:List Nat):Nat:=(t.map λl=>2^l).sum
theorem zdi:∀p:Fin 64,zbx (letL p.val)=p.val:=by decide +kernel
theorem z4z:∀q p:Fin 64,hasT (letL q.val) p.val=(q.val &&& p.val==q.val):=by decide +kernel
theorem zh1:∀m:Fin 7,((List.range (2^m.val)).map letL).isPerm (zaf m.val m.val)=Zd:=by decide +kernel
theorem zw9:∀p:Fin 64,(zbz p.val).foldr (λq a=>itS 6 q ^^^ a) 0=2^p.val:=by decide +kernel
theorem z3k (a:p<64)(h:q∈zbz p):q<64:=by have:=zm1 h;symm
theorem zjs (f:Nat->Int):∀L:List Nat,(∀q∈L,q<64)->((L.map (coefF f)).sum)%2=evS (List.range 64) f (L.foldr (λq a=>itS 6 q ^^^ a) 0)%2
 | [],_=>by
  have:evS (List.range 64) f 0=0:=by
   unfold evS;rw[Ek.mpr (λi _=>by rw[Ef];decide)];rfl
  show (0:Int)%2=evS (List.range 64) f 0%2;rw[this]
 | q::L,h=>by
  have d:=zjs f L λx b=>h x (Ai _ b);have c:=z12 f (h q (Au ..));rw[Aw,Bj,List.foldr_cons,z0x,c];symm
theorem zon (h:∀i,Bit (f i))(a:p<64):coefF (coefF f) p=f p:=by
 show ((zbz p).map (coefF f)).sum%2=f p;rw[zjs f (zbz p) λq b=>z3k a b,zw9 ⟨p,a⟩];unfold evS;rw[z4p ⟨p,a⟩];show (f p+0)%2=f p;rcases h p with e|e<;>rw[e]<;>rfl
theorem coef_bit (f:Nat->Int)(p:Nat):Bit (coefF f p):=by unfold coefF Bit;symm
noncomputable def duT (m:Nat) (f:Nat->Int):List (List Nat):=(zaf m m).filter λt=>decide (coefF f (zbx t)=1)
noncomputable def plL (m:Nat) (f:Nat->Int):List Nat:=(List.range (2^m)).filter λq=>decide (coefF f q=1)
theorem yae (f:Nat->Int)(a:m<=6):((plL m f).map letL).Perm (duT m f):=by
 have b:=zb9 a;have p:=(List.isPerm_iff.mp (zh1 ⟨m,by symm⟩)).filter λt=>decide (coefF f (zbx t)=1);rw[List.filter_map] at p;have e:(List.range (2^m)).filter ((λt=>decide (coefF f (zbx t)=1)) ∘ letL)=plL m f:=Ha λq h=>by
  show decide (coefF f (zbx (letL q))=1)=_;have:=Bo.mp h;rw[zdi ⟨q,by symm⟩]
 rw[e] at p;exact p
theorem zly (b:m<=6)(h:t∈zaf m m):∃q,q<2^m/\t=letL q:=by
 have:=(List.isPerm_iff.mp (zh1 ⟨m,by symm⟩)).mem_iff.mpr h;obtain⟨q,a,rfl⟩:=Do.mp this;exact⟨q,Bo.mp a,rfl⟩
noncomputable def indF (M:List Nat) (i:Nat):Int:=if i∈M then 1 else 0
theorem z3b (M:List Nat)(i:Nat):Bit (indF M i):=by unfold indF;split<;>first|exact .inr rfl|exact .inl rfl
theorem zuf (d:x ∉ M):∀{S:List Nat},S.Nodup->(S.map (indF (x::M))).sum=(S.map (indF M)).sum+(if x∈S then 1 else 0)
 |[],_=>rfl
 | q::S,h=>by
  have i:=zuf d (Cp.mp h).2;rw[Aw,Bj,Aw,Bj,i];by_cases e:q=x
  ·subst e
   have n:q ∉ S:=(Cp.mp h).1;have a:indF (q::M) q=1:=by unfold indF;rw[if_pos Au]
   have b:indF M q=0:=by unfold indF;rw[if_neg d]
   rw[a,b,if_neg n,if_pos Au];symm
  ·have a:indF (x::M) q=indF M q:=by
    unfold indF;by_cases c:q∈M
    ·rw[if_pos c,if_pos (Ai _ c)]
    ·rw[if_neg c,if_neg λz=>(Ak.mp z).elim e c]
   rw[a];by_cases c:x∈S
   ·rw[if_pos c,if_pos (Ai _ c)];symm
   ·rw[if_neg c,if_neg λz=>(Ak.mp z).elim (λz=>e z.symm) c];symm
theorem znu {S:List Nat} (d:S.Nodup):∀{ts:List (List Nat)},(ts.map zbx).Nodup->(S.map (indF (ts.map zbx))).sum=((ts.filter λt=>decide (zbx t∈S)).length:Nat)
 | [],_=>by
  have:∀L:List Nat,(L.map (indF [])).sum=0:=λL=>by
   induction L with
   |nil=>rfl
   |cons a l i=>rw[Aw,Bj,i];rfl
  exact this S
 | t::ts,h=>by
  rw[Aw] at h;have b:=Cp.mp h;rw[Aw,zuf b.1 d,znu d b.2,Dc];by_cases c:zbx t∈S
  ·rw[if_pos c,if_pos (Ah c),Bd];symm
  ·rw[if_neg c,if_neg (by rw[Az c];exact Av)];symm
theorem zqn (p:Nat):(zbz p).Nodup:=List.nodup_range.filter _
theorem zxu (a:m<=6)(d:t∈zaf m m)(b:p<64):hasT t p=decide (zbx t∈zbz p):=by
 have e:=zb9 a;obtain⟨q,f,rfl⟩:=zly a d;rw[z4z ⟨q,by symm⟩ ⟨p,b⟩,zdi ⟨q,by symm⟩];show (q &&& p==q)=decide (q∈zbz p);unfold zbz;by_cases c:q &&& p=q
 ·have:q ≤ p:=by have:=Nat.and_le_right (n:=q) (m:=p);symm
  have h:q∈(List.range (p+1)).filter λo=>o &&& p==o:=Ch.mpr ⟨Bo.mpr (by symm),Fs.mpr c⟩;rw[Fs.mpr c,Ah h]
 ·have h : ¬ q∈(List.range (p+1)).filter λo=>o &&& p==o:=λz=>c (Fs.mp (Ch.mp z).2);rw[beq_eq_false_iff_ne.mpr c,Az h]
theorem zy6 (h:m<=6)(b:t∈zaf m m)(a:u∈zaf m m)(e:zbx t=zbx u):t=u:=by
 have p:=zb9 h;obtain⟨q,d,rfl⟩:=zly h b;obtain⟨r,c,rfl⟩:=zly h a;rw[zdi ⟨q,by symm⟩,zdi ⟨r,by symm⟩] at e;have e:q=r:=e;rw[e]
noncomputable def zo4 (m:Nat) (ts:List (List Nat)):Prop:=ts.Nodup/\∀t∈ts,t∈zaf m m
theorem zhs (b:m<=6):∀{ts:List (List Nat)},zo4 m ts->(ts.map zbx).Nodup
 |[],_=>List.nodup_nil
 | t::ts,h=>by
  have n:=Cp.mp h.1;rw[Aw];refine Cp.mpr ⟨λz=>?_,zhs b ⟨n.2,λu a=>h.2 u (Ai _ a)⟩⟩;obtain⟨u,a,e⟩:=Do.mp z;have:=zy6 b (h.2 u (Ai _ a)) (h.2 t Au) e;subst this;exact n.1 a
theorem zv4 {m p:Nat}{ts:List (List Nat)}(a:m<=6)(h:zo4 m ts)(b:p<64):coefF (indF (ts.map zbx)) p=valF ts p:=by
 unfold coefF valF;rw[znu (zqn p) (zhs a h)];have e:(ts.filter λt=>decide (zbx t∈zbz p))=ts.filter λt=>hasT t p:=Ha λt c=>(zxu a (h.2 t c) b).symm;rw[e];symm
noncomputable def kdW (m t:Nat):W:=.tup [.int (m:Nat),.int (t:Nat)]
theorem zvw:∀m u:Fin 7,u.val<=m.val->∀t∈zaf m.val u.val,t∈zaf m.val m.val:=by decide +kernel
theorem zvk:∀m u:Fin 7,(zaf m.val u.val).Nodup:=by decide +kernel
noncomputable def zq7 (ts:List (List Nat)):List Int:=ts.map λt=>((t.length:Nat):Int)
theorem zz5 (h:m<=6):(duT m f).length<=64:=by
 obtain⟨t,a⟩:=zeq (m:=m) (most:=m) h h;have:=(show (duT m f).Sublist (zaf m m) from List.filter_sublist).length_le;symm
theorem coef_congr {f g:Nat->Int}{p:Nat}(h:∀q,q<=p->f q=g q):coefF f p=coefF g p:=by
 unfold coefF;rw[Fh λq a=>h q (zm1 a)]
theorem zz6:∀(L:List Int) (n:Int),mx1 n L<=B↔n<=B/\∀x∈L,x<=B
 |[],n=>⟨λh=>⟨h,λ_ z=>(nomatch z)⟩,λh=>h.1⟩
 | a::L,n=>by
  have i:=zz6 (B:=B) L (if a > n then a else n);have e:mx1 n (a::L)=mx1 (if a > n then a else n) L:=rfl;rw[e,i];constructor
  ·rintro ⟨d,c⟩
   split at d
   ·exact⟨by symm,λx b=>(Ak.mp b).elim (λz=>by rw[z];exact d) (c x)⟩
   ·exact⟨d,λx b=>(Ak.mp b).elim (λz=>by rw[z];symm) (c x)⟩
  ·rintro ⟨d,c⟩
   have f:=c a Au;exact⟨by split<;>symm,λx b=>c x (Ai _ b)⟩
noncomputable def zr3 (Ψ:Str->Fn):GE:=zbq [Zb,Zb,Za 5] (.nm 1) (zau (gVar 4)) gYes (gOp2 oAdd (gVarA 1) (gArg (gOp2 #v[0,0,1] #v[1] (gVarA 2))))
noncomputable def zvc (Ψ:Str->Fn):GS:=(gSet [] 4 (gOp2 oAdd (gVarA 4) (gArg (zr3 Ψ))))
noncomputable def zus (Ψ:Str->Fn):GS:=gFor [] (.nm 5) (zau (gVar 3)) (zvc Ψ)
noncomputable def zuc (Ψ:Str->Fn):GE:=zbq #v[8,19] (.nm 1) (zau (gVar 4)) gYes (gOp2 oIx (gVarA 2) (gVarA 1))
noncomputable def zop (Ψ:Str->Fn):GS:=(gSeq (gSet [] 4 (za0 (gCns #v[0] gA0))) (gSeq (zus Ψ) (gIfS (zak (gOp2 oEq (gArg (gOp2 #v[0,0,2] (gArg (gOpN oSum (gCns (gArg (zuc Ψ)) gA0))) #v[2])) #v[1])) (zee (gApp 2 (gVar 3))) zbr)))
noncomputable def zte (Ψ:Str->Fn):GS:=gFor [] (.nm 3) (zau (zaa [Zc,Zc] (Ψ "_law_terms") (gCns #v[0,4] #v[1,17]))) (zop Ψ)
noncomputable def z73 (Ψ:Str->Fn):GS:=(gSeq (gSet [] 2 (za0 gA0)) (gSeq (zte Ψ) (gRet (gOpN zfp (gCns (gVarA 2) gA0)))))
theorem yat (n:Int)(ns:List Int):oMax [.lst (W.int n::ns.map W.int)]=#v[(mx1 n ns),0]:=by
 show (zcw ((n::ns).map W.int)).bind _=_;rw[ze1];rfl
theorem yan (ns:List Int):oSum [.lst (ns.map W.int)]=#v[ns.sum,0]:=by
 show (zcw (ns.map W.int)).bind _=_;rw[ze1];rfl
theorem znt (f:Nat->Int){l c:List Nat}(p:l.Perm c):(l.map f).sum=(c.map f).sum:=by
 induction p with
 |nil=>rfl
 |cons a _ i=>rw[Aw,Aw,Bj,Bj,i]
 |swap a b l=>rw[Aw,Aw,Aw,Aw,Bj,Bj,Bj,Bj];symm
 |trans _ _ e d=>exact e.trans d
noncomputable def innL (t:List Nat):List Nat:=t.foldl (λa l=>a++a.map λp=>p+2^l) [0]
theorem zzk:∀q:Fin 64,(innL (letL q.val)).isPerm (zbz q.val)=Zd:=by decide +kernel
theorem zpc:∀q:Fin 64,∀k:Fin 7,(innL ((letL q.val).take k.val)).length<=64/\(letL q.val).length<=6:=by decide +kernel
theorem zyn {t:List Nat}(h:t[i]?=Za l):innL (t.take (i+1))=innL (t.take i)++(innL (t.take i)).map λp=>p+2^l:=by
 unfold innL;rw[Dt,h,List.foldl_append];rfl
theorem ybe (g:L.length<=64)(f:l<64):zr3 Ψ #v[1,18]=Za (#v[3,19],(.lst (zam (L.map λp=>p+2^l)),Zd)):=by
 have e:=pow1 (l:=l) (by symm);unfold zr3;refine zn6 (cap:=[Zb,Zb,Za 5]) (it:=zau (gVar 4)) (xs:=[#v[(l:Nat),0]]) (en:=#v[1,18]) (e0:=#v[3,19]) (ws:=zam L) (rs:=zam (L.map λp=>p+2^l)) (by cases o<;>simp! []) (by rw[zbo];symm) (by rw[zbo,zbo,Ad]) rfl rfl rfl (λ_ _=>rfl) λi v w r d b=>?_;obtain⟨p,a,rfl⟩:=zeu d;obtain⟨q,h,rfl⟩:=zeu b;rw[Am,a] at h;cases h;have c:(p:Int)+((2^l:Nat):Int)=((p+2^l:Nat):Int):=by symm
 refine⟨#v[(p:Nat),0],Zc,?_⟩;simp! [e,one_mul_pow,c]
theorem zr9 (a b:List Nat):zam (a++b)=zam a++zam b:=by unfold zam;exact Dn ..
theorem z91 {q:Nat}{v0 v1 v2 v5:Option (W×Bool)}(c:q<64):∃o a,zus Ψ #v[8,13]=Za ([v0,v1,v2,#v[tmW (letL q),6],Za (.lst (zam (innL (letL q))),o),a],.nx):=by
 have n:(letL q).length<=6:=(zpc ⟨q,c⟩ 0).2;unfold zus;obtain⟨j,h,o,a,rfl⟩:=zbs (mp:=[]) (T:=.nm 5) (body:=zvc Ψ) (it:=zau (gVar 3)) (λi e=>∃o a,e=[v0,v1,v2,#v[tmW (letL q),6],Za (.lst (zam (innL ((letL q).take i))),o),a]) (en:=#v[8,13]) (e0:=#v[8,13]) (ws:=zam (letL q)) (by unfold tmW;simp! [];rfl) ⟨Zd,v5,rfl⟩ λi w e m f=>by
  obtain⟨o,a,rfl⟩:=f;obtain⟨l,b,rfl⟩:=zeu m;have p:i<(letL q).length:=(Ag.mp b).1;have k:l<64:=by
   have w:=Bp b;unfold letL dueL at w;have:=Bo.mp (Ch.mp w).1;symm
  have z:=(zpc ⟨q,c⟩ ⟨i,by symm⟩).1;have z:(innL ((letL q).take i)).length<=64:=z;have g:=ybe (Ψ:=Ψ) (L:=innL ((letL q).take i)) (l:=l) (o:=o) (v0:=v0) (v1:=v1) (v2:=v2) (v3:=#v[tmW (letL q),6]) z k;have d:((innL ((letL q).take i)).length+(innL ((letL q).take i)).length<=16777216)=True:=eq_true (by symm);refine⟨[v0,v1,v2,#v[tmW (letL q),6],Za (.lst (zam (innL ((letL q).take i))),o),#v[(l:Nat),0]],[v0,v1,v2,#v[tmW (letL q),6],#v[(zam (innL ((letL q).take (i+1)))),2],#v[(l:Nat),0]],rfl,.inl ?_,Zd,_,rfl⟩;rw[zyn b,zr9];unfold zvc;cases o<;>simp! [g,zbo,Ad,d]
 rw[zbo,Db] at h;exact⟨o,a,h⟩
theorem ya5 {Ψ:Str->Fn}{m:Nat}{xs:List Int}{L:List Nat}{o:Bool}{v0 v2 v3 v5:Option (W×Bool)}(e:L.length<=64)(b:∀p∈L,p<xs.length):zuc Ψ #v[5,17]=Za (#v[5,18],(.lst ((L.map λp=>xs.getD p 0).map W.int),Zd)):=by
 unfold zuc;refine zn6 (cap:=#v[8,19]) (it:=zau (gVar 4)) (xs:=[#v[(xs.map W.int),1]]) (en:=#v[5,17]) (e0:=#v[5,18]) (ws:=zam L) (rs:=(L.map λp=>xs.getD p 0).map W.int) (by cases o<;>simp! []) (by rw[zbo];symm) (by rw[zbo,Ad,Ad]) rfl rfl rfl (λ_ _=>rfl) λi v w r d a=>?_;obtain⟨p,h,rfl⟩:=zeu d;rw[Am,Am,h] at a;cases a;have c:atI (xs.map W.int) (p:Int)=Za (.int (xs.getD p 0)):=zb7 (by
  rw[Am,Bu,Ac (b p (Bp h))];rfl)
 refine⟨#v[(p:Nat),0],Zc,?_⟩;simp! [c]
noncomputable def zgp (Φ:Fn):Prop:=∀(m:Nat) (x:List Int),m<=6->Bits x->x.length=2^m->Φ [.int (m:Nat),.lst (x.map W.int)]=Za ([.int (m:Nat),.lst (x.map W.int)],(.tup ((duT m λi=>x.getD i 0).map tmW),Zc))
theorem z93 {Ψ:Str->Fn}{m q:Nat}{xs:List Int}{D:List (List Nat)}{v4 v5:Option (W×Bool)}(j:m<=6)(A:xs.length=2^m)(y:q<2^m)(z:D.length<=64):∃r w,zop Ψ [#v[(m:Nat),0],#v[(xs.map W.int),1],#v[(D.map tmW),2],#v[tmW (letL q),6],v4,v5]=Za ([#v[(m:Nat),0],#v[(xs.map W.int),1],#v[((D++[letL q].filter λt=>decide (coefF (λi=>xs.getD i 0) (zbx t)=1)).map tmW),2],#v[tmW (letL q),6],r,w],.nx):=by
 have x:=zb9 j;have d:q<64:=by symm
 obtain⟨o,w,l⟩:=z91 (Ψ:=Ψ) (v0:=#v[(m:Nat),0]) (v1:=#v[(xs.map W.int),1]) (v2:=#v[(D.map tmW),2]) (v5:=v5) d;have f:=List.isPerm_iff.mp (zzk ⟨q,d⟩);have f:(innL (letL q)).Perm (zbz q):=f;have n:(innL (letL q)).length<=64:=by
  have a:=(zpc ⟨q,d⟩ 6).1;have b:=(zpc ⟨q,d⟩ 0).2;have a:(innL ((letL q).take 6)).length<=64:=a;rw[Gc b] at a;exact a
 have h:=ya5 (Ψ:=Ψ) (m:=m) (L:=innL (letL q)) (o:=o) (v0:=#v[(m:Nat),0]) (v2:=#v[(D.map tmW),2]) (v3:=#v[tmW (letL q),6]) (v5:=w) n (xs:=xs) λp u=>by
  have:=zm1 (f.mem_iff.mp u);symm
 have s:=yan ((innL (letL q)).map λp=>xs.getD p 0);rw[znt (λp=>xs.getD p 0) f] at s;have g:((zbz q).map λp=>xs.getD p 0).sum%2=coefF (λi=>xs.getD i 0) q:=rfl;have lt:(D.length<16777216)=True:=eq_true (by symm);refine⟨#v[(zam (innL (letL q))),1],w,?_⟩;have e:[letL q].filter (λt=>decide (coefF (λi=>xs.getD i 0) (zbx t)=1))=if coefF (λi=>xs.getD i 0) q=1 then [letL q] else []:=by
  rw[Dc,zdi ⟨q,d⟩];by_cases c:coefF (λi=>xs.getD i 0) q=1
  ·rw[if_pos (Ah c),if_pos c];rfl
  ·rw[if_neg (by rw[Az c];decide),if_neg c];rfl
 rw[e];unfold zop;refine za5 (e1:=[#v[(m:Nat),0],#v[(xs.map W.int),1],#v[(D.map tmW),2],#v[tmW (letL q),6],#v[[.int 0],2],v5]) ?_ (za5 l ?_)
 ·simp! []
 ·by_cases c:coefF (λi=>xs.getD i 0) q=1
  ·rw[if_pos c,Dn];rw[c] at g;simp! [h,s,g,Ad,lt,Aw,List.map_nil]
  ·rw[if_neg c,Bm];have k:decide (((zbz q).map λp=>xs.getD p 0).sum%2=1)=Zc:=by rw[g];exact Az c
   simp! [h,s,k]
theorem zin {Ψ:Str->Fn} (s:zda (Ψ "_law_terms")):zgp (zag [Zc,Zc] 6 (z73 Ψ)):=λm xs f C u=>by
 have z:=zb9 f;obtain ⟨E,B⟩:=zeq (m:=m) (most:=m) f f;have k:=s m m f f;have l:∃d c b,zte Ψ #v[5,9]=Za ([Za (.int (m:Nat),Zc),Za (.lst (xs.map W.int),Zc),Za (.lst ((duT m λi=>xs.getD i 0).map tmW),Zd),d,c,b],.nx):=by
  unfold zte;obtain ⟨r,h,d,c,b,rfl⟩:=zbs (mp:=[]) (T:=.nm 3) (body:=zop Ψ) (it:=zau (zaa [Zc,Zc] (Ψ "_law_terms") (gCns (gArg (gVar 0)) (gCns (gArg (gVar 0)) gA0)))) (λi e=>∃d c b,e=[Za (.int (m:Nat),Zc),Za (.lst (xs.map W.int),Zc),Za (.lst ((((zaf m m).take i).filter λt=>decide (coefF (λi=>xs.getD i 0) (zbx t)=1)).map tmW),Zd),d,c,b]) (en:=#v[5,9]) (e0:=#v[5,9]) (ws:=(zaf m m).map tmW) (by simp! [k]) ⟨_,_,_,rfl⟩ λi w e g x=>by
   obtain⟨d,c,b,rfl⟩:=x;rw[Am] at g;cases ht:(zaf m m)[i]? with
   |none=>rw[ht] at g;cases g
   | some t =>
    rw [ht] at g;cases g;obtain ⟨q,n,rfl⟩:=zly f (Bp ht);obtain ⟨y,A,j⟩:=z93 (Ψ:=Ψ) (xs:=xs) (D:=((zaf m m).take i).filter λt=>decide (coefF (λi=>xs.getD i 0) (zbx t)=1)) (v4:=c) (v5:=b) f u n (by
     have a:=List.length_filter_le (λt=>decide (coefF (λi=>xs.getD i 0) (zbx t)=1)) ((zaf m m).take i);rw[Ds] at a;symm)
    rw[<-Du] at j;have o:(zaf m m).take (i+1)=(zaf m m).take i++[letL q]:=by rw[Dt,ht];rfl
    rw[<-o] at j;exact⟨_,_,rfl,.inl j,_,_,_,rfl⟩
  rw[Ad,Db] at h;exact⟨d,c,b,h⟩
 obtain⟨d,c,b,l⟩:=l;have p:zfp [.lst ((duT m λi=>xs.getD i 0).map tmW)]=#v[((duT m λi=>xs.getD i 0).map tmW),3]:=rfl;unfold z73;refine zbv (en:=[#v[(m:Nat),0],#v[(xs.map W.int),1],#v[((duT m λi=>xs.getD i 0).map tmW),2],d,c,b]) rfl (za5 (e1:=[#v[(m:Nat),0],#v[(xs.map W.int),1],#v[[],2],Zb,Zb,Zb]) ?_ (za5 l ?_)) rfl
 ·simp! []
 ·simp! [p]
theorem zo8 (f g:Nat->Int)(p:Nat):coefF (λq=>(f q+g q)%2) p=(coefF f p+coefF g p)%2:=by
 unfold coefF;have go:∀L:List Nat,(L.map λq=>(f q+g q)%2).sum%2=((L.map f).sum+(L.map g).sum)%2:=by
  intro L
  induction L with
  |nil=>rfl
  |cons a L i=>rw[Aw,Aw,Aw,Bj,Bj,Bj];symm
 rw[go];symm
theorem zym (b:m<=6)(h:zo4 m ts)(a:q<64):coefF (valF ts) q=indF (ts.map zbx) q:=by
 rw[<-zon (z3b (ts.map zbx)) a];exact coef_congr λp c=>(zv4 b h (by symm)).symm
theorem z2j (ts:List (List Nat))(p:Nat):Bit (valF ts p):=by unfold valF Bit;symm
theorem zvp (c:m<=6)(a:most<=m)(h:ts.Sublist (zaf m most)):zo4 m ts:=⟨(zvk ⟨m,by symm⟩ ⟨most,by symm⟩).sublist h,λt b=>zvw ⟨m,by symm⟩ ⟨most,by symm⟩ a t (h.mem b)⟩
theorem zvy:∀m k:Fin 7,∀t∈zaf m.val k.val,(letL (zbx t)).length<=k.val:=by decide +kernel
noncomputable def Deg (m most:Nat) (f:Nat->Int):Prop:=∀q,q<2^m->coefF f q=1->(letL q).length<=most
theorem z1e (a:m<=6)(b:most<=m)(h:ts.Sublist (zaf m most)):Deg m most (valF ts):=λq d e=>by
 have p:=zb9 a;rw[zym a (zvp a b h) (by symm)] at e;unfold indF at e;split at e
 ·rename_i z;obtain⟨t,c,rfl⟩:=Do.mp z;exact zvy ⟨m,by symm⟩ ⟨most,by symm⟩ t (h.mem c)
 ·cases e
theorem z3c (d:Deg m most f)(c:Deg m most g):Deg m most λp=>(f p+g p)%2:=λq h e=>by
 rw[zo8] at e;rcases coef_bit f q with a|a
 ·rcases coef_bit g q with b|b
  ·rw[a,b] at e;cases e
  ·exact c q h b
 ·exact d q h a
theorem zg3 (h:∀p,p<2^m->f p=g p)(b:Deg m most f):Deg m most g:=λq a e=>b q a ((coef_congr λp c=>h p (by symm)).trans e)
theorem zwm (a:m<=6)(h:Deg m most f):∀t∈duT m f,t.length<=most:=λt b=>by
 have p:=zb9 a;unfold duT at b;obtain⟨c,d⟩:=Ch.mp b;obtain⟨q,g,rfl⟩:=zly a c;have e:=Ap d;rw[zdi ⟨q,by symm⟩] at e;exact h q g e
theorem ybh (d:b<=100):∃(i j:Nat),oMin [.int (b:Nat),.int (n:Nat)]=#v[(i:Nat),0]/\oMax [.int 3,.int (i:Nat)]=#v[(j:Nat),0]/\j<=100:=by
 have a:∃i:Nat,oMin [.int (b:Nat),.int (n:Nat)]=#v[(i:Nat),0]/\i<=b:=by
  by_cases c:(n:Int)<b
  ·exact⟨n,by show #v[W.int (if (n:Int)<b then _ else _),6]=_;rw[if_pos c],by symm⟩
  ·exact⟨b,by show #v[W.int (if (n:Int)<b then _ else _),6]=_;rw[if_neg c],by symm⟩
 obtain⟨i,a,e⟩:=a;have o:∃j:Nat,oMax [.int 3,.int (i:Nat)]=#v[(j:Nat),0]/\j<=100:=by
  by_cases c:(i:Int) > 3
  ·exact⟨i,by show #v[W.int (if (i:Int) > 3 then _ else _),6]=_;rw[if_pos c],by symm⟩
  ·exact⟨3,by show #v[W.int (if (i:Int) > 3 then _ else _),6]=_;rw[if_neg c];rfl,by symm⟩
 obtain⟨j,o,h⟩:=o;exact⟨i,j,a,o,h⟩
section
end
set_option maxHeartbeats 2000000
section
variable {κ:Type} [DecidableEq κ] {f:κ->DKey}
end
noncomputable def tp (w:Nat):Nat:=w.log2
theorem z7g (h:a en=Za (e1,.nx))(c:b e1=r):gSeq a b en=r:=(seq_nx h).trans c
noncomputable def bitN (w i:Nat):Int:=if w.testBit i then 1 else 0
theorem zco (w i:Nat):Bit (bitN w i):=by unfold bitN;split<;>first|exact .inr rfl|exact .inl rfl
theorem zr0 (w i:Nat):decide (bitN w i=1)=w.testBit i:=by unfold bitN;cases w.testBit i<;>rfl
theorem zo9 (n:Nat)(f:Nat->Int):tab (n+1) f=f 0::tab n λi=>f (i+1):=by
 unfold tab;rw[List.range_succ_eq_map,Aw,Dz]
 rfl
theorem zbp:∀(n w:Nat),w<2^n->zad (tab n (bitN w))=(w:Int)
 | 0,w,h=>by
  have:w=0:=by have:2^0=1:=rfl;symm
  subst this;rfl
 | n+1,w,h=>by
  have p:2^(n+1)=2*2^n:=by rw[Nat.pow_succ];symm
  rw[zo9,zaq,zmn (f:=λi=>bitN w (i+1)) (g:=bitN (w/2)) λi _=>by unfold bitN;rw[Nat.testBit_succ],zbp n (w/2) (by symm)];unfold bitN;rw[Nat.testBit_zero];by_cases c:w%2=1
  ·rw[if_pos (Ah c)];symm
  ·rw[if_neg (by rw[Az c];exact Av)];symm
theorem zob:∀xs:List Int,Bits xs->∃w,w<2^xs.length/\xs=tab xs.length (bitN w)
 |[],_=>⟨0,by decide,rfl⟩
 | x::xs,h=>by
  obtain⟨w,c,e⟩:=zob xs h.tail;have p:2^(x::xs).length=2*2^xs.length:=by rw[Bd,Nat.pow_succ];symm
  have go:∀b:Nat,b<2->tab (xs.length+1) (bitN (2*w+b))=bitN (2*w+b) 0::xs:=λb a=>by
   rw[zo9,zmn (f:=λi=>bitN (2*w+b) (i+1)) (g:=bitN w) λi _=>by unfold bitN;rw[Nat.testBit_succ,show (2*w+b)/2=w by symm],<-e]
  rcases h.head with rfl|rfl
  ·refine ⟨2*w+0,by symm, ?_⟩
   rw[Bd,go 0 (by symm)];unfold bitN;rw[Nat.testBit_zero,if_neg (by rw[Az (by symm)];exact Av)]
  ·refine ⟨2*w+1,by symm, ?_⟩
   rw[Bd,go 1 (by symm)];unfold bitN;rw[Nat.testBit_zero,if_pos (Ah (by symm))]
theorem zy3 (a b i:Nat):dif (bitN a i) (bitN b i)=bitN (a ^^^ b) i:=by
 unfold bitN dif;rw[Ca];cases a.testBit i<;>cases b.testBit i<;>rfl
theorem z05 (a b:Nat):Builtin.bitXor (a:Int) (b:Int)=((a ^^^ b:Nat):Int):=by
 have h:a<2^(a+b):=Nat.lt_of_le_of_lt (Dr a b) Nat.lt_two_pow_self;have c:b<2^(a+b):=Nat.lt_of_le_of_lt (Nat.le_add_left b a) Nat.lt_two_pow_self;have x:=zlp (xs:=tab (a+b) (bitN a)) (ys:=tab (a+b) (bitN b)) (zcm λi _=>zco a i) (zcm λi _=>zco b i) (by rw[zbj,zbj]);rw[zbp _ a h,zbp _ b c,z3w,zmn λi _=>zy3 a b i,zbp _ _ (Bk h c)] at x;exact x
noncomputable def XorN (Φ:Fn):Prop:=∀a b:Nat,Φ [.int (a:Nat),.int (b:Nat)]=Za ([.int (a:Nat),.int (b:Nat)],(.int ((a ^^^ b:Nat):Int),Zc))
theorem yav (h:z6e Φ):XorN Φ:=λa b=>by rw[<-z05];exact h a b
end L2
namespace My
open PySem PySem.Spec PyProof.Rows L2
noncomputable def top (i:Nat):Stmt:=PySem.Challenge.pw_yesnowords_k51_mended_by_halves.main.body.getD i (.Pass ⟨0,0,0,0⟩)
noncomputable def zet:Fd:=⟨"all_yes",["many"],["many"],[Zc],top 9⟩
noncomputable def zf0:Fd:=⟨"weight",["word"],["word","heavy"],[Zc],top 10⟩
noncomputable def zn7:Fd:=⟨"plus",["one","other"],["one","other"],[Zc,Zc],top 11⟩
noncomputable def zib:Fd:=⟨"times",["one","other"],["one","other"],[Zc,Zc],top 12⟩
noncomputable def zf5:Fd:=⟨"unlike",["one","other"],["one","other"],[Zc,Zc],top 13⟩
noncomputable def zeb:Fd:=⟨"against",["many","word"],["many","word"],[Zc,Zc],top 14⟩
noncomputable def zfu:Fd:=⟨"halves",["many","word"],["many","word","low","high"],[Zc,Zc],top 15⟩
noncomputable def zfv:Fd:=⟨"joined",["many","low","high"],["many","low","high"],[Zc,Zc,Zc],top 16⟩
noncomputable def zi9:Fd:=⟨"least",["kind"],["kind","many","most"],[Zc],top 18⟩
noncomputable def zd0:Fd:=⟨"is_near",["kind","one","other"],["kind","one","other"],[Zc,Zc,Zc],top 19⟩
noncomputable def zao:Fd:=⟨"by_more_than_half",["many","heard"],["many","heard","yes","no"],[Zc,Zc],top 21⟩
noncomputable def zf8:Fd:=⟨"by_halves",["kind","heard"],["kind","heard","many","most","low","high","both","lows","words","near_ones"],[Zc,Zc],top 22⟩
noncomputable def zap:Fd:=⟨"mend_by_halves",["kind","heard"],["kind","heard","word"],[Zc,Zc],top 23⟩
noncomputable def zg6:Fd:=⟨"_law_hand",["_law_script"],["_law_script","_law_state","_law_weighs","_law_cell","_law_k","_law_one"],[Zc],top 25⟩
noncomputable def zcu:Fd:=⟨"_law_take",["_law_state","_law_count"],["_law_state","_law_count","_law_digit","_law_mixed"],[Zd,Zc],top 26⟩
noncomputable def zcs:Fd:=⟨"_law_bits",["_law_state","_law_count"],["_law_state","_law_count","_law_way","_law_found","_law_k","_law_one"],[Zd,Zc],top 27⟩
noncomputable def zch:Fd:=⟨"_law_word",["_law_bits_here"],["_law_bits_here","_law_found","_law_bit"],[Zc],top 28⟩
noncomputable def za4:Fd:=⟨"_law_spread_out",["_law_many","_law_word_here"],["_law_many","_law_word_here"],[Zc,Zc],top 29⟩
noncomputable def zb4:Fd:=⟨"_law_terms",["_law_many","_law_most"],["_law_many","_law_most","_law_found","_law_letter"],[Zc,Zc],top 30⟩
noncomputable def zdz:Fd:=⟨"_law_values",["_law_many","_law_poly_here"],["_law_many","_law_poly_here","_law_found","_law_place","_law_says_yes"],[Zc,Zc],top 31⟩
noncomputable def zct:Fd:=⟨"_law_poly",["_law_state","_law_many","_law_most"],["_law_state","_law_many","_law_most","_law_some"],[Zd,Zc,Zc],top 32⟩
noncomputable def za3:Fd:=⟨"_law_poly_terms",["_law_many","_law_bits_here"],["_law_many","_law_bits_here","_law_found","_law_term","_law_inner","_law_letter"],[Zc,Zc],top 33⟩
noncomputable def zbl:Fd:=⟨"_law_refusal",["_law_caught"],["_law_caught","_law_marks"],[Zc],top 34⟩
noncomputable def zcn:Fd:=⟨"_law_kind",["_law_state"],["_law_state","_law_many"],[Zd],top 35⟩
noncomputable def zd8:Fd:=⟨"_law_faulty",["_law_state","_law_bits_here","_law_count"],["_law_state","_law_bits_here","_law_count","_law_found","_law_places_left","_law_turn","_law_place"],[Zd,Zc,Zc],top 36⟩
noncomputable def zci:Fd:=⟨"_law_told",["_law_kind_here","_law_heard"],["_law_kind_here","_law_heard","_law_found","_law_caught","error"],[Zc,Zc],top 37⟩
noncomputable def zb6:Fd:=⟨"_law_right",["_law_kind_here","_law_heard","_law_bits_here"],["_law_kind_here","_law_heard","_law_bits_here","_law_many","_law_most","_law_found","_law_some","_law_apart"],[Zc,Zc,Zc],top 38⟩
noncomputable def zmx:Fd:=⟨"law",["_law_script"],["_law_script","_law_state","_law_k","_law_kind_here","_law_many","_law_most","_law_size","_law_poly_here","_law_bits_here","_law_count","_law_some","_law_heard"],[Zc],top 39⟩
noncomputable def T:List Fd:=[zet,zf0,zn7,zib,zf5,zeb,zfu,zfv,zi9,zd0,zao,zf8,zap,zg6,zcu,zcs,zch,za4,zb4,zdz,zct,za3,zbl,zcn,zd8,zci,zb6,zmx]
noncomputable def bn:List Str:=["abs","all","bool","enumerate","int","isinstance","len","list","max","min","q near_ones","range","reversed","sorted","sum","tuple","zip"]
theorem zuo (Ψ:Str->Fn)(d:Nat):zas T bn Ψ (d+2) zet=Za (zsh Ψ):=by kernel_rfl
theorem zug:T.find? (·.nm==("all_yes" : Str))=Za zet:=by kernel_rfl
theorem zxc (Ψ:Str->Fn)(d:Nat):zas T bn Ψ (d+2) zf0=Za (zya Ψ):=by kernel_rfl
theorem zvo:T.find? (·.nm==("weight" : Str))=Za zf0:=by kernel_rfl
theorem z8z (Ψ:Str->Fn)(d:Nat):zas T bn Ψ (d+2) zn7=Za (z57 Ψ):=by kernel_rfl
theorem z5g:T.find? (·.nm==("plus" : Str))=Za zn7:=by kernel_rfl
theorem z09 (Ψ:Str->Fn)(d:Nat):zas T bn Ψ (d+2) zib=Za (z3m Ψ):=by kernel_rfl
theorem z5a:T.find? (·.nm==("times" : Str))=Za zib:=by kernel_rfl
noncomputable def zft (Ψ:Str->Fn):GS:=(gRet (zaa [Zc] (Ψ "weight") (gCns (gArg (zaa [Zc,Zc] (Ψ "plus") #v[8,17])) gA0)))
theorem zx1 (Ψ:Str->Fn)(d:Nat):zas T bn Ψ (d+2) zf5=Za (zft Ψ):=by kernel_rfl
theorem zvq:T.find? (·.nm==("unlike" : Str))=Za zf5:=by kernel_rfl
noncomputable def zgi (Ψ:Str->Fn):GS:=(gRet (zaa [Zc,Zc] (Ψ "plus") (gCns #v[1,4] (gCns (gArg (zaa [Zc] (Ψ "all_yes") #v[1,17])) gA0))))
theorem zrl (Ψ:Str->Fn)(d:Nat):zas T bn Ψ (d+2) zeb=Za (zgi Ψ):=by kernel_rfl
theorem zq9:T.find? (·.nm==("against" : Str))=Za zeb:=by kernel_rfl
noncomputable def zfw (Ψ:Str->Fn):GS:=(gSeq (gSet [] 2 (zaa [Zc,Zc] (Ψ "times") (gCns #v[1,4] (gCns (gArg (zaa [Zc] (Ψ "all_yes") (gCns #v[1,10] gA0))) gA0)))) (gSeq (gSet [] 3 (gOp2 (oI (λ_ j=>decide (0<=j)) λi j=>.int (i/2^j.toNat)) (gVarA 1) #v[1,20])) (gRet (zcb (gCns #v[2,4] (gCns #v[3,4] gA0))))))
theorem zwl (Ψ:Str->Fn)(d:Nat):zas T bn Ψ (d+2) zfu=Za (zfw Ψ):=by kernel_rfl
theorem zvz:T.find? (·.nm==("halves" : Str))=Za zfu:=by kernel_rfl
noncomputable def zf3 (Ψ:Str->Fn):GS:=(gRet (zaa [Zc,Zc] (Ψ "plus") (gCns #v[1,4] (gCns (gArg (gOp2 #v[0,0,1] (gVarA 2) #v[1,20])) gA0))))
theorem zx4 (Ψ:Str->Fn)(d:Nat):zas T bn Ψ (d+2) zfv=Za (zf3 Ψ):=by kernel_rfl
theorem zzo:T.find? (·.nm==("joined" : Str))=Za zfv:=by kernel_rfl
noncomputable def zio (Ψ:Str->Fn):GS:=(gSeq (gAsg [] (.tp [1,2]) (gVar 0)) (gRet (gOp2 #v[0,0,1] #v[1] (gArg (gOp2 #v[0,0,0] (gVarA 1) (gVarA 2))))))
theorem z1n (Ψ:Str->Fn)(d:Nat):zas T bn Ψ (d+2) zi9=Za (zio Ψ):=by kernel_rfl
theorem z31:T.find? (·.nm==("least" : Str))=Za zi9:=by kernel_rfl
noncomputable def zef (Ψ:Str->Fn):GS:=(gRet (gOp2 #v[4,13] (gArg (gOp2 oMult #v[2] (gArg (zaa [Zc,Zc] (Ψ "unlike") #v[2,14])))) (gArg (zaa [Zc] (Ψ "least") #v[1,17]))))
theorem zs1 (Ψ:Str->Fn)(d:Nat):zas T bn Ψ (d+2) zd0=Za (zef Ψ):=by kernel_rfl
theorem zur:T.find? (·.nm==("is_near" : Str))=Za zd0:=by kernel_rfl
noncomputable def zan (Ψ:Str->Fn):GS:=(gSeq (gSet [] 2 (zaa [Zc] (Ψ "weight") #v[6,13])) (gSeq (gSet [] 3 (zaa [Zc] (Ψ "weight") (gCns (gArg (zaa [Zc,Zc] (Ψ "against") #v[8,17])) gA0))) (gSeq (gIfS (zak (gOp2 oEq (gVarA 2) (gVarA 3))) (gRet (gC .non)) zbr) (gRet (gIf (zak (gOp2 #v[4,10] (gVarA 2) (gVarA 3))) (zaa [Zc] (Ψ "all_yes") #v[1,17]) (gC (.int 0)))))))
theorem zdy (Ψ:Str->Fn)(d:Nat):zas T bn Ψ (d+2) zao=Za (zan Ψ):=by kernel_rfl
theorem zdw:T.find? (·.nm==("by_more_than_half" : Str))=Za zao:=by kernel_rfl
noncomputable def zdb (Ψ:Str->Fn):GE:=zbq [Zb,Zb,Za 2,Za 3] (.nm 1) (zau (zcb (gCns #v[4,4] (gCns (gArg (zaa [Zc,Zc] (Ψ "plus") (gCns #v[5,4] (gCns #v[6,4] gA0)))) gA0)))) gYes (zaa [Zc,Zc] (Ψ "by_halves") (gCns (gArg (zcb (gCns #v[7,19] (gCns #v[3,4] gA0)))) #v[6,13]))
noncomputable def zc0 (Ψ:Str->Fn):GE:=zbq [Zb,Zb,Za 6,Za 2] (.nm 1) (zau (gVar 7)) (zak (gOp2 zh8 (gVarA 1) (gArg (gC .non)))) (zaa [Zc,Zc,Zc] (Ψ "joined") (gCns #v[3,4] (gCns #v[1,4] (gCns (gArg (zaa [Zc,Zc] (Ψ "plus") #v[2,14])) gA0))))
noncomputable def zc5 (Ψ:Str->Fn):GE:=zbq [Zb,Zb,Za 1,Za 0] (.nm 1) (zau (gVar 8)) (zak (zaa [Zc,Zc,Zc] (Ψ "is_near") (gCns #v[3,4] #v[2,14]))) (gVar 1)
noncomputable def zay (Ψ:Str->Fn):GS:=(gSeq (gAsg [] (.tp [2,3]) (gVar 0)) (gSeq (gIfS (zak (gOp2 oEq (gVarA 3) (gVarA 2))) (zcz [] 1) zbr) (gSeq (gIfS (zak (gOp2 oEq (gVarA 3) #v[0])) (gRet (zaa [Zc,Zc] (Ψ "by_more_than_half") (gCns #v[2,4] #v[6,13]))) zbr) (gSeq (gAsg [] (.tp [4,5]) (zaa [Zc,Zc] (Ψ "halves") (gCns #v[2,4] #v[6,13]))) (gSeq (gSet [] 6 (zaa [Zc,Zc] (Ψ "by_halves") (gCns (gArg (zcb (gCns #v[7,19] (gCns (gArg (gOp2 #v[0,0,0] (gVarA 3) #v[1])) gA0)))) (gCns (gArg (zaa [Zc,Zc] (Ψ "plus") (gCns #v[4,4] (gCns #v[5,4] gA0)))) gA0)))) #v[8,8])))))
theorem zm4 (Ψ:Str->Fn)(d:Nat):zas T bn Ψ (d+2) zcu=Za (zrz Ψ):=by kernel_rfl
theorem zl8:T.find? (·.nm==("_law_take" : Str))=Za zcu:=by kernel_rfl
theorem zm7 (Ψ:Str->Fn)(d:Nat):zas T bn Ψ (d+2) zcs=Za (z7b Ψ):=by kernel_rfl
theorem zne:T.find? (·.nm==("_law_bits" : Str))=Za zcs:=by kernel_rfl
theorem zml (Ψ:Str->Fn)(d:Nat):zas T bn Ψ (d+2) zch=Za (z8k Ψ):=by kernel_rfl
theorem zl5:T.find? (·.nm==("_law_word" : Str))=Za zch:=by kernel_rfl
noncomputable def zb8 (Ψ:Str->Fn):GE:=zbq #v[8,19] (.nm 1) (zc9 (gCns #v[4,12] gA0)) gYes #v[9,12]
noncomputable def za1 (Ψ:Str->Fn):GS:=(gRet (zb8 Ψ))
theorem zfh (Ψ:Str->Fn)(d:Nat):zas T bn Ψ (d+2) za4=Za (za1 Ψ):=by kernel_rfl
theorem ze0:T.find? (·.nm==("_law_spread_out" : Str))=Za za4:=by kernel_rfl
theorem zlb (Ψ:Str->Fn)(d:Nat):zas T bn Ψ (d+2) zb4=Za (zpa Ψ):=by kernel_rfl
theorem zj1:T.find? (·.nm==("_law_terms" : Str))=Za zb4:=by kernel_rfl
theorem znr (Ψ:Str->Fn)(d:Nat):zas T bn Ψ (d+2) zct=Za (zuy Ψ):=by kernel_rfl
theorem zlz:T.find? (·.nm==("_law_poly" : Str))=Za zct:=by kernel_rfl
theorem ze6 (Ψ:Str->Fn)(d:Nat):zas T bn Ψ (d+2) za3=Za (z73 Ψ):=by kernel_rfl
theorem ze5:T.find? (·.nm==("_law_poly_terms" : Str))=Za za3:=by kernel_rfl
noncomputable def zcr (Ψ:Str->Fn):GS:=(gSeq (gSet [0] 1 (gOp2 oAdd #v[1] (gArg (zaa [Zd,Zc] (Ψ "_law_take") (gCns (gVarA 0) (gCns #v[6] gA0)))))) (gRet (zcb (gCns #v[1,4] (gCns (gArg (zaa [Zd,Zc] (Ψ "_law_take") (gCns (gVarA 0) (gCns (gArg (gOp2 oAdd (gVarA 1) #v[1])) gA0)))) gA0)))))
theorem zmb (Ψ:Str->Fn)(d:Nat):zas T bn Ψ (d+2) zcn=Za (zcr Ψ):=by kernel_rfl
theorem zmg:T.find? (·.nm==("_law_kind" : Str))=Za zcn:=by kernel_rfl
noncomputable def zdr (Ψ:Str->Fn):GS:=(gSeq (gSet [0] 6 (zp6 4 (zaa [Zd,Zc] (Ψ "_law_take") (gCns (gVarA 0) (gCns #v[8,15] gA0))))) (zbf 3 (gVar 6) (gOp2 #v[0,0,0] #v[1] (gArg (gOp2 oIx (gVarA 3) (gVarA 6))))))
noncomputable def zds (Ψ:Str->Fn):GS:=gFor [0] (.nm 5) (zc9 (gCns (gArg (gOpN oMin (gCns (gVarA 2) #v[7,10]))) gA0)) (zdr Ψ)
noncomputable def zij (Ψ:Str->Fn):GS:=(gSeq (gSet [0] 3 (gOpN zye #v[7,14])) (gSeq (gSet [0] 4 (zg1 #v[7,10])) (gSeq (zds Ψ) (zcz [0] 3))))
noncomputable def zea (Ψ:Str->Fn):GE:=zbq [Zb,Zb,Za 1,Za 6] (.nm 1) (zc9 (gCns #v[6,19] gA0)) (zak (gOp2 oNe (gArg (gOp2 oIx (gVarA 3) (gVarA 1))) (gArg (gOp2 oIx (gVarA 2) (gVarA 1))))) (gVar 1)
noncomputable def zcg (Ψ:Str->Fn):GE:=zbq [Zb,Zb] (.nm 1) (zau #v[1,15]) gYes (gOpN oLen #v[7,14])
noncomputable def zba (Ψ:Str->Fn):GS:=(gSeq (gAsg [] (.tp [3,4]) (gVar 0)) (gSeq (gSet [] 5 (zaa [Zc,Zc] (Ψ "_law_told") #v[8,17])) (gSeq (gIfS (zak (gOp2 zh8 (gVarA 2) (gArg (gC .non)))) (gRet (gAnd (gOp1 (oIsi .int) (gVarA 5)) (gAnd (gNot (gOp1 (oIsi .bool) (gVarA 5))) (gOp2 oEq (gVarA 5) (gArg (zaa [Zc] (Ψ "_law_word") (gCns #v[2,4] gA0))))))) zbr) (gSeq (gIfS (zak (gOp2 oEq (gVarA 5) (gArg (gC (.str "TooFar"))))) (gRet (gC (.bl Zd))) zbr) (gSeq (gIfS (gOrT (zju (zak (gOp1 (oIsi .int) (gVarA 5)))) (gOrT (zak (gOp1 (oIsi .bool) (gVarA 5))) (zju (zak (zoe (oI yes2 λi j=>.bl (decide (i<=j))) #v[4,13] #v[0] (gVarA 5) (gArg (gOp2 #v[0,0,1] #v[1] #v[6,19]))))))) #v[0,20] zbr) (gSeq (gSet [] 6 (zaa [Zc,Zc] (Ψ "_law_spread_out") (gCns #v[3,4] (gCns #v[5,4] gA0)))) (gSeq (gSet [] 7 (gOpN oLen (gCns (gArg (zea Ψ)) gA0))) (gRet (gAnd (gOp2 #v[4,13] (gArg (gOp2 oMult #v[2] (gVarA 7))) (gArg (gOp2 #v[0,0,1] #v[1] (gArg (gOp2 #v[0,0,0] (gVarA 3) (gVarA 4)))))) (gOp2 (oI yes2 λi j=>.bl (decide (i<=j))) (gArg (gOpN oMax (gCns (gArg (gOp2 oAdd (gArg (za0 (gCns #v[0] gA0))) (gArg (zcg Ψ)))) gA0))) (gVarA 4)))))))))))
theorem zjx (Ψ:Str->Fn)(d:Nat):zas T bn Ψ (d+2) zb6=Za (zba Ψ):=by kernel_rfl
theorem zkh:T.find? (·.nm==("_law_right" : Str))=Za zb6:=by kernel_rfl
noncomputable def ztr (Ψ:Str->Fn):GS:=(gIfS (zju (zak (zaa [Zc,Zc,Zc] (Ψ "_law_right") (gCns #v[3,4] (gCns (gArg (zaa [Zd,Zc,Zc] (Ψ "_law_faulty") (gCns (gVarA 1) (gCns #v[8,4] (gCns #v[9,4] gA0))))) (gCns #v[8,4] gA0)))))) #v[0,20] zbr)
noncomputable def z0m (Ψ:Str->Fn):GS:=gFor [] (.nm 9) (zau (zcb #v[5,8])) (ztr Ψ)
noncomputable def zsr (Ψ:Str->Fn):GS:=(gIfS (zju (zak (zaa [Zc,Zc,Zc] (Ψ "_law_right") (gCns #v[3,4] (gCns #v[11,4] (gCns (gArg (gC .non)) gA0)))))) #v[0,20] zbr)
noncomputable def zzz (Ψ:Str->Fn):GS:=gFor [] (.nm 11) (zau #v[3,10]) (zsr Ψ)
noncomputable def zsv (Ψ:Str->Fn):GS:=(gSeq (gSet [] 8 (zaa [Zc,Zc] (Ψ "_law_values") (gCns #v[4,4] (gCns #v[7,4] gA0)))) (gSeq (z0m Ψ) (gSeq (gSet [] 10 (za0 (gCns (gArg (zaa [Zd,Zc,Zc] (Ψ "_law_faulty") (gCns (gVarA 1) (gCns #v[8,4] (gCns (gArg (gOp2 #v[0,0,3] (gVarA 6) #v[2])) gA0))))) (gCns (gArg (zaa [Zd,Zc,Zc] (Ψ "_law_faulty") (gCns (gVarA 1) (gCns #v[8,4] (gCns #v[6,4] gA0))))) gA0)))) (zzz Ψ))))
noncomputable def z0c (Ψ:Str->Fn):GS:=gFor [] (.nm 7) (zau (zcb #v[6,8])) (zsv Ψ)
noncomputable def zsw (Ψ:Str->Fn):GS:=(gSeq (gSet [] 3 (zaa [Zd] (Ψ "_law_kind") #v[7,14])) (gSeq (gAsg [] (.tp [4,5]) (gVar 3)) (gSeq (gSet [] 6 (gOp2 #v[0,0,1] #v[1] (gArg (gOp2 #v[0,0,0] (gVarA 4) (gVarA 5))))) (z0c Ψ))))
noncomputable def z0w (Ψ:Str->Fn):GS:=gFor [] (.nm 2) (zc9 (gCns #v[0,13] gA0)) (zsw Ψ)
noncomputable def z9d (Ψ:Str->Fn):GS:=(gSeq (gSet [] 1 (zaa [Zc] (Ψ "_law_hand") #v[1,17])) (gSeq (z0w Ψ) (gRet (gC (.bl Zd)))))
theorem yas (Ψ:Str->Fn)(d:Nat):zas T bn Ψ (d+2) zmx=Za (z9d Ψ):=by kernel_rfl
theorem yac:T.find? (·.nm==("law" : Str))=Za zmx:=by kernel_rfl
noncomputable def CS:List Str:=["TooFar"]
noncomputable def zmt (Ψ:Str->Fn):GX:=gSqX (gPl (gSet [] 2 (zaa [Zc,Zc] (Ψ "by_halves") #v[8,17]))) (gSqX (gIfX (zak (gOp2 oIs (gVarA 2) (gArg (gC .non)))) (gRm [.inr "no word of the kind is near enough to ",.inl 1] "TooFar") (gPl zbr)) (gPl (zcz [] 2)))
theorem z3r (Ψ:Str->Fn)(d:Nat):znm T bn CS Ψ d zap=Za (zmt Ψ):=by kernel_rfl
noncomputable def za8 (Ψ:Str->Fn):GAs:=gCns #v[0,4] (gCns (gArg (zaa [Zc] (Ψ "_law_word") #v[6,13])) gA0)
noncomputable def FX (Ψ:Str->Fn):FnX:=zcv [Zc,Zc] 3 (zmt Ψ)
noncomputable def FT (Ψ:Str->Fn):Fn:=zag [Zc,Zc] 5 (zt4 [] [Zc,Zc] (FX Ψ) (za8 Ψ) 2 3 4 CS)
noncomputable abbrev sm:Nat->Str->Fn:=sem2 T bn (ze4 "_law_told" λΨ _=>FT Ψ)
theorem zuh (d:Nat):sm (d+3) "all_yes" = zag [Zc] 1 (zsh (sm (d+2))):=za6 (by decide +kernel) zug (zuo _ d)
theorem zyi (d:Nat):sm (d+3) "weight" = zag [Zc] 2 (zya (sm (d+2))):=za6 (by decide +kernel) zvo (zxc _ d)
theorem z88 (d:Nat):sm (d+3) "plus" = zag [Zc,Zc] 2 (z57 (sm (d+2))):=za6 (by decide +kernel) z5g (z8z _ d)
theorem z07 (d:Nat):sm (d+3) "times" = zag [Zc,Zc] 2 (z3m (sm (d+2))):=za6 (by decide +kernel) z5a (z09 _ d)
theorem zvt (d:Nat):sm (d+3) "unlike" = zag [Zc,Zc] 2 (zft (sm (d+2))):=za6 (by decide +kernel) zvq (zx1 _ d)
theorem zsl (d:Nat):sm (d+3) "against" = zag [Zc,Zc] 2 (zgi (sm (d+2))):=za6 (by decide +kernel) zq9 (zrl _ d)
theorem e_halves (d:Nat):sm (d+3) "halves" = zag [Zc,Zc] 4 (zfw (sm (d+2))):=za6 (by decide +kernel) zvz (zwl _ d)
theorem e_joined (d:Nat):sm (d+3) "joined" = zag [Zc,Zc,Zc] 3 (zf3 (sm (d+2))):=za6 (by decide +kernel) zzo (zx4 _ d)
theorem z1f (d:Nat):sm (d+3) "least" = zag [Zc] 3 (zio (sm (d+2))):=za6 (by decide +kernel) z31 (z1n _ d)
theorem e_is_near (d:Nat):sm (d+3) "is_near" = zag [Zc,Zc,Zc] 3 (zef (sm (d+2))):=za6 (by decide +kernel) zur (zs1 _ d)
theorem e_by_more_than_half (d:Nat):sm (d+3) "by_more_than_half" = zag [Zc,Zc] 4 (zan (sm (d+2))):=za6 (by decide +kernel) zdw (zdy _ d)
theorem znc (d:Nat):sm (d+3) "_law_take" = zag [Zd,Zc] 4 (zrz (sm (d+2))):=za6 (by decide +kernel) zl8 (zm4 _ d)
theorem zno (d:Nat):sm (d+3) "_law_bits" = zag [Zd,Zc] 6 (z7b (sm (d+2))):=za6 (by decide +kernel) zne (zm7 _ d)
theorem zmr (d:Nat):sm (d+3) "_law_word" = zag [Zc] 3 (z8k (sm (d+2))):=za6 (by decide +kernel) zl5 (zml _ d)
theorem zew (d:Nat):sm (d+3) "_law_spread_out" = zag [Zc,Zc] 2 (za1 (sm (d+2))):=za6 (by decide +kernel) ze0 (zfh _ d)
theorem zjy (d:Nat):sm (d+3) "_law_terms" = zag [Zc,Zc] 4 (zpa (sm (d+2))):=za6 (by decide +kernel) zj1 (zlb _ d)
theorem zmm (d:Nat):sm (d+3) "_law_poly" = zag [Zd,Zc,Zc] 4 (zuy (sm (d+2))):=za6 (by decide +kernel) zlz (znr _ d)
theorem zfg (d:Nat):sm (d+3) "_law_poly_terms" = zag [Zc,Zc] 6 (z73 (sm (d+2))):=za6 (by decide +kernel) ze5 (ze6 _ d)
theorem zl3 (d:Nat):sm (d+3) "_law_kind" = zag [Zd] 2 (zcr (sm (d+2))):=za6 (by decide +kernel) zmg (zmb _ d)
theorem zj0 (d:Nat):sm (d+3) "_law_right" = zag [Zc,Zc,Zc] 8 (zba (sm (d+2))):=za6 (by decide +kernel) zkh (zjx _ d)
theorem z9y (d:Nat):sm (d+3) "law" = zag [Zc] 12 (z9d (sm (d+2))):=za6 (by decide +kernel) yac (yas _ d)
theorem z2i (Ψ:Str->Fn)(d:Nat):∀{p a b c:Pos},asM (compE deep) (sxOf T bn Ψ (d+1) zci) [.Name "_law_kind_here" p,.Call (.Name "_law_word" a) [.Name "_law_heard" b] [] c] zap.m=Za (za8 Ψ):=by intro p a b c;kernel_rfl
theorem nd_T:(T.map (·.nm)).Nodup:=by decide +kernel
theorem z6b {P:Program}{w:World}{K:Zg}{m:Str->Option Ze}{base:Heap} (ok:∀t∈T,FdOk K m t) (l:∀x∈bn,m x=Zb) (j:K.In base) (nb:base.Ns mainGlobals m) {e:Zh} (n:XCls K m "YesNoError" e) (g:m "isinstance" = Zb) (o:m "ValueError" = Zb)
  (a:∀c∈CS,∃C,m c=Za (.ref C)/\XCls K m c C/\L2.subIn K C e=Zd/\zxi K m C c) :
  ∀(d:Nat) (Ψ:Str->Fn),AllFn P w K m base T d Ψ->∀t∈T,∀Φ,ze4 "_law_told" (λΨ _=>FT Ψ) Ψ d t.nm=Za Φ->∀f b,Fun K t.nm t.nm t.st f b->m t.nm=Za (.ref f)->FnOk P w K m base CX0 (d+2) f b t.ps (spF K t.m Φ) :=
 z4f (pos:=⟨0,0,0,0⟩) (tt:=zci) (td:=zap) (tr:=zbl) (gx:=zmt) (as:=za8) nd_T ok l j nb (λh=>absurd h (by decide +kernel)) (by simp [T]) (by simp [T]) (by simp [T]) rfl n (i:=2) (jb:=3) (jn:=4) rfl rfl rfl (by kernel_rfl) (by kernel_rfl) (by kernel_rfl) (by kernel_rfl) (by kernel_rfl) (by kernel_rfl) (by decide) (by decide) (by decide) (λz h=>by rcases h with rfl|rfl|rfl<;>decide)
  z3r (λΨ d=>z2i Ψ d) (λk f b F=>zka (ok zbl (by simp [T])) F (cn := "_law_caught") (mn := "_law_marks") rfl rfl rfl (by kernel_rfl) (by kernel_rfl) (by decide) (by decide) g o (by decide +kernel) (by decide) (by decide) (by decide)) a
noncomputable def cntR (n:Nat) (f:Nat->Bool):Nat:=((List.range n).filter f).length
structure Cd (m r w:Nat):Prop where
 lt:w<2^2^m
 dg:Deg m r (bitN w)
noncomputable def ds (m a b:Nat):Nat:=cntR (2^m) (a ^^^ b).testBit
theorem ztq {n:Nat}{f g:Nat->Bool}(h:∀p,p<n->f p=g p):cntR n f=cntR n g:=by
 unfold cntR;rw[Ha λp a=>h p (Bo.mp a)]
theorem bit_eq {n a b:Nat}(d:a<2^n)(e:b<2^n)(h:∀p,p<n->a.testBit p=b.testBit p):a=b:=by
 refine Nat.eq_of_testBit_eq λp=>?_;rcases Nat.lt_or_ge p n with c|c
 ·exact h p c
 ·rw[Nat.testBit_lt_two_pow (At d (Cm (by decide) c)),Nat.testBit_lt_two_pow (At e (Cm (by decide) c))]
theorem z7i (a b i:Nat):bitN (a ^^^ b) i=(bitN a i+bitN b i)%2:=by
 unfold bitN;rw[Ca];cases a.testBit i<;>cases b.testBit i<;>rfl
theorem zx3 {a b p q:Nat}(h:a.testBit p=b.testBit q):bitN a p=bitN b q:=by unfold bitN;rw[h]
theorem cd_xor {m r a b:Nat}(A:Cd m r a)(B:Cd m r b):Cd m r (a ^^^ b) :=
 ⟨Bk A.lt B.lt,zg3 (λp _=>(z7i a b p).symm) (z3c A.dg B.dg)⟩
noncomputable def lwN (m a:Nat):Nat:=a%2^2^m
noncomputable def hgN (m a:Nat):Nat:=a/2^2^m
noncomputable def jnN (m l h:Nat):Nat:=l ^^^ (h*2^2^m)
theorem zfi (m a p:Nat)(h:p<2^m):(lwN m a).testBit p=a.testBit p:=by
 unfold lwN;rw[Nat.testBit_mod_two_pow,Ah h,Bool.true_and]
theorem zha (m a p:Nat):(hgN m a).testBit p=a.testBit (p+2^m):=by
 unfold hgN;rw[Nat.testBit_div_two_pow]
theorem zix (m a:Nat):lwN m a<2^2^m:=Nat.mod_lt _ (Fv (by decide))
theorem z35 (m a:Nat)(h:a<2^2^(m+1)):hgN m a<2^2^m:=by
 unfold hgN;rw[Nat.div_lt_iff_lt_mul (Fv (by decide)),<-Nat.pow_add,<-Nat.two_mul,<-Nat.pow_succ'];exact h
theorem z3f {m l h p:Nat}(a:p<2^m):(jnN m l h).testBit p=l.testBit p:=by
 unfold jnN;rw[Ca,Nat.testBit_mul_two_pow,Az (by symm),Eh,Bool.xor_false]
theorem z9l {m l h p:Nat}(a:l<2^2^m):(jnN m l h).testBit (p+2^m)=h.testBit p:=by
 unfold jnN;rw[Ca,Nat.testBit_mul_two_pow,Ah (show 2^m<=p+2^m by symm),Bool.true_and,Nat.add_sub_cancel,Nat.testBit_lt_two_pow (At a (Cm (by decide) (by symm))),Bool.false_xor]
theorem z2w {m l h:Nat}(b:l<2^2^m)(a:h<2^2^m):jnN m l h<2^2^(m+1):=by
 have e:(2:Nat)^2^(m+1)=2^2^m*2^2^m:=by rw[<-Nat.pow_add,<-Nat.two_mul,<-Nat.pow_succ']
 refine Bk (At b (Cm (by decide) (Cm (by decide) (by symm)))) ?_;rw[e];exact Nat.mul_lt_mul_of_pos_right a (Fv (by decide))
theorem zhq {m p:Nat}(h:p<2^(m+1)):p<2^m\/∃q,q<2^m/\p=q+2^m:=by
 rcases Nat.lt_or_ge p (2^m) with c|c
 ·exact .inl c
 ·exact .inr ⟨p-2^m,by symm,by symm⟩
theorem ztv (m a:Nat)(h:a<2^2^(m+1)):jnN m (lwN m a) (hgN m a)=a:=by
 refine bit_eq (z2w (zix m a) (z35 m a h)) h λp b=>?_;rcases zhq b with c|⟨q,_,rfl⟩
 ·rw[z3f c,zfi m a p c]
 ·rw[z9l (zix m a),zha]
theorem zp5 (m:Nat)(f:Nat->Bool):cntR (2^(m+1)) f=cntR (2^m) f+cntR (2^m) λp=>f (p+2^m):=by
 unfold cntR;have e:List.range (2^(m+1))=List.range (2^m)++(List.range (2^m)).map λp=>p+2^m:=by
  rw[Nat.pow_succ,Nat.mul_two,List.range_add];congr 1;exact Fh λp _=>Nat.add_comm ..
 rw[e,Du,Bf,List.filter_map,Ad];rfl
theorem zlx {m a:Nat}:cntR (2^(m+1)) a.testBit=cntR (2^m) (lwN m a).testBit+cntR (2^m) (hgN m a).testBit:=by
 rw[zp5];congr 1
 ·exact ztq λp h=>(zfi m a p h).symm
 ·exact ztq λp h=>(zha m a p).symm
theorem lw_x (m a b:Nat):lwN m (a ^^^ b)=lwN m a ^^^ lwN m b:=bit_eq (zix _ _) (Bk (zix _ _) (zix _ _)) λp h=>by
 rw[zfi _ _ _ h,Ca,Ca,zfi _ _ _ h,zfi _ _ _ h]
theorem hg_x (m a b:Nat):hgN m (a ^^^ b)=hgN m a ^^^ hgN m b:=Nat.eq_of_testBit_eq λp=>by
 rw[zha,Ca,Ca,zha,zha]
theorem zxx {m a b:Nat}:ds (m+1) a b=ds m (lwN m a) (lwN m b)+ds m (hgN m a) (hgN m b):=by
 unfold ds;rw[zlx,lw_x,hg_x]
theorem zjk (n x y:Nat):cntR n (x ^^^ y).testBit<=cntR n x.testBit+cntR n y.testBit:=by
 unfold cntR
 induction List.range n with
 |nil=>exact Ae _
 | cons p l i =>
  rw[Dc,Dc,Dc,Ca];cases x.testBit p<;>cases y.testBit p<;>simp only [Bool.xor_false,Bool.xor_true,Bool.not_true,Gd,Fe,Fx,Cz,Bd]<;>symm
theorem zmk {n a:Nat}(c:a<2^n)(h:cntR n a.testBit=0):a=0:=bit_eq c (Fv (by decide)) λp b=>by
 have:=(Ek.mp (List.eq_nil_of_length_eq_zero h)) p (Bo.mpr b);rw[Ef];exact Bool.eq_false_iff.mpr this
theorem z52:∀m:Fin 6,∀q:Fin (2^m.val),(zbz (q.val+2^m.val)).isPerm (zbz q.val++(zbz q.val).map λp=>p+2^m.val)=Zd:=by decide +kernel
theorem z9h:∀m:Fin 6,∀q:Fin (2^m.val),(letL (q.val+2^m.val)).length=(letL q.val).length+1:=by decide +kernel
theorem z7p {m q:Nat}(a:m<6)(h:q<2^m):(letL (q+2^m)).length=(letL q).length+1:=z9h ⟨m,a⟩ ⟨q,h⟩
theorem z8n:∀m:Fin 7,∀q:Fin (2^m.val),(letL q.val).length<=m.val:=by decide +kernel
theorem z74:∀q:Fin 64,(letL q.val).length<=0->q.val=0:=by decide +kernel
theorem one_at:∀p:Fin 64,coefF (λq=>if q=0 then 1 else 0) p.val=1:=by decide +kernel
theorem z06:∀p:Fin 64,coefF (λ_=>1) p.val=1->(letL p.val).length<=0:=by decide +kernel
theorem zero_at (p:Nat):coefF (λ_=>0) p=0:=by
 unfold coefF
 induction zbz p with
 |nil=>rfl
 |cons x l i=>rw[Aw,Bj,Gw];exact i
theorem z1x {m q:Nat}(a:m<6)(h:q<2^m)(f:Nat->Int):coefF f (q+2^m)=(coefF f q+coefF (λp=>f (p+2^m)) q)%2:=by
 unfold coefF;rw[znt f (List.isPerm_iff.mp (z52 ⟨m,a⟩ ⟨q,h⟩)),Dn,List.sum_append,Dz];show (((zbz q).map f).sum+((zbz q).map λp=>f (p+2^m)).sum)%2=_;symm
theorem up {m q:Nat}(h:q<2^m):q<2^(m+1):=by rw[Nat.pow_succ];symm
theorem coef_sum {m q a:Nat}(c:m<6)(b:q<2^m):coefF (bitN a) (q+2^m)=coefF (bitN (lwN m a ^^^ hgN m a)) q:=by
 rw[z1x c b,coef_congr λp h=>zx3 (zfi m a p (by symm)).symm,coef_congr λp h=>zx3 (zha m a p).symm,<-zo8];exact coef_congr λp _=>(z7i _ _ p).symm
theorem z0j {m r a:Nat}(A:Cd (m+1) r a):Cd m r (lwN m a) :=
 ⟨zix m a,λq h e=>A.dg q (up h) ((coef_congr λp b=>zx3 (zfi m a p (by symm)).symm).trans e)⟩
theorem z0d {m r a:Nat}(b:m<6)(A:Cd (m+1) (r+1) a):Cd m r (lwN m a ^^^ hgN m a):=by
 refine⟨Bk (zix m a) (z35 m a A.lt),λq h e=>?_⟩;have:=A.dg (q+2^m) (by rw[Nat.pow_succ];symm) ((coef_sum b h).trans e);rw[z7p b h] at this;symm
theorem z1w {m r l d:Nat}(a:m<6)(L:Cd m (r+1) l)(D:Cd m r d):Cd (m+1) (r+1) (jnN m l (l ^^^ d)):=by
 have f:=Bk L.lt D.lt;refine⟨z2w L.lt f,λq i e=>?_⟩;have b:lwN m (jnN m l (l ^^^ d))=l:=bit_eq (zix _ _) L.lt λp h=>by rw[zfi _ _ _ h,z3f h]
 have g:hgN m (jnN m l (l ^^^ d))=l ^^^ d:=Nat.eq_of_testBit_eq λp=>by rw[zha,z9l L.lt]
 rcases zhq i with c|⟨q,c,rfl⟩
 ·exact L.dg q c ((coef_congr λp h=>zx3 (z3f (by symm)).symm).trans e)
 ·rw[coef_sum a c,b,g, <- Ci,Ej,Ff] at e;have:=D.dg q c e;rw[z7p a c];symm
theorem z6l {m N:Nat}(b:m<=6)(h:N<2^2^m):Cd m m N:=⟨h,λq a _=>z8n ⟨m,by symm⟩ ⟨q,a⟩⟩
theorem ziu {n p:Nat}(h:p<n):(2^n-1).testBit p=Zd:=by
 rw[Nat.testBit_two_pow_sub_one,Ah h]
theorem cd_0 {m w:Nat}(j:m<=6):Cd m 0 w↔w=0\/w=2^2^m-1:=by
 have b:0<2^2^m:=Fv (by decide);have k:=zb9 j;constructor
 ·intro h;have i:∀p,p<2^m->bitN w p=coefF (bitN w) 0:=λp a=>by
   rw[<-zon (zco w) (show p<64 by symm)];rcases coef_bit (bitN w) 0 with c|c
   ·rw[coef_congr λq f => ?_,zero_at,c];rcases coef_bit (bitN w) q with d|d
    ·exact d
    ·have:=h.dg q (by symm) d;obtain rfl:q=0:=z74 ⟨q,by symm⟩ this;symm
   ·rw[coef_congr λq f => ?_,one_at ⟨p,by symm⟩,c];by_cases z:q=0
    ·rw[if_pos z,z,c]
    ·rw[if_neg z];rcases coef_bit (bitN w) q with d|d
     ·exact d
     ·exact absurd (z74 ⟨q,by symm⟩ (h.dg q (by symm) d)) z
  rcases coef_bit (bitN w) 0 with c|c
  ·refine .inl (bit_eq h.lt b λp a => ?_);have:=i p a;rw[c] at this;rw[Ef,<-zr0,this];rfl
  ·refine .inr (bit_eq h.lt (by symm) λp a => ?_);have:=i p a;rw[c] at this;rw[ziu a,<-zr0,this];rfl
 ·rintro (rfl|rfl)
  ·refine⟨b,λq _ e => ?_⟩;rw[coef_congr (g:=λ_=>0) λp _=>by unfold bitN;rw[Ef];rfl,zero_at] at e;cases e
  ·refine⟨by symm,λq f e => ?_⟩;rw[coef_congr (g:=λ_=>1) λp a=>by unfold bitN;rw[ziu (by symm)];rfl] at e;exact z06 ⟨q,by symm⟩ e
theorem ds_all (m N:Nat):ds m (2^2^m-1) N+cntR (2^m) N.testBit=2^m:=by
 have e:ds m (2^2^m-1) N=cntR (2^m) λp=>!N.testBit p:=ztq λp h=>by rw[Ca,ziu h,Bool.true_xor]
 have go:∀l:List Nat,(l.filter λp=>!N.testBit p).length+(l.filter N.testBit).length=l.length:=λl=>by
  induction l with
  |nil=>rfl
  | cons p l i =>
   rw[Dc,Dc];cases N.testBit p<;>simp only [Bool.not_true,Gd,Fe,Fx,Cz,Bd]<;>symm
 rw[e];exact (go _).trans By
theorem wt_ge:∀(m r a:Nat),m<=6->r<=m->Cd m r a->a≠0->2^(m-r)<=cntR (2^m) a.testBit
 | 0,r,a,_,f,A,h=>by
  rw[Nat.zero_sub];exact Nat.pos_of_ne_zero λz=>h (zmk A.lt z)
 | m+1,0,a,b,_,A,h=>by
  rcases (cd_0 b).mp A with rfl|rfl
  ·exact absurd rfl h
  ·have:=ds_all (m+1) 0
   have z:cntR (2^(m+1)) (0:Nat).testBit=0:=by
    unfold cntR;rw[Ek.mpr λp _=>by rw[Ef];decide];rfl
   unfold ds at this;rw[Nat.xor_zero] at this;rw[Fz];symm
 | m+1,r+1,a,b,f,A,h=>by
  rw[zlx,Nat.add_sub_add_right];have L:=z0j A;have D:=z0d (by symm) A;by_cases d:lwN m a ^^^ hgN m a=0
  ·have e:lwN m a=hgN m a:=by
    have:=congrArg (λx=>lwN m a ^^^ x) d;rw[Nat.xor_zero,<-Ci,Ej,Ff] at this;exact this.symm
   have l:lwN m a≠0:=λz=>h (by rw[<-ztv m a A.lt,<-e,z];unfold jnN;rw[Nat.zero_mul];rfl);rw[<-e];by_cases c:r+1<=m
   ·have:=wt_ge m (r+1) _ (by symm) c L l
    rw[show m-r=m-(r+1)+1 by symm];symm
   ·rw [show m-r=0 by symm]
    have:cntR (2^m) (lwN m a).testBit≠0:=λz=>l (zmk L.lt z);symm
  ·exact Bz (wt_ge m r _ (by symm) (by symm) D d) (zjk _ _ _)
theorem zv5 {m r N a b:Nat}(h:m<=6)(e:r<=m)(A:Cd m r a)(B:Cd m r b)(c:2*ds m a N<2^(m-r))(d:2*ds m b N<2^(m-r)):a=b:=by
 by_cases z:a ^^^ b=0
 ·have:=congrArg (λx=>a ^^^ x) z;rw[Nat.xor_zero,<-Ci,Ej,Ff] at this;exact this.symm
 ·have w:=wt_ge m r _ h e (cd_xor A B) z;have t:=zjk (2^m) (a ^^^ N) (b ^^^ N);rw[show a ^^^ N ^^^ (b ^^^ N)=a ^^^ b by rw[Gv b,Ci,<-Ci N,Ej,Ff]] at t;unfold ds at c d;symm
theorem zi8 (w:Nat):∀n,(tab n (bitN w)).sum=(cntR n w.testBit:Int)
 |0=>rfl
 | n+1=>by
  rw[zol,List.sum_append,zi8 w n];unfold cntR;rw[List.range_succ,Du,Bf];unfold bitN;cases h:w.testBit n with
  |true=>rw[List.filter_cons_of_pos h];show _+(1+0)=_;rw[List.filter_nil,List.length_singleton];symm
  |false=>rw[List.filter_cons_of_neg (by rw[h];decide)];show _+(0+0)=_;rw[List.filter_nil,List.length_nil];symm
noncomputable def z83 (Φ:Fn):Prop:=∀m r w h:Nat,1<=m->m<=6->r<=m->w<2^2^m->h<2^2^m->Φ [kdW m r,.int (w:Nat),.int (h:Nat)]=Za ([kdW m r,.int (w:Nat),.int (h:Nat)],(.bl (decide (2*cntR (2^m) (w ^^^ h).testBit<2^(m-r))),Zc))
noncomputable def zs0 (Φ:Fn):Prop:=∀m t:Nat,m<=6->t<=m->Φ [kdW m t]=Za ([kdW m t],(.int ((2^(m-t):Nat):Int),Zc))
theorem zxr (Ψ:Str->Fn):zs0 (zag [Zc] 3 (zio Ψ)):=λm t h a=>by
 have e:((m:Nat):Int)-(t:Nat)=((m-t:Nat):Int):=by symm
 have p:=pow1 (l:=m-t) (by symm);unfold zio kdW;refine zbv (en:=#v[6,16]) rfl (z7g (e1:=#v[6,16]) ?_ ?_) rfl
 ·simp! []
 ·simp! [e,p,one_mul_pow]
noncomputable def UnlN (Φ:Fn):Prop:=∀m w h:Nat,m<=6->w<2^2^m->h<2^2^m->Φ [.int (w:Nat),.int (h:Nat)]=Za ([.int (w:Nat),.int (h:Nat)],(.int (cntR (2^m) (w ^^^ h).testBit:Nat),Zc))
theorem ya8 {Ψ:Str->Fn}(d:zfs (Ψ "weight"))(a:XorN (Ψ "plus")):UnlN (zag [Zc,Zc] 2 (zft Ψ)):=λm w h c e b=>by
 have p:=zb9 c;have x:=a w h;have q:=d (tab (2^m) (bitN (w ^^^ h))) (zcm λi _=>zco _ i) (by rw[zbj];symm);rw[zbp _ _ (Bk e b),zi8] at q;unfold zft;simp! [x,q]
theorem z81 {Ψ:Str->Fn}(e:UnlN (Ψ "unlike"))(g:zs0 (Ψ "least")):z83 (zag [Zc,Zc,Zc] 3 (zef Ψ)):=λm r w h i a c f b=>by
 have u:=e m w h a f b;have l:=g m r a c;have d:decide ((2:Int)*(cntR (2^m) (w ^^^ h).testBit:Nat)<((2^(m-r):Nat):Int))=decide (2*cntR (2^m) (w ^^^ h).testBit<2^(m-r)):=decide_eq_decide.mpr (by symm);unfold zef;simp! [u,l,mul2,d]
noncomputable def oW:Option Nat->W
 |some w=>.int (w:Nat)
 |none=>.non
structure Tol (m r N:Nat) (o:Option Nat):Prop where
 cd:∀w,o=Za w->Cd m r w
 nr:∀w,o=Za w->2*ds m w N<2^(m-r)
 all:∀w,Cd m r w->2*ds m w N<2^(m-r)->o=Za w
theorem z2o {m N:Nat}(a:m<=6)(h:N<2^2^m):Tol m m N (Za N):=by
 refine⟨λw e=>by rw[<-sI e];exact z6l a h,λw e=>?_,λw A d=>?_⟩
 ·rw[<- sI e,Nat.sub_self];unfold ds cntR;rw[Ej,Ek.mpr λp _=>by rw[Ef];decide]
  decide
 ·rw[Nat.sub_self] at d;have z:=zmk (Bk A.lt h) (show cntR (2^m) (w ^^^ N).testBit=0 by unfold ds at d;symm);have:=congrArg (λx=>w ^^^ x) z;rw[Nat.xor_zero,<-Ci,Ej,Ff] at this;rw[this]
theorem yao {m N:Nat}(h:m<=6):Tol m 0 N (if cntR (2^m) N.testBit=2^m-cntR (2^m) N.testBit then Zb else if 2^m-cntR (2^m) N.testBit<cntR (2^m) N.testBit then Za (2^2^m-1) else Za 0):=by
 have a:=ds_all m N;have b:ds m 0 N=cntR (2^m) N.testBit:=by unfold ds;rw[Ff]
 have A:=(cd_0 h).mpr (.inr rfl);have Z:=(cd_0 h).mpr (.inl rfl);refine⟨λw e=>?_,λw e=>?_,λw B d=>?_⟩
 ·split at e
  ·cases e
  ·split at e
   ·rw[<-sI e];exact A
   ·rw[<-sI e];exact Z
 ·rw[Fz];split at e
  ·cases e
  ·split at e
   ·rw[<-sI e];symm
   ·rw[<-sI e];symm
 ·rw[Fz] at d;rcases (cd_0 h).mp B with rfl|rfl
  ·rw[b] at d;rw[if_neg (by symm),if_neg (by symm)]
  ·rw[if_neg (by symm),if_pos (by symm)]
theorem zzq {m r N:Nat} (F:1<=m) (n:m<6) (H:r+1<=m) (E:N<2^2^(m+1)) {ob:Option Nat} (p:Tol m r (lwN m N ^^^ hgN m N) ob) {lo:Nat->Nat->Option Nat} (T:∀b,ob=Za b->Tol m (r+1) (lwN m N) (lo b (lwN m N))/\Tol m (r+1) (hgN m N ^^^ b) (lo b (hgN m N ^^^ b))):Tol (m+1) (r+1) N (ob.bind λb=>((([lo b (lwN m N),lo b (hgN m N ^^^ b)].filterMap id).map λl=>jnN m l (l ^^^ b)).filter λw=>decide (2*ds (m+1) w N<2^(m-r))).head?):=by
 have i:m+1-(r+1)=m-r:=by symm
 have g:∀b,ob=Za b->∀w∈(([lo b (lwN m N),lo b (hgN m N ^^^ b)].filterMap id).map λl=>jnN m l (l ^^^ b)),Cd (m+1) (r+1) w:=λb j w t=>by
  obtain ⟨l,z,rfl⟩:=Do.mp t;obtain ⟨o,h,e⟩:=Cn.mp z;have L:Cd m (r+1) l:=by
   rcases Ak.mp h with rfl|h
   ·exact (T b j).1.cd l e
   ·rw [Ax] at h
    subst h;exact (T b j).2.cd l e
  exact z1w n L (p.cd b j)
 refine⟨λw e=>?_,λw e=>?_,λw A d=>?_⟩
 ·cases ob with
  |none=>cases e
  |some b=>exact g b rfl w (Ch.mp (List.mem_of_head? e)).1
 ·cases ob with
  |none=>cases e
  | some b =>
   rw[i];exact Ap (Ch.mp (List.mem_of_head? e)).2
 ·rw [i] at d
  have L:=z0j A;have D:=z0d n A;have G:=zxx (m:=m) (a:=w) (b:=N);have C:ds m (lwN m w ^^^ hgN m w) (lwN m N ^^^ hgN m N)<=ds m (lwN m w) (lwN m N)+ds m (hgN m w) (hgN m N):=by
   have:=zjk (2^m) (lwN m w ^^^ lwN m N) (hgN m w ^^^ hgN m N);rw[show lwN m w ^^^ lwN m N ^^^ (hgN m w ^^^ hgN m N)=lwN m w ^^^ hgN m w ^^^ (lwN m N ^^^ hgN m N) by rw[Ci,<-Ci (lwN m N),Gv (lwN m N),Ci (hgN m w),<-Ci]] at this;exact this
  have B:=p.all _ D (by symm);subst B;have u:ds m (lwN m w) (hgN m N ^^^ (lwN m w ^^^ hgN m w))=ds m (hgN m w) (hgN m N):=by
   unfold ds;congr 2;rw[Gv (hgN m N),<-Ci,<-Ci,Ej,Ff]
  have I:2^(m-r)=2*2^(m-(r+1)):=by rw[<-Nat.pow_succ',show (m-(r+1)).succ=m-r by symm]
  have fl:lo (lwN m w ^^^ hgN m w) (lwN m N)=Za (lwN m w)\/lo (lwN m w ^^^ hgN m w) (hgN m N ^^^ (lwN m w ^^^ hgN m w))=Za (lwN m w):=by
   rcases Nat.le_total (ds m (lwN m w) (lwN m N)) (ds m (hgN m w) (hgN m N)) with c|c
   ·exact .inl ((T _ rfl).1.all _ L (by symm))
   ·exact .inr ((T _ rfl).2.all _ L (by rw[u];symm))
  have x:jnN m (lwN m w) (lwN m w ^^^ (lwN m w ^^^ hgN m w))=w:=by
   rw[<-Ci,Ej,Ff,ztv m w A.lt]
  have mem:w∈(([lo (lwN m w ^^^ hgN m w) (lwN m N),lo (lwN m w ^^^ hgN m w) (hgN m N ^^^ (lwN m w ^^^ hgN m w))].filterMap id).map λl=>jnN m l (l ^^^ (lwN m w ^^^ hgN m w))).filter λw=>decide (2*ds (m+1) w N<2^(m-r)):=by
   refine Ch.mpr ⟨Do.mpr ⟨lwN m w,Cn.mpr ?_,x⟩,Ah d⟩;rcases fl with f|f
   ·exact⟨_,.head _,f⟩
   ·exact⟨_,.tail _ (.head _),f⟩
  have k:=g _ rfl;show List.head? _=Za w;generalize (([lo (lwN m w ^^^ hgN m w) (lwN m N),lo (lwN m w ^^^ hgN m w) (hgN m N ^^^ (lwN m w ^^^ hgN m w))].filterMap id).map λl=>jnN m l (l ^^^ (lwN m w ^^^ hgN m w)))=X at *
  cases q:X.filter λw=>decide (2*ds (m+1) w N<2^(m-r)) with
  |nil=>rw[q] at mem;exact (Cc mem).elim
  | cons y Y =>
   have s:=Ch.mp (show y∈X.filter _ from by rw[q];exact .head _);show Za y=Za w;rw[zv5 (by symm) (by symm) (k y s.1) A (by rw[i];exact Ap s.2) (by rw[i];exact d)]
theorem yaj (m:Nat):yesW (m:Int)=((2^2^m-1:Nat):Int):=by
 have p:0<2^2^m:=Fv (by decide);have e:((1:Int)*2^m).toNat=2^m:=by rw[one_mul_pow,Dl]
 unfold yesW;rw[Dl,e,one_mul_pow];symm
noncomputable def AllN (Φ:Fn):Prop:=∀m:Nat,m<=6->Φ [.int (m:Nat)]=Za ([.int (m:Nat)],(.int ((2^2^m-1:Nat):Int),Zc))
theorem z4g {Φ:Fn}(h:zou Φ):AllN Φ:=λm a=>by rw[<-yaj];exact h m (by symm) (by symm)
noncomputable def zq4 (Φ:Fn):Prop:=∀m N:Nat,m+1<=6->Φ [.int ((m+1:Nat):Int),.int (N:Nat)]=Za ([.int ((m+1:Nat):Int),.int (N:Nat)],(.tup [.int (lwN m N:Nat),.int (hgN m N:Nat)],Zc))
theorem zwz {Ψ:Str->Fn}(h:AllN (Ψ "all_yes"))(c:z55 (Ψ "times")):zq4 (zag [Zc,Zc] 4 (zfw Ψ)):=λm N d=>by
 have a:=h m (by symm);have t:=c (N:Int) ((2^2^m-1:Nat):Int);rw[band,Nat.and_two_pow_sub_one_eq_mod] at t;have q:=pow1 (l:=m) (by symm);have e:((m+1:Nat):Int)-1=(m:Int):=by symm
 have d0:decide ((0:Int)<=((2^m:Nat):Int))=Zd:=Ah (El _);have b:(N:Int)/2^(2^m)=((hgN m N:Nat):Int):=by unfold hgN;norm_cast
 unfold zfw;show _=Za (_,(W.tup [.int ((N%2^2^m:Nat):Int),.int (hgN m N:Nat)],Zc));simp! [e,a,t,q,one_mul_pow,d0,b]
noncomputable def zvb (Φ:Fn):Prop:=∀m l h:Nat,m+1<=6->h<2^2^m->Φ [.int ((m+1:Nat):Int),.int (l:Nat),.int (h:Nat)]=Za ([.int ((m+1:Nat):Int),.int (l:Nat),.int (h:Nat)],(.int (jnN m l h:Nat),Zc))
theorem zxm {Ψ:Str->Fn}(b:XorN (Ψ "plus")):zvb (zag [Zc,Zc,Zc] 3 (zf3 Ψ)):=λm l h g d=>by
 have p:(2:Nat)^m<=2^5:=Cm (by decide) (by symm);have a:h<2^64:=At d (Cm (by decide) (by symm));have c:=pow1 (l:=m) (by symm);have e:((m+1:Nat):Int)-1=(m:Int):=by symm
 have q:cPow (h:Int) ((2^m:Nat):Int)=Zd:=by
  unfold cPow;rw[Ah (show ((2^m:Nat):Int)<=1000000 from Int.ofNat_le.mpr (show 2^m<=1000000 by symm)),Ah (show ((h:Int)).natAbs<2^64 by rw[Int.natAbs_natCast];exact a)];rfl
 have f:(h:Int)*2^(2^m)=((h*2^2^m:Nat):Int):=by norm_cast
 have x:=b l (h*2^2^m);unfold zf3;show _=Za (_,(W.int ((l ^^^ (h*2^2^m):Nat):Int),Zc));simp! [e,c,one_mul_pow,q,f,x]
noncomputable def WtM (Φ:Fn):Prop:=∀m N:Nat,m<=6->N<2^2^m->Φ [.int (N:Nat)]=Za ([.int (N:Nat)],(.int (cntR (2^m) N.testBit:Nat),Zc))
theorem wt_m {Φ:Fn}(h:zfs Φ):WtM Φ:=λm N b a=>by
 have p:=zb9 b;have e:=h (tab (2^m) (bitN N)) (zcm λi _=>zco N i) (by rw[zbj];symm);rw[zbp _ _ a,zi8] at e;exact e
noncomputable def z4v (m N:Nat):Option Nat:=if cntR (2^m) N.testBit=2^m-cntR (2^m) N.testBit then Zb else if 2^m-cntR (2^m) N.testBit<cntR (2^m) N.testBit then Za (2^2^m-1) else Za 0
noncomputable def z9r (Φ:Fn):Prop:=∀m N:Nat,m<=6->N<2^2^m->Φ #v[0,16]=Za (#v[0,16],(oW (z4v m N),Zc))
theorem z9g {Ψ:Str->Fn}(j:WtM (Ψ "weight"))(l:AllN (Ψ "all_yes"))(o:∀m N:Nat,m<=6->Ψ "against" #v[0,16]=Za (#v[0,16],(.int ((N ^^^ (2^2^m-1):Nat):Int),Zc))):z9r (zag [Zc,Zc] 4 (zan Ψ)):=λm N h i=>by
 have b:=j m N h i;have g:=o m N h;have w:=j m (N ^^^ (2^2^m-1)) h (Bk i (by symm));have p:=ds_all m N;have e:cntR (2^m) (N ^^^ (2^2^m-1)).testBit=2^m-cntR (2^m) N.testBit:=by
  rw[Gv];show ds m (2^2^m-1) N=_;symm
 rw[e] at w;have a:=l m h;unfold z4v;generalize cntR (2^m) N.testBit=y at *
 generalize q:2^m-y=n at *
 unfold zan;by_cases c:y=n
 ·have d:decide ((y:Int)=(n:Int))=Zd:=Ah (by symm);rw[if_pos c];show _=Za (_,(W.non,Zc));simp! [b,g,w,d]
 ·have d:decide ((y:Int)=(n:Int))=Zc:=Az (by symm);rw[if_neg c];by_cases k:n<y
  ·have f:decide ((n:Int)<(y:Int))=Zd:=Ah (by symm);rw[if_pos k];show _=Za (_,(W.int ((2^2^m-1:Nat):Int),Zc));simp! [b,g,w,d,f,a]
  ·have f:decide ((n:Int)<(y:Int))=Zc:=Az (by symm);rw[if_neg k];show _=Za (_,(W.int ((0:Nat):Int),Zc));simp! [b,g,w,d,f]
theorem zc6 {α:Type}{cap:Cap}{T:Tg}{it:GL}{tc:GT}{te:GE}{en e0:En}{ts:List α} (P:En->Prop) (f g:α->W) (p:α->Bool) (A:it en=Za (e0,ts.map f)) (B:ts.length<=100000) (x:zb0 cap=Zd) (h0:P (ze7 cap e0)) (z:∀c,P c->zax cap e0 c=e0) (u:∀c a,P c->a∈ts->∃d j,tgSet (capKeep cap) T (f a) c=Za d/\tc d=Za (j,p a)/\P j/\(p a=Zd->∃l b,te j=Za (l,(g a,b))/\P l)):zbq cap T it tc te en=Za (e0,(.lst ((ts.filter p).map g),Zd)):=by
 have C:(100000:Nat)<=sizeLine:=by decide
 obtain ⟨y,out,n,h⟩:=zfx (cap:=cap) (T:=T) (tc:=tc) (te:=te) (λi c o=>P c/\o=((ts.take i).filter p).map g) A x (by rw [Ad];symm) ⟨h0,rfl⟩
  (λi w c o e h=>by
   obtain⟨h,rfl⟩:=h;rw[Am] at e;cases ha:ts[i]? with
   |none=>rw[ha] at e;exact noSome e
   | some a =>
    rw[ha] at e;obtain rfl:=sI e;obtain⟨d,j,m,k,v,r⟩:=u c a h (Bp ha);have t:ts.take (i+1)=ts.take i++[a]:=by rw[Dt,ha];rfl
    cases pa:p a with
    | true =>
     obtain⟨l,b,q,s⟩:=r pa;rw[pa] at k;exact⟨d,m,.inl ⟨_,_,_,k,q,s,by rw[t,Du,Dn,List.filter_cons_of_pos pa];rfl⟩⟩
    | false =>
     rw[pa] at k;exact⟨d,m,.inr ⟨_,k,v,by rw[t,Du,List.filter_cons_of_neg (by rw[pa];decide),List.filter_nil,Bm]⟩⟩)
 obtain⟨h,rfl⟩:=h;rw[z _ h,Ad,Db] at n;exact n
theorem zm0 {h:Nat->W}:∀a:List (Option Nat),(a.filter Option.isSome).map (λo=>h (o.getD 0))=(a.filterMap id).map h
 |[]=>rfl
 |none::a=>zm0 a
 |some x::a=>congrArg (h x :: ·) (zm0 a)
noncomputable def ByR (m r:Nat) (Φ:Fn):Prop:=∃t:Nat->Option Nat,∀N,N<2^2^m->Tol m r N (t N)/\Φ [kdW m r,.int (N:Nat)]=Za ([kdW m r,.int (N:Nat)],(oW (t N),Zc))
theorem z1k {m r N:Nat}{o:Option Nat}(T:Tol m r N o){w:Nat}(h:o=Za w):w<2^2^m:=(T.cd w h).lt
theorem z99 {Ψ:Str->Fn}{a z:Int}{m L G B Y:Nat}{t:Nat->Option Nat}{v0 v1 v7 v8 v9:Option (W×Bool)} (g:a-1=(m:Int)) (i:Ψ "plus" #v[2,16]=Za (#v[2,16],(.int (Y:Nat),Zc))) (f:∀x∈[L,Y],Ψ "by_halves" [.tup #v[8,18],.int (x:Nat)]=Za ([.tup #v[8,18],.int (x:Nat)],(oW (t x),Zc))) :
  zdb Ψ #v[3,15]=Za (#v[3,15],(.lst ([L,Y].map λx=>oW (t x)),Zd)):=by
 refine zc6 (λc=>∃u b,c=[u,b,#v[a,0],#v[z,0]]) (ts:=[L,Y]) (λx:Nat=>W.int (x:Nat)) (λx=>oW (t x)) (λ_=>Zd) (by simp! [i];try rfl) (by show 2<=100000;decide) rfl ⟨_,_,rfl⟩ (λc ⟨_,_,e⟩=>by rw[e];rfl) λc x d h=>?_;obtain⟨u,b,rfl⟩:=d;have f:=f x h;refine⟨[u,#v[(x:Nat),0],#v[a,0],#v[z,0]],[u,#v[(x:Nat),0],#v[a,0],#v[z,0]],rfl,rfl,⟨_,_,rfl⟩,λ_=>⟨[u,#v[(x:Nat),0],#v[a,0],#v[z,0]],Zc,?_,_,_,rfl⟩⟩;simp! [g,f]
theorem yag {Ψ:Str->Fn}{a:Int}{B:Nat}{b:List (Option Nat)}{J:Nat->Nat}{v0 v1 v3 v4 v5 v8 v9:Option (W×Bool)} (k:b.length<=100000) (f:∀l,Za l∈b->Ψ "plus" #v[1,16]=Za (#v[1,16],(.int ((l ^^^ B:Nat):Int),Zc))/\Ψ "joined" [.int a,.int (l:Nat),.int ((l ^^^ B:Nat):Int)]=Za ([.int a,.int (l:Nat),.int ((l ^^^ B:Nat):Int)],(.int (J l:Nat),Zc))) :
  zc0 Ψ [v0,v1,#v[a,0],v3,v4,v5,#v[(B:Nat),0],#v[(b.map oW),2],v8,v9]=Za ([v0,v1,#v[a,0],v3,v4,v5,#v[(B:Nat),0],#v[(b.map oW),1],v8,v9],(.lst (((b.filterMap id).map J).map λw:Nat=>W.int (w:Nat)),Zd)):=by
 rw[Dz,<-zm0];refine zc6 (λc=>∃u d,c=[u,d,#v[(B:Nat),0],#v[a,0]]) oW (λo=>W.int (J (o.getD 0):Nat)) Option.isSome rfl k rfl ⟨_,_,rfl⟩ (λc ⟨_,_,e⟩=>by rw[e];rfl) λc o i g=>?_;obtain⟨u,d,rfl⟩:=i;cases o with
 |none=>exact⟨[u,Za (.non,Zc),#v[(B:Nat),0],#v[a,0]],[u,Za (.non,Zc),#v[(B:Nat),0],#v[a,0]],rfl,rfl,⟨_,_,rfl⟩,λh=>by cases h⟩
 | some l =>
  obtain⟨x,j⟩:=f l g;refine⟨[u,#v[(l:Nat),0],#v[(B:Nat),0],#v[a,0]],[u,#v[(l:Nat),0],#v[(B:Nat),0],#v[a,0]],rfl,rfl,⟨_,_,rfl⟩,λ_=>⟨[u,#v[(l:Nat),0],#v[(B:Nat),0],#v[a,0]],Zc,?_,_,_,rfl⟩⟩;show _=Za (_,(W.int (J l:Nat),Zc));simp! [x,j]
theorem yax {Ψ:Str->Fn}{k:W}{N:Nat}{X:List Nat}{p:Nat->Bool}{v2 v3 v4 v5 v6 v7 v9:Option (W×Bool)} (b:X.length<=100000) (f:∀w∈X,Ψ "is_near" [k,.int (w:Nat),.int (N:Nat)]=Za ([k,.int (w:Nat),.int (N:Nat)],(.bl (p w),Zc))) :
  zc5 Ψ [#v[k,6],#v[(N:Nat),0],v2,v3,v4,v5,v6,v7,#v[(X.map λw:Nat=>W.int (w:Nat)),2],v9]=Za ([#v[k,6],#v[(N:Nat),0],v2,v3,v4,v5,v6,v7,#v[(X.map λw:Nat=>W.int (w:Nat)),1],v9],(.lst ((X.filter p).map λw:Nat=>W.int (w:Nat)),Zd)):=by
 refine zc6 (λc=>∃u a,c=[u,a,#v[(N:Nat),0],#v[k,6]]) (λw:Nat=>W.int (w:Nat)) (λw:Nat=>W.int (w:Nat)) p rfl b rfl ⟨_,_,rfl⟩ (λc ⟨_,_,e⟩=>by rw[e];rfl) λc w h d=>?_;obtain⟨u,a,rfl⟩:=h;have n:=f w d;exact⟨[u,#v[(w:Nat),0],#v[(N:Nat),0],#v[k,6]],[u,#v[(w:Nat),0],#v[(N:Nat),0],#v[k,6]],rfl,by simp! [n],⟨_,_,rfl⟩,λ_=>⟨[u,#v[(w:Nat),0],#v[(N:Nat),0],#v[k,6]],Zc,rfl,_,_,rfl⟩⟩
noncomputable def hdW:List Nat->W
 |y::_=>.int (y:Nat)
 |[]=>.non
noncomputable def R_by (Ψ:Str->Fn):GS:=#v[8,8]
theorem z0n {Ψ:Str->Fn}{a z:Int}{m r N L G S:Nat}{w:W}(d0:decide (z=a)=Zc)(d:decide (z=0)=Zc)(c:a-1=(m:Int))(b:z-1=(r:Int))(h:Ψ "halves" #v[6,12]=Za (#v[6,12],(.tup #v[9,9],Zc)))(x:Ψ "plus" #v[9,9]=Za (#v[9,9],(.int (S:Nat),Zc)))(e1:Ψ "by_halves" [.tup #v[4,8],.int (S:Nat)]=Za ([.tup #v[4,8],.int (S:Nat)],(w,Zc))):zay Ψ [#v[#v[5,12],3],#v[(N:Nat),0],Zb,Zb,Zb,Zb,Zb,Zb,Zb,Zb]=R_by Ψ [#v[#v[5,12],3],#v[(N:Nat),0],#v[a,0],#v[z,0],#v[(L:Nat),0],#v[(G:Nat),0],#v[w,6],Zb,Zb,Zb]:=by
 refine za5 (e1:=#v[2,10]) ?_ (za5 (e1:=#v[2,10]) ?_ (za5 (e1:=#v[2,10]) ?_ (za5 (e1:=[#v[#v[5,12],3],#v[(N:Nat),0],#v[a,0],#v[z,0],#v[(L:Nat),0],#v[(G:Nat),0],Zb,Zb,Zb,Zb]) ?_ (za5 ?_ rfl))))
 ·simp! []
 ·simp! [d0]
 ·simp! [d]
 ·simp! [h]
 ·simp! [x,c,b,e1]
theorem z77 {Ψ:Str->Fn}{a z:Int}{m r N L G S B Y:Nat}{t:Nat->Option Nat}{J:Nat->Nat}{p:Nat->Bool} (d0:decide (z=a)=Zc) (D:decide (z=0)=Zc) (u:a-1=(m:Int)) (M:z-1=(r:Int)) (I:Ψ "halves" #v[6,12]=Za (#v[6,12],(.tup #v[9,9],Zc))) (H:Ψ "plus" #v[9,9]=Za (#v[9,9],(.int (S:Nat),Zc))) (e1:Ψ "by_halves" [.tup #v[4,8],.int (S:Nat)]=Za ([.tup #v[4,8],.int (S:Nat)],(.int (B:Nat),Zc)))
  (O:Ψ "plus" #v[2,16]=Za (#v[2,16],(.int (Y:Nat),Zc))) (f:∀x∈[L,Y],Ψ "by_halves" [.tup #v[8,18],.int (x:Nat)]=Za ([.tup #v[8,18],.int (x:Nat)],(oW (t x),Zc)))
  (C:∀l,Za l∈[t L,t Y]->Ψ "plus" #v[1,16]=Za (#v[1,16],(.int ((l ^^^ B:Nat):Int),Zc))/\Ψ "joined" [.int a,.int (l:Nat),.int ((l ^^^ B:Nat):Int)]=Za ([.int a,.int (l:Nat),.int ((l ^^^ B:Nat):Int)],(.int (J l:Nat),Zc)))
  (A:∀w∈([t L,t Y].filterMap id).map J,Ψ "is_near" [.tup #v[5,12],.int (w:Nat),.int (N:Nat)]=Za ([.tup #v[5,12],.int (w:Nat),.int (N:Nat)],(.bl (p w),Zc))) :
  zag [Zc,Zc] 10 (zay Ψ) [.tup #v[5,12],.int (N:Nat)]=Za ([.tup #v[5,12],.int (N:Nat)],(hdW ((([t L,t Y].filterMap id).map J).filter p),Zc)):=by
 have q:=λe i g c b=>z99 (Ψ:=Ψ) (v0:=e) (v1:=i) (v7:=g) (v8:=c) (v9:=b) u O f;have o:([L,Y].map λx=>oW (t x))=[t L,t Y].map oW:=rfl;rw[o] at q;have F:=λe i d h j c b=>yag (Ψ:=Ψ) (v0:=e) (v1:=i) (v3:=d) (v4:=h) (v5:=j) (v8:=c) (v9:=b) (show [t L,t Y].length<=100000 by show 2<=100000;decide) C;have K:=λs d h j n g b=>yax (Ψ:=Ψ) (v2:=s) (v3:=d) (v4:=h) (v5:=j) (v6:=n) (v7:=g) (v9:=b) (show (([t L,t Y].filterMap id).map J).length<=100000 by rw[Ad];exact Bz (List.length_filterMap_le id [t L,t Y]) (by show 2<=100000;decide)) A;clear A C f o;generalize ([t L,t Y].filterMap id).map J=X at *
 generalize [t L,t Y].map oW=P at *
 generalize X.filter p=k at *
 have E:oIs (.int (B:Nat)) .non=Za #v[9,7]:=rfl;refine zbv (en:=[#v[#v[5,12],3],#v[(N:Nat),0],#v[a,0],#v[z,0],#v[(L:Nat),0],#v[(G:Nat),0],#v[(B:Nat),0],#v[P,1],#v[(X.map λw:Nat=>W.int (w:Nat)),1],#v[(k.map λw:Nat=>W.int (w:Nat)),1]]) rfl ((z0n d0 D u M I H e1).trans ?_) rfl;unfold R_by;refine za5 (e1:=[#v[#v[5,12],3],#v[(N:Nat),0],#v[a,0],#v[z,0],#v[(L:Nat),0],#v[(G:Nat),0],#v[(B:Nat),0],Zb,Zb,Zb]) ?_ (za5 (e1:=[#v[#v[5,12],3],#v[(N:Nat),0],#v[a,0],#v[z,0],#v[(L:Nat),0],#v[(G:Nat),0],#v[(B:Nat),0],#v[P,2],Zb,Zb]) ?_ (za5 (e1:=[#v[#v[5,12],3],#v[(N:Nat),0],#v[a,0],#v[z,0],#v[(L:Nat),0],#v[(G:Nat),0],#v[(B:Nat),0],#v[P,1],#v[(X.map λw:Nat=>W.int (w:Nat)),2],Zb]) ?_ (za5 (e1:=[#v[#v[5,12],3],#v[(N:Nat),0],#v[a,0],#v[z,0],#v[(L:Nat),0],#v[(G:Nat),0],#v[(B:Nat),0],#v[P,1],#v[(X.map λw:Nat=>W.int (w:Nat)),1],#v[(k.map λw:Nat=>W.int (w:Nat)),2]]) ?_ ?_)))
 ·simp! [E]
 ·simp! [q]
 ·simp! [F]
 ·simp! [K]
 ·cases k with
  |nil=>rfl
  | cons y k =>
   show _=Za (_,Fl.ret (W.int (y:Nat),Zc));simp! [zh2,Aw,List.isEmpty_cons]
theorem hd_o:∀l:List Nat,oW l.head?=hdW l
 |[]=>rfl
 |_::_=>rfl
theorem z79 {Ψ:Str->Fn}{a:Int}{N:Nat}:zag [Zc,Zc] 10 (zay Ψ) [.tup [.int a,.int a],.int (N:Nat)]=Za ([.tup [.int a,.int a],.int (N:Nat)],(.int (N:Nat),Zc)):=by
 have d:decide (a=a)=Zd:=Ah rfl;unfold zay;simp! [d]
theorem z1y {Ψ:Str->Fn}{a:Int}{N:Nat}{o:W}(d0:decide ((0:Int)=a)=Zc)(q:Ψ "by_more_than_half" #v[6,12]=Za (#v[6,12],(o,Zc))):zag [Zc,Zc] 10 (zay Ψ) [.tup [.int a,.int 0],.int (N:Nat)]=Za ([.tup [.int a,.int 0],.int (N:Nat)],(o,Zc)):=by
 unfold zay;simp! [d0,q]
theorem z08 {Ψ:Str->Fn}{a z:Int}{m r N L G S:Nat}(d0:decide (z=a)=Zc)(d:decide (z=0)=Zc)(c:a-1=(m:Int))(b:z-1=(r:Int))(h:Ψ "halves" #v[6,12]=Za (#v[6,12],(.tup #v[9,9],Zc)))(x:Ψ "plus" #v[9,9]=Za (#v[9,9],(.int (S:Nat),Zc)))(e1:Ψ "by_halves" [.tup #v[4,8],.int (S:Nat)]=Za ([.tup #v[4,8],.int (S:Nat)],(.non,Zc))):zag [Zc,Zc] 10 (zay Ψ) [.tup #v[5,12],.int (N:Nat)]=Za ([.tup #v[5,12],.int (N:Nat)],(.non,Zc)):=by
 exact zbv rfl ((z0n d0 d c b h x e1).trans (z0p rfl)) rfl
theorem z4x {Ψ:Str->Fn} (O:zq4 (Ψ "halves")) (k:XorN (Ψ "plus")) (L:zvb (Ψ "joined")) (G:z83 (Ψ "is_near")) (K:z9r (Ψ "by_more_than_half")) {m:Nat} (f:m+1<=6) (hrec:∀r,1<=m->r<=m->ByR m r (Ψ "by_halves")):∀r,r<=m+1->ByR (m+1) r (zag [Zc,Zc] 10 (zay Ψ)):=λr S=>by
 by_cases c:r=m+1
 ·subst c
  exact⟨λN=>Za N,λN h=>⟨z2o f h,z79⟩⟩
 have d0:decide ((r:Int)=((m+1:Nat):Int))=Zc:=Az (by symm);cases r with
 |zero=>exact⟨z4v (m+1),λN h=>⟨yao f,z1y d0 (K (m+1) N f h)⟩⟩
 | succ r =>
  obtain⟨g,H⟩:=hrec r (by symm) (by symm);obtain⟨a,j⟩:=hrec (r+1) (by symm) (by symm);refine⟨λN=>(g (lwN m N ^^^ hgN m N)).bind λb=>((([a (lwN m N),a (hgN m N ^^^ b)].filterMap id).map λl=>jnN m l (l ^^^ b)).filter λw=>decide (2*ds (m+1) w N<2^(m-r))).head?,λN h=>?_⟩;have lt:=zix m N;have n:=z35 m N h;obtain⟨E,i⟩:=H _ (Bk lt n);have T:∀b,g (lwN m N ^^^ hgN m N)=Za b->b<2^2^m:=λb u=>z1k E u;refine⟨zzq (ob:=g (lwN m N ^^^ hgN m N)) (lo:=λ_ x=>a x) (by symm) (by symm) (by symm) h E λb u=>⟨(j _ lt).1,(j _ (Bk n (T b u))).1⟩,?_⟩;have C:=O m N (by symm);have z:=k (lwN m N) (hgN m N);have D:((m+1:Nat):Int)-1=(m:Int):=by symm
  have F:((r+1:Nat):Int)-1=(r:Int):=by symm
  have y:decide (((r+1:Nat):Int)=0)=Zc:=Az (by symm);dsimp only;cases q:g (lwN m N ^^^ hgN m N) with
  | none =>
   rw[q] at i;exact z08 d0 y D F C z i
  | some b =>
   rw [q] at i;have bl:=T b q;obtain ⟨R,Q⟩:=j _ lt;obtain ⟨P,M⟩:=j _ (Bk n bl);have p:∀l,Za l∈[a (lwN m N),a (hgN m N ^^^ b)]->l<2^2^m:=λl d=>by
    rcases Ak.mp d with e|e
    ·exact z1k R e.symm
    ·exact z1k P (Ax.mp e).symm
   rw[Dq,hd_o];refine z77 (t:=a) (J:=λl=>jnN m l (l ^^^ b)) d0 y D F C z i (k _ b) (λx s=>?_) (λl d=>⟨k l b,L m l (l ^^^ b) (by symm) (Bk (p l d) bl)⟩) λw I=>?_
   ·rcases Ak.mp s with rfl | s
    ·exact Q
    ·rw[Ax.mp s];exact M
   ·obtain ⟨l,d,rfl⟩:=Do.mp I
    obtain⟨o,B,e⟩:=Cn.mp d;have e:o=Za l:=e;subst e;have A:=G (m+1) (r+1) (jnN m l (l ^^^ b)) N (by symm) f (by symm) (z2w (p l B) (Bk (p l B) bl)) h;rw[Nat.add_sub_add_right] at A;exact A
noncomputable def LN (m N:Nat):W:=.lst ((tab (2^m) (bitN N)).map W.int)
theorem zz2 {m:Nat}{xs:List Int}(h:Bits xs)(c:xs.length=2^m):∃N,N<2^2^m/\W.lst (xs.map W.int)=LN m N/\xs=tab (2^m) (bitN N):=by
 obtain⟨N,b,a⟩:=zob xs h;rw[c] at b a;exact⟨N,b,by unfold LN;rw[<-a],a⟩
theorem zng {n w:Nat}{f:Nat->Int}(h:w<n):atI ((tab n f).map W.int) (w:Int)=Za (.int (f w)):=zb7 (by rw[Am,zdc h];rfl)
noncomputable def zfe (Φ:Fn):Prop:=∀(m:Nat) (a:List (List Nat)) (x:W),(x=.tup (a.map tmW)\/x=.lst (a.map tmW))->m<=6->a.length<=64->(∀t∈a,∀l∈t,l<64)->(∀t∈a,t.length<=64)->Φ [.int (m:Nat),x]=Za ([.int (m:Nat),x],(.lst ((tab (2^m) (valF a)).map W.int),Zd))
theorem zyl (Ψ:Str->Fn):zfe (zag [Zc,Zc] 5 (zlg Ψ)):=λm ts x u c B o s=>by
 have z:=zb9 c;have b:∃a v4,zhk Ψ [#v[(m:Nat),0],#v[x,6],#v[[],2],Zb,Zb]=Za ([#v[(m:Nat),0],#v[x,6],#v[((tab (2^m) (valF ts)).map W.int),2],a,v4],.nx):=by
  obtain⟨q,h,a,v4,rfl⟩:=zbs (mp:=[]) (T:=.nm 3) (body:=ze3 Ψ) (λi e=>∃a v4,e=[#v[(m:Nat),0],#v[x,6],#v[((tab i (valF ts)).map W.int),2],a,v4]) (i3v c) ⟨_,_,rfl⟩ λi w e n y=>by
   obtain⟨a,v4,rfl⟩:=y;obtain⟨A,rfl⟩:=zel n;rw[Gw];have k:zh0 Ψ #v[0,15]=Za (#v[0,15],(.lst ((ts.filter λt=>hasT t i).map tmW),Zd)):=by
    refine z1r (xs:=[#v[(i:Nat),0]]) tmW (λt=>hasT t i) tmW (by rcases u with rfl|rfl<;>rfl) (by symm) rfl rfl rfl (λ_ _=>rfl) λd t f=>?_;have j:=c1v (Ψ:=Ψ) (v0:=d) (p:=i) (o t f) (s t f);have r:(t.map λl=>decide (i/2^l%2=1)).all id=hasT t i:=by unfold hasT;rw[List.all_map];rfl
    refine⟨#v[tmW t,6],?_,λ_=>⟨#v[tmW t,6],Zc,?_⟩⟩
    ·simp! [j,r]
    ·simp! []
   have lt:(tab i (valF ts)).length<16777216:=by rw[zbj];symm
   have g:(((ts.filter λt=>hasT t i).length:Nat):Int)%2=valF ts i:=by unfold valF;symm
   refine⟨_,[#v[(m:Nat),0],#v[x,6],#v[((tab (i+1) (valF ts)).map W.int),2],#v[(i:Nat),0],#v[((ts.filter λt=>hasT t i).map tmW),2]],rfl,.inl ?_,_,_,rfl⟩;rw[zol i,Dn];unfold ze3;simp! [k,Ad,g,lt,Aw,List.map_nil]
  rw[zen] at h;exact⟨a,v4,h⟩
 obtain⟨a,v4,b⟩:=b;unfold zlg;simp! [b]
noncomputable def zok (Φ:Fn):Prop:=∀(m:Nat) (g:Nat->Int),m<=6->(∀p,Bit (g p))->Φ [.int (m:Nat),.int #v[9,17]]=Za ([.int (m:Nat),.int #v[9,17]],(.lst ((tab (2^m) g).map W.int),Zd))
theorem zu9 (Ψ:Str->Fn):zok (zag [Zc,Zc] 2 (za1 Ψ)):=λm g d f=>by
 have t:=zb9 d;have b:=pow1 (l:=m) (by symm);have c:zb8 Ψ [#v[(m:Nat),0],#v[#v[9,17],0]]=Za ([#v[(m:Nat),0],#v[#v[9,17],0]],(.lst ((tab (2^m) g).map W.int),Zd)):=by
  refine zn6 (xs:=[#v[#v[9,17],0]]) (ws:=rngW 0 (2^m)) (rng1_n (by simp! [b,one_mul_pow]) (by symm)) (by rw[zen];symm) (by rw[zen,Ad,zbj]) rfl rfl rfl (λ_ _=>rfl) λi q w r o h=>?_;obtain⟨a,rfl⟩:=zel o;rw[Am,zdc a] at h;obtain rfl:=sI h;have e:=pow1 (l:=i) (by symm);have j:=divP (p:=zad (tab (2^m) g)) (l:=i) (by symm);have k:zad (tab (2^m) g)/((2^i:Nat):Int)%2=g i:=by
   have s:=zui (zcm (n:=2^m) λi _=>f i) i;have:((2^i:Nat):Int)=2^i:=by norm_cast
   rw[this,s,Bu,zdc a];rfl
  refine⟨#v[(0+(i:Int)),0],Zc,?_⟩;rw[Gw];simp! [e,one_mul_pow,j,k]
 unfold za1;simp! [c]
theorem zpg (n:Nat):rngW 0 n=(List.range n).map λj=>W.int (j:Nat):=by
 refine Fh λj _=>?_;rw[Gw]
theorem zo0:∀(R:List Nat) (q:Nat),(zam R).eraseIdx q=zam (R.eraseIdx q)
 |[],_=>rfl
 |_::_,0=>rfl
 |y::R,q+1=>congrArg (W.int y :: ·) (zo0 R q)
theorem lr_n {n:Nat}(h:n<=1000000):lrOk (n:Int)=Zd:=by
 unfold lrOk;rw[rngN h,Ah (by symm)];rfl
theorem z30 {as:GAs}{en e1:En}{n:Nat}(h:as en=Za (e1,[.inl (.int (n:Nat))]))(a:n<=1000000):zg1 as en=Za (e1,(.lst (rngW 0 n),Zd)):=by
 have:=zwn h rfl (lr_n a);exact this
theorem zdx (x p:Nat):(2^x).testBit p=decide (x=p):=Nat.testBit_two_pow
theorem z38 (n x:Nat):cntR n (2^x).testBit<=1:=by
 unfold cntR;rw[Ha λp _=>(zdx x p).trans (decide_eq_decide.mpr ⟨Eq.symm,Eq.symm⟩)];have:=List.nodup_iff_count.mp (List.nodup_range (n:=n)) x;rw[List.count_eq_countP,List.countP_eq_length_filter] at this;exact this
theorem z11 {m G N x:Nat}:ds m (G ^^^ 2^x) N<=ds m G N+1:=by
 have t:=zjk (2^m) (G ^^^ N) (2^x);have o:=z38 (2^m) x;unfold ds;rw[show G ^^^ 2^x ^^^ N=G ^^^ N ^^^ 2^x by rw[Ci,Gv (2^x),Ci]];symm
theorem zvs {n G x:Nat}:((tab n (bitN G)).map W.int).set x (.int (1-bitN G x))=(tab n (bitN (G ^^^ 2^x))).map W.int:=by
 unfold tab;rw[Dz,Dz];refine Dk λp=>?_;rw[List.getElem?_set];by_cases c:x=p
 ·subst c;rw[if_pos rfl,Ad,By];by_cases d:x<n
  ·rw[if_pos d,Am,Gr d];show Za (W.int (1-bitN G x))=Za (W.int (bitN (G ^^^ 2^x) x));unfold bitN;rw[Ca,zdx,Ah rfl];cases G.testBit x<;>rfl
  ·rw[if_neg d,Am,Bw (by rw[By];symm)];rfl
 ·rw[if_neg c,Am,Am];by_cases d:p<n
  ·rw[Gr d];show Za (W.int (bitN G p))=Za (W.int (bitN (G ^^^ 2^x) p));unfold bitN;rw[Ca,zdx,Az c,Bool.xor_false]
  ·rw[Bw (by rw[By];symm)];rfl
noncomputable def zc8 (Φ:Fn):Prop:=∀(k:Nat) (a:W) (m c N:Nat),HS k a->k+100<big->m<=6->c<=64->N<2^2^m->∃(s:W) (H:Nat),Φ [a,LN m N,.int (c:Nat)]=Za ([s,LN m N,.int (c:Nat)],(LN m H,Zd))/\HS (k+64) s/\H<2^2^m/\ds m H N<=c
theorem z58 {Ψ:Str->Fn}(E:zcy (Ψ "_law_take")){k m G:Nat}{st:W}{R:List Nat}{v1 v2 v5 v6:Option (W×Bool)}(r:HS k st)(u:k<big)(h0:0<R.length)(I:R.length<=64)(h:∀x∈R,x<2^m):∃a x b,zdr Ψ #v[4,18]=Za ([#v[a,5],v1,v2,#v[LN m (G ^^^ 2^x),5],#v[(zam b),2],v5,#v[(x:Nat),0]],.nx)/\HS (k+1) a/\x<2^m/\b.length+1=R.length/\∀x∈b,x<2^m:=by
 have J:(1000:Nat)<sizeLine:=by decide
 obtain⟨s,q,t,z,B,C⟩:=E k st ((R.length:Nat):Int) r u (by symm) (by symm);obtain⟨q,rfl⟩:=Fw B;have d:=Int.ofNat_lt.mp C;have j:=Ac d;have A:(zam R)[q]?=Za (.int (R[q]:Nat)):=by unfold zam;rw[Am,j];rfl
 have l:=zbo R;have e:=h _ (List.getElem_mem d);have F:zaa [Zd,Zc] (Ψ "_law_take") (gCns (gVarA 0) (gCns #v[8,15] gA0)) #v[4,18]=Za ([#v[s,5],v1,v2,#v[LN m G,5],#v[(zam R),2],v5,v6],(.int (q:Nat),Zc)):=by
  simp! [l,t]
 have p:=yaq (i:=4) rfl F rfl A (by rw[l];symm);rw[zo0] at p;generalize R[q]=x at *
 refine⟨s,x,R.eraseIdx q,?_,z,e,by rw[List.length_eraseIdx_of_lt d];symm,λy o=>h y (List.mem_of_mem_eraseIdx o)⟩;refine za5 (zh5 p rfl) ?_;have H:((tab (2^m) (bitN G)).map W.int).length=2^m:=by rw[Ad,zbj]
 have D:ixN ((tab (2^m) (bitN G)).map W.int).length (x:Int)=Za x:=by
  rw[H];unfold ixN;rw[if_pos (show (x:Int)<((2^m:Nat):Int) by symm)]
  rfl
 have si:=zmw (i:=3) (k:=gVar 6) (g:=gOp2 #v[0,0,0] #v[1] (gArg (gOp2 oIx (gVarA 3) (gVarA 6)))) (en:=[#v[s,5],v1,v2,#v[LN m G,5],#v[(zam (R.eraseIdx q)),2],v5,#v[(x:Nat),0]]) (w:=.int (1-bitN G x)) (f:=Zc) (by
  have n:seqW (LN m G)=Za ((tab (2^m) (bitN G)).map W.int):=rfl;have c:=zng (f:=bitN G) e;simp! [n,c]) rfl rfl D
 rw[zvs] at si;exact si
theorem zzc {Ψ:Str->Fn}(H:zcy (Ψ "_law_take")):zc8 (zag [Zd,Zc,Zc] 7 (zij Ψ)):=λk st m c N A S u V r=>by
 have M:=zb9 u;have t:((tab (2^m) (bitN N)).map W.int).length=2^m:=by rw[Ad,zbj]
 have j:seqW (LN m N)=Za ((tab (2^m) (bitN N)).map W.int):=rfl;have o:∃n:Nat,oMin [.int (c:Nat),.int ((2^m:Nat):Int)]=#v[(n:Nat),0]/\n<=c/\n<=2^m:=by
  show ∃n:Nat,Za (W.int (if ((2^m:Nat):Int)<(c:Nat) then ((2^m:Nat):Int) else (c:Nat)),Zc)=_/\_;by_cases h:((2^m:Nat):Int)<(c:Nat)
  ·rw[if_pos h];exact⟨_,rfl,by symm,by symm⟩
  ·rw[if_neg h];exact⟨_,rfl,by symm,by symm⟩
 obtain⟨n,o,X,U⟩:=o;have L:zg1 #v[7,10] #v[3,16]=Za (#v[3,16],(.lst (zam (List.range (2^m))),Zd)):=by
  rw[show zam (List.range (2^m))=rngW 0 (2^m) from (zpg (2^m)).symm];refine z30 ?_ (by symm);simp! [j,t]
 have l:∃st' G R v5 v6,zds Ψ #v[7,9]=Za (#v[7,15],.nx)/\HS (k+n) st'/\G<2^2^m/\ds m G N<=n:=by
  obtain⟨F,h,st',G,R,v5,v6,rfl,g,b,y,q,d⟩:=zbs (mp:=[0]) (T:=.nm 5) (λi e=>∃st' G R v5 v6,e=#v[7,15]/\HS (k+i) st'/\G<2^2^m/\R.length+i=2^m/\(∀x∈R,x<2^m)/\ds m G N<=i) (rng1_n (a:=gArg (gOpN oMin (gCns (gVarA 2) #v[7,10]))) (en:=#v[7,9]) (e1:=#v[7,9]) (n:=n) (by
   simp! [j,t,o]) (by symm)) ⟨st,N,List.range (2^m),_,_,rfl,A,r,By,λx I=>Bo.mp I,by unfold ds cntR;rw[Ej,Ek.mpr λp _=>by rw[Ef];decide];exact Ae _⟩ λi w e z J=>by
   obtain⟨st',G,R,v5,v6,rfl,g,b,y,q,d⟩:=J;obtain⟨O,rfl⟩:=zel z;obtain⟨s,x,R2,K,D,C,P,f⟩:=z58 H g (by symm) (by symm) (by symm) q;have Q:=z11 (m:=m) (G:=G) (N:=N) (x:=x);exact⟨[#v[st',5],#v[LN m N,6],#v[(c:Nat),0],#v[LN m G,5],#v[(zam R),2],#v[(0+(i:Int)),0],v6],_,rfl,.inl K,s,G ^^^ 2^x,R2,#v[(0+(i:Int)),0],#v[(x:Nat),0],rfl,D.mono (by symm),Bk b (Nat.pow_lt_pow_right (by decide) C),by symm,f,by symm⟩
  rw[zen] at g d;exact⟨_,_,_,_,_,h,g,b,d⟩
 obtain⟨st',G,R,v5,v6,l,g,b,d⟩:=l;refine⟨st',G,?_,g.mono (by symm),b,by symm⟩;have E:zye [LN m N]=#v[LN m N,5]:=rfl;refine zbv (en:=[#v[st',5],#v[LN m N,6],#v[(c:Nat),0],Zb,#v[(zam R),2],v5,v6]) rfl (za5 ?_ (za5 (zh5 L rfl) (za5 l ?_))) rfl
 ·generalize LN m N=B at *
  simp! [E]
 ·generalize LN m N=B at *
  simp! []
theorem zqv {a b:GX}{en e1:En}{r:Option (En×FlX)}(h:a en=Za (e1,.fl .nx))(c:b e1=r):gSqX a b en=r:=by
 unfold gSqX;rw[h];exact c
theorem z5l {a b:GX}{en e1:En}{c:Str}(h:a en=Za (e1,.xc c)):gSqX a b en=Za (e1,.xc c):=by
 unfold gSqX;rw[h]
theorem plx {g:GS}{en e1:En}{f:Fl}(h:g en=Za (e1,f)):gPl g en=Za (e1,.fl f):=by
 unfold gPl;rw[h];rfl
theorem ifx {c:GT}{a b:GX}{en e1:En}{d:Bool}{r:Option (En×FlX)}(h:c en=Za (e1,d))(e:(if d then a e1 else b e1)=r):gIfX c a b en=r:=by
 unfold gIfX;rw[h];cases d<;>exact e
theorem z6r {m:List Bool}{n:Nat}{g:GX}{ws ws':List W}{en:En}{c:Str}(b:ws.length=m.length)(h:g (zav m ws++List.replicate (n-m.length) Zb)=Za (en,.xc c))(a:outsW m ws en=Za ws'):zcv m n g ws=Za (.inr (c,ws')):=by
 unfold zcv;rw[if_pos b,h];show (outsW m ws en).bind _=_;rw[a];rfl
theorem z4m {m:List Bool}{n:Nat}{g:GX}{ws ws':List W}{en:En}{r:W×Bool}(b:ws.length=m.length)(h:g (zav m ws++List.replicate (n-m.length) Zb)=Za (en,.fl (.ret r)))(a:outsW m ws en=Za ws'):zcv m n g ws=Za (.inl (ws',r)):=by
 unfold zcv;rw[if_pos b,h];show (outsW m ws en).bind _=_;rw[a];rfl
noncomputable def z90 (k:W) (N:Nat) (o:Option Nat):Option (List W×(W×Bool) ⊕ Str×List W):=match o with
 |some w=>Za (.inl ([k,.int (N:Nat)],(.int (w:Nat),Zc)))
 |none=>Za (.inr ("TooFar",[k,.int (N:Nat)]))
theorem z9p {Ψ:Str->Fn}{m r N:Nat}{o:Option Nat} (h:Ψ "by_halves" [kdW m r,.int (N:Nat)]=Za ([kdW m r,.int (N:Nat)],(oW o,Zc))) (b:((N:Nat):Int).natAbs.log2<1920):FX Ψ [kdW m r,.int (N:Nat)]=z90 (kdW m r) N o:=by
 generalize kdW m r=k at *
 have s:gPl (gSet [] 2 (zaa [Zc,Zc] (Ψ "by_halves") (gCns (gArg (gVar 0)) (gCns (gArg (gVar 1)) gA0)))) [Za (k,Zc),Za (.int (N:Nat),Zc),Zb]=Za ([Za (k,Zc),Za (.int (N:Nat),Zc),Za (oW o,Zc)],.fl .nx):=plx (by
  simp! [h])
 cases o with
 | none =>
  refine z6r (en:=[#v[k,6],#v[(N:Nat),0],Za (.non,Zc)]) rfl (zqv s (z5l (ifx rfl ?_))) rfl;refine (if_pos rfl).trans ((if_pos ?_).trans rfl);have a:=Ah b;show (decide (_<=sizeLine)&&(decide _&&(decide (_<=sizeLine)&&decide (_<=sizeLine))))=Zd;rw[a]
  decide
 |some w=>exact z4m rfl (zqv s (zqv (ifx rfl ((if_neg (by decide)).trans (plx rfl))) (plx rfl))) rfl
noncomputable def tdW:Option Nat->W
 |some w=>.int (w:Nat)
 |none=>.str "TooFar"
theorem z8m {Ψ:Str->Fn}{m r N:Nat}{o:Option Nat} (b:Ψ "by_halves" [kdW m r,.int (N:Nat)]=Za ([kdW m r,.int (N:Nat)],(oW o,Zc))) (g:((N:Nat):Int).natAbs.log2<1920) (h:Ψ "_law_word" [LN m N]=Za ([LN m N],(.int (N:Nat),Zc))):FT Ψ [kdW m r,LN m N]=Za ([kdW m r,LN m N],(tdW o,Zc)):=by
 have f:=z9p b g;generalize kdW m r=k at *
 generalize LN m N=L at *
 refine zbv (en:=match o with
  |some w=>[#v[k,6],#v[L,6],#v[(w:Nat),0],Za (.non,Zc),Zb]
  |none=>[#v[k,6],#v[L,6],Za (.non,Zc),Zb,Zb]) rfl ?_ (by cases o<;>rfl)
 show (match zaa [Zc,Zc] (FX Ψ).back (za8 Ψ) #v[5,7] with
  |some p=>if p.2.2 then Zb else Za (p.1.set 2 (#v[p.2.1,6]),Fl.ret (p.2.1,Zc))
  | none=>(CS.find? λc=>#v[0,18].isSome).bind λc =>
   (zaa [Zc,Zc] ((FX Ψ).exc c) (za8 Ψ) [#v[k,6],#v[L,6],Za (.non,Zc),Za (.non,Zc),Zb]).bind λp=>Za ((p.1.set 4 Zb).set 3 Zb,Fl.ret (.str c,Zc)))=_
 cases o with
 | some w =>
  have e:(FX Ψ).back [k,.int (N:Nat)]=Za ([k,.int (N:Nat)],(.int (w:Nat),Zc)):=by unfold FnX.back;rw[f];rfl
  have c:zaa [Zc,Zc] (FX Ψ).back (za8 Ψ) #v[5,7]=Za (#v[5,7],(.int (w:Nat),Zc)):=by
   unfold za8;simp! [h,e]
  rw[c];rfl
 | none =>
  have e:(FX Ψ).back [k,.int (N:Nat)]=Zb:=by unfold FnX.back;rw[f];rfl
  have d:(FX Ψ).exc "TooFar" [k,.int (N:Nat)]=Za ([k,.int (N:Nat)],(.non,Zc)):=by unfold FnX.exc;rw[f];exact if_pos rfl
  have c:zaa [Zc,Zc] (FX Ψ).back (za8 Ψ) #v[5,7]=Zb:=by
   unfold za8;simp! [h,e]
  have a:zaa [Zc,Zc] ((FX Ψ).exc "TooFar") (za8 Ψ) #v[5,7]=Za (#v[5,7],(.non,Zc)):=by
   unfold za8;simp! [h,d]
  rw [c];have f:(CS.find? λc=>#v[0,18].isSome)=Za "TooFar" := by
   show (match #v[7,11].isSome with|true=>Za ("TooFar" : Str)|false=>_)=_;rw[a];rfl
  rw[f];show #v[7,11].bind _=_;rw[a];rfl
noncomputable def zoz (Φ:Fn):Prop:=∀m r N:Nat,1<=m->m<=6->r<=m->N<2^2^m->∃o,Tol m r N o/\Φ [kdW m r,LN m N]=Za ([kdW m r,LN m N],(tdW o,Zc))
theorem zr4 {Φ:Fn}(a:zjt Φ){m N:Nat}(h:N<2^2^m):Φ [LN m N]=Za ([LN m N],(.int (N:Nat),Zc)):=by
 have:=a (tab (2^m) (bitN N));rw[zbp _ _ h] at this;exact this
theorem z10 {m N:Nat}(a:m<=6)(h:N<2^2^m):((N:Nat):Int).natAbs.log2<1920:=by
 refine zzv (k:=64) ?_ (by decide);exact At h (Cm (by decide) (zb9 a))
theorem z17 {Ψ:Str->Fn}(c:∀m r,1<=m->m<=6->r<=m->ByR m r (Ψ "by_halves"))(g:zjt (Ψ "_law_word")):zoz (FT Ψ):=λm r N d b f a=>by
 obtain⟨t,h⟩:=c m r d b f;obtain⟨T,e⟩:=h N a;exact⟨_,T,z8m e (z10 b a) (zr4 g a)⟩
noncomputable def zfl (Φ:Fn):Prop:=∀m r N H:Nat,1<=m->m<=6->r<=m->H<2^2^m->Cd m r N->2*ds m H N<2^(m-r)->Φ [kdW m r,LN m H,LN m N]=Za ([kdW m r,LN m H,LN m N],#v[8,10])
theorem z5c {Ψ:Str->Fn}(i:zoz (Ψ "_law_told"))(j:zjt (Ψ "_law_word")):zfl (zag [Zc,Zc,Zc] 8 (zba Ψ)):=λm r N H a b f h A c=>by
 obtain⟨o,T,e⟩:=i m r H a b f h;have:=T.all N A (by unfold ds at *;rw[Gv];exact c);subst this;have e:Ψ "_law_told" [.tup #v[4,8],LN m H]=Za ([.tup #v[4,8],LN m H],(.int (N:Nat),Zc)):=e;have g:=zr4 j A.lt;have k:oIsi .int (.int (N:Nat))=Za #v[8,10]:=rfl;have l:oIsi .bool (.int (N:Nat))=Za #v[9,7]:=rfl;have d:decide ((N:Int)=(N:Int))=Zd:=Ah rfl;have n:zh8 (LN m N) .non=Za #v[8,10]:=rfl;unfold zba kdW;simp! [e,g,n]
noncomputable def zfo (Φ:Fn):Prop:=∀m r H:Nat,1<=m->m<=6->r<=m->H<2^2^m->Φ [kdW m r,LN m H,.non]=Za ([kdW m r,LN m H,.non],#v[8,10])
theorem zyt {Ψ:Str->Fn}{m w H:Nat}{v0 v2 v4 v5 v7:Option (W×Bool)}(g:m<=6):zea Ψ #v[4,17]=Za (#v[4,17],(.lst (((List.range (2^m)).filter (w ^^^ H).testBit).map λp=>W.int (p:Nat)),Zd)):=by
 have z:=zb9 g;have x:=pow1 (l:=m) (by symm);refine zc6 (λc=>∃u d,c=[u,d,#v[LN m H,6],#v[LN m w,5]]) (λp=>W.int (p:Nat)) (λp=>W.int (p:Nat)) (w ^^^ H).testBit ?_ (by rw[By];symm) rfl ⟨_,_,rfl⟩ (λc ⟨_,_,e⟩=>by rw[e];rfl) λc p o h=>?_
 ·have q:=rng1_n (a:=gArg (gOp2 (oI cPow λi j=>.int (i*2^j.toNat)) #v[1] (gVarA 3))) (en:=#v[6,14]) (e1:=#v[6,14]) (n:=2^m) (by simp! [x,one_mul_pow]) (by symm);rw[q,zpg];try rfl
 ·obtain ⟨u,d,rfl⟩:=o;have h:=Bo.mp h;have t:seqW (LN m H)=Za ((tab (2^m) (bitN H)).map W.int):=rfl;have s:seqW (LN m w)=Za ((tab (2^m) (bitN w)).map W.int):=rfl;have r:=zng (f:=bitN H) h;have k:=zng (f:=bitN w) h;have y:(!decide (bitN w p=bitN H p))=(w ^^^ H).testBit p:=by
   unfold bitN;rw[Ca];cases w.testBit p<;>cases H.testBit p<;>rfl
  generalize LN m H=b at *
  generalize LN m w=B at *
  refine⟨[u,#v[(p:Nat),0],#v[b,6],#v[B,5]],[u,#v[(p:Nat),0],#v[b,6],#v[B,5]],rfl,?_,⟨_,_,rfl⟩,λ_=>⟨[u,#v[(p:Nat),0],#v[b,6],#v[B,5]],Zc,rfl,_,_,rfl⟩⟩;rw[<-y];simp! [t,s,r,k]
theorem zw2 {Ψ:Str->Fn}(f:zgp (Ψ "_law_poly_terms")){m w:Nat}{o:Bool}{v0 v1 v2 v4 v5 v7:Option (W×Bool)}(h:m<=6):zcg Ψ #v[2,18]=Za (#v[9,18],(.lst ((zq7 (duT m λi=>(tab (2^m) (bitN w)).getD i 0)).map W.int),Zd)):=by
 have a:=f m (tab (2^m) (bitN w)) h (zcm λi _=>zco w i) (zbj _ _);have g:(duT m λi=>(tab (2^m) (bitN w)).getD i 0).length<=64:=zz5 h;generalize duT m (λi=>(tab (2^m) (bitN w)).getD i 0)=D at *
 have a:Ψ "_law_poly_terms" [.int (m:Nat),LN m w]=Za ([.int (m:Nat),LN m w],(.tup (D.map tmW),Zc)):=a;unfold zcg;have q:=zc6 (cap:=[Zb,Zb]) (T:=.nm 1) (it:=zau #v[1,15]) (tc:=gYes) (te:=gOpN oLen #v[7,14]) (en:=#v[2,18]) (λc=>∃u b,c=[u,b]) (e0:=#v[9,18]) (ts:=D) tmW (λt=>W.int (t.length:Nat)) (λ_=>Zd) ?_ (by symm) rfl ⟨_,_,rfl⟩ (λc ⟨_,_,e⟩=>by rw[e];rfl) λc t d j=>?_
 ·rw[q,List.filter_eq_self.mpr λ_ _=>rfl];unfold zq7;rw[Dz];rfl
 ·generalize LN m w=B at *
  cases o<;>simp! [a]
 ·obtain⟨u,b,rfl⟩:=d;refine⟨[u,#v[tmW t,6]],[u,#v[tmW t,6]],rfl,rfl,⟨_,_,rfl⟩,λ_=>⟨[u,#v[tmW t,6]],Zc,?_,_,_,rfl⟩⟩;have s:seqW (tmW t)=Za (t.map λl:Nat=>W.int (l:Nat)):=rfl;simp! [s,Ad]
theorem z4n {Ψ:Str->Fn} (S:zoz (Ψ "_law_told")) (J:zok (Ψ "_law_spread_out")) (U:zgp (Ψ "_law_poly_terms")):zfo (zag [Zc,Zc,Zc] 8 (zba Ψ)):=λm r H C h Y O=>by
 obtain⟨o,T,e⟩:=S m r H C h Y O;have u:zh8 .non .non=Za #v[9,7]:=rfl;cases o with
 | none =>
  have q:oEq (.str "TooFar") (.str "TooFar")=Za #v[8,10]:=rfl;have e:Ψ "_law_told" [.tup #v[4,8],LN m H]=Za ([.tup #v[4,8],LN m H],(.str "TooFar",Zc)):=e;unfold zba kdW;simp! [e,u]
 | some w =>
  have A:=T.cd w rfl;have nr:=T.nr w rfl;have p6:=zb9 h;have e:Ψ "_law_told" [.tup #v[4,8],LN m H]=Za ([.tup #v[4,8],LN m H],(.int (w:Nat),Zc)):=e;have q:oEq (.int (w:Nat)) (.str "TooFar")=Za #v[9,7]:=rfl;have ii:oIsi .int (.int (w:Nat))=Za #v[8,10]:=rfl;have ib:oIsi .bool (.int (w:Nat))=Za #v[9,7]:=rfl;have V:=pow1 (l:=m) (by symm);have I:=pow1 (l:=2^m) (by symm);have M:=pow1 (l:=m-r) (by symm);have y:decide ((0:Int)<=(w:Int))=Zd:=Ah (by symm);have E:=Ah (Int.ofNat_lt.mpr A.lt);have s:=J m (bitN w) h (zco w);rw[zbp _ _ A.lt] at s;have s:Ψ "_law_spread_out" [.int (m:Nat),.int (w:Nat)]=Za ([.int (m:Nat),.int (w:Nat)],(LN m w,Zd)):=s;have z:=λd c a b=>zyt (Ψ:=Ψ) (w:=w) (H:=H) (v0:=#v[#v[4,8],3]) (v2:=d) (v4:=c) (v5:=a) (v7:=b) h;have D:=λx d c a b=>zw2 U (w:=w) (o:=Zd) (v0:=#v[#v[4,8],3]) (v1:=x) (v2:=d) (v4:=c) (v5:=a) (v7:=b) h;have j:(((List.range (2^m)).filter (w ^^^ H).testBit).map λp=>W.int (p:Nat)).length=ds m w H:=Ad ..;have Z:(m:Int)-(r:Int)=((m-r:Nat):Int):=by symm
  have K:decide ((2:Int)*((ds m w H:Nat):Int)<((2^(m-r):Nat):Int))=Zd:=Ah (by clear j;symm);have B:∀t∈duT m (λi=>(tab (2^m) (bitN w)).getD i 0),t.length<=r:=zwm h (zg3 (λp X=>by rw [Bu,zdc X];rfl) A.dg);have g:∃k:Int,oMax [.lst (W.int 0::(zq7 (duT m λi=>(tab (2^m) (bitN w)).getD i 0)).map W.int)]=Za (.int k,Zc)/\k<=(r:Int):=by
   refine⟨_,yat 0 _,(zz6 _ _).mpr ⟨by symm,λn N=>?_⟩⟩;obtain⟨t,G,rfl⟩:=Do.mp N;have:=B t G;symm
  obtain⟨k,g,F⟩:=g;have P:=Ah F;have Q:(1+(zq7 (duT m λi=>(tab (2^m) (bitN w)).getD i 0)).length<=16777216)=True:=eq_true (by have:=zz5 (f:=λi=>(tab (2^m) (bitN w)).getD i 0) h;unfold zq7;rw[Ad];symm);generalize LN m w=L at *
  generalize LN m H=L2 at *
  refine zbv (en:=[#v[kdW m r,6],#v[L2,6],Za (.non,Zc),#v[(m:Nat),0],#v[(r:Nat),0],#v[(w:Nat),0],#v[L,6],#v[(ds m w H:Nat),0]]) rfl (za5 (e1:=[#v[kdW m r,6],#v[L2,6],Za (.non,Zc),#v[(m:Nat),0],#v[(r:Nat),0],Zb,Zb,Zb]) ?_ (za5 (e1:=#v[2,8]) ?_ (za5 (e1:=#v[2,8]) ?_ (za5 (e1:=#v[2,8]) ?_ (za5 (e1:=#v[2,8]) ?_ (za5 (e1:=[#v[kdW m r,6],#v[L2,6],Za (.non,Zc),#v[(m:Nat),0],#v[(r:Nat),0],#v[(w:Nat),0],#v[L,5],Zb]) ?_ (za5 (e1:=[#v[kdW m r,6],#v[L2,6],Za (.non,Zc),#v[(m:Nat),0],#v[(r:Nat),0],#v[(w:Nat),0],#v[L,5],#v[(ds m w H:Nat),0]]) ?_ ?_))))))) rfl<;>unfold kdW
  ·simp! []
  ·simp! [e]
  ·simp! [u]
  ·simp! [q]
  ·simp! [V,one_mul_pow,I,y,E]
  ·simp! [s]
  ·simp! [z,j]
  ·have R:oMult (.int 2) (.int (ds m w H:Nat))=Za (.int (2*(ds m w H:Nat)),Zc):=rfl
   simp! [R,Z,M,one_mul_pow,K,D,Ad,Q,g,P]
theorem z89 {Ψ:Str->Fn} (j:zfl (Ψ "_law_right")) (g:zc8 (Ψ "_law_faulty")) {k m r N c:Nat}{st:W}{v0 v2 v4 v5 v6 v7 v10 v11:Option (W×Bool)}{o:Bool} (b:HS k st) (d:k+100<big) (a:1<=m) (h:m<=6) (n:r<=m) (A:Cd m r N) (t:2*c<2^(m-r)) :
  ∃s,ztr Ψ [v0,#v[st,5],v2,#v[kdW m r,6],v4,v5,v6,v7,Za (LN m N,o),#v[(c:Nat),0],v10,v11]=Za ([v0,#v[s,5],v2,#v[kdW m r,6],v4,v5,v6,v7,#v[LN m N,6],#v[(c:Nat),0],v10,v11],.nx)/\HS (k+64) s:=by
 have p:2^(m-r)<=64:=zb9 (by symm);obtain⟨s,H,f,l,i,q⟩:=g k st m c N b d h (by symm) A.lt;have e:=j m r N H a h n i A (by symm);refine⟨s,?_,l⟩;unfold ztr;cases o<;>simp! [f,e]
theorem z6f {Ψ:Str->Fn} (d:zfo (Ψ "_law_right")) {m r H:Nat}{v0 v1 v2 v4 v5 v6 v7 v8 v9 v10:Option (W×Bool)} (a:1<=m) (b:m<=6) (c:r<=m) (h:H<2^2^m) :
  zsr Ψ #v[0,17]=Za (#v[0,17],.nx):=by
 have e:=d m r H a b c h;unfold zsr;simp! [e]
theorem z69 {Ψ:Str->Fn} (H:zcy (Ψ "_law_take")) (G:zfl (Ψ "_law_right")) (C:zc8 (Ψ "_law_faulty")) {k m r N:Nat}{st:W}{v0 v2 v4 v5 v7 v9 v10 v11:Option (W×Bool)} (j:HS k st) (p:k+400<big) (t:1<=m) (u:m<=6) (M:r<=m) (A:Cd m r N) :
  ∃s a,z0m Ψ [v0,#v[st,5],v2,#v[kdW m r,6],v4,v5,#v[((2^(m-r):Nat):Int),0],v7,#v[LN m N,5],v9,v10,v11]=Za ([v0,#v[s,5],v2,#v[kdW m r,6],v4,v5,#v[((2^(m-r):Nat):Int),0],v7,#v[LN m N,6],a,v10,v11],.nx)/\HS (k+200) s:=by
 have Q:2^(m-r)<=64:=zb9 (by symm);have U:0<2^(m-r):=Fv (by decide);have P:=λk st c o (j:HS k st) (p:k+100<big) (l:2*c<2^(m-r))=>z89 (v0:=v0) (v2:=v2) (v4:=v4) (v5:=v5) (v6:=#v[((2^(m-r):Nat):Int),0]) (v7:=v7) (v10:=v10) (v11:=v11) (o:=o) G C j p t u M A l;generalize 2^(m-r)=z at *
 have B:((z:Int)-1)/2=(((z-1)/2:Nat):Int):=by symm
 have F:∀i,cDiv i 2=Zd:=λ_=>zso (by decide) (by decide);obtain⟨f,d,x,I,D,S⟩:=H k st ((((z-1)/2:Nat):Int)+1) j (by symm) (by symm) (by symm);obtain⟨d,rfl⟩:=Fw D;generalize kdW m r=K at *
 have q:zau (zcb #v[5,8]) [v0,#v[st,5],v2,#v[K,6],v4,v5,#v[(z:Int),0],v7,#v[LN m N,5],v9,v10,v11]=Za ([v0,#v[f,5],v2,#v[K,6],v4,v5,#v[(z:Int),0],v7,#v[LN m N,5],v9,v10,v11],[W.int (((z-1)/2:Nat):Int),.int (d:Nat),.int ((0:Nat):Int)]):=by
  simp! [F,B,x]
 obtain⟨E,h,s,a,rfl,g⟩:=zbs (mp:=[]) (T:=.nm 9) (λi e=>∃s a,e=[v0,#v[s,5],v2,#v[K,6],v4,v5,#v[(z:Int),0],v7,Za (LN m N,decide (i=0)),a,v10,v11]/\HS (k+1+64*i) s) q ⟨f,v9,rfl,I⟩ λi w e b J=>by
  obtain⟨s,a,rfl,g⟩:=J;have R:i<3:=(Ag.mp b).1;have O:∃c:Nat,w=.int (c:Nat)/\2*c<z:=by
   have:=Bp b;simp only [Ak,Cc,Fm] at this;rcases this with rfl|rfl|rfl
   ·exact⟨_,rfl,by symm⟩
   ·exact⟨_,rfl,by symm⟩
   ·exact⟨_,rfl,by symm⟩
  obtain⟨c,rfl,l⟩:=O;obtain⟨n,L,y⟩:=P _ s c (decide (i=0)) g (by symm) l;exact⟨_,_,rfl,.inl L,n,_,rfl,y.mono (by symm)⟩
 exact⟨s,a,h,g.mono (by show k+1+64*3<=k+200;symm)⟩
theorem z5t {Ψ:Str->Fn} (z:zem (Ψ "_law_bits")) (C:zfo (Ψ "_law_right")) {k m r H1 H2:Nat}{st:W}{v0 v2 v5 v6 v7 v8 v9 v11:Option (W×Bool)} (y:HS k st) (K:k+200<big) (o:1<=m) (d:m<=6) (G:r<=m) (u:H1<2^2^m) (n:H2<2^2^m) :
  ∃b a,zzz Ψ #v[7,13]=Za ([v0,#v[b,5],v2,#v[kdW m r,6],#v[(m:Nat),0],v5,v6,v7,v8,v9,#v[[LN m H1,LN m H2],2],a],.nx)/\HS (k+66) b:=by
 have J:=zb9 d;have p:=pow1 (l:=m) (by symm);obtain⟨s,D,f,E,L,x⟩:=z k st ((2^m:Nat):Int) y (by symm) (El _) (by symm);obtain⟨t,j,q,_⟩:=zz2 x (show D.length=2^m by symm);rw[q] at f;have g:zau #v[3,10] #v[7,13]=Za ([v0,#v[s,5],v2,#v[kdW m r,6],#v[(m:Nat),0],v5,v6,v7,v8,v9,#v[[LN m H1,LN m H2],2],v11],[LN m H1,LN m H2,LN m t]):=by
  simp! [p,one_mul_pow,f]
 obtain⟨B,h,a,rfl⟩:=zbs (mp:=[]) (T:=.nm 11) (λi e=>∃a,e=[v0,#v[s,5],v2,#v[kdW m r,6],#v[(m:Nat),0],v5,v6,v7,v8,v9,#v[[LN m H1,LN m H2],2],a]) g ⟨v11,rfl⟩ λi w e c F=>by
  obtain⟨a,rfl⟩:=F;have I:∃H,w=LN m H/\H<2^2^m:=by
   have:=Bp c;simp only [Ak,Cc,Fm] at this;rcases this with rfl|rfl|rfl
   ·exact⟨_,rfl,u⟩
   ·exact⟨_,rfl,n⟩
   ·exact⟨_,rfl,j⟩
  obtain⟨H,rfl,A⟩:=I;exact⟨_,_,rfl,.inl (z6f C o d G A),_,rfl⟩
 exact⟨s,a,h,E⟩
theorem zzu {m r:Nat}{P:List (List Nat)}(b:m<=6)(c:r<=m)(h:P.Sublist (zaf m r)):∃N,Cd m r N/\W.lst ((tab (2^m) (valF P)).map W.int)=LN m N:=by
 obtain⟨N,l,e,t⟩:=zz2 (zcm λi _=>z2j P i) (zbj _ _);refine⟨N,⟨l,zg3 (λp a=>?_) (z1e b c h)⟩,e⟩;have:=congrArg (λx=>x[p]?) t;simp only [zdc a] at this;exact sI this
theorem z4k:∀m r:Fin 7,([[]]:List (List Nat)).isSublist (zaf m.val r.val)=Zd:=by decide +kernel
theorem z87 {Ψ:Str->Fn} (X:zfe (Ψ "_law_values")) (hT:zcy (Ψ "_law_take")) (V:zem (Ψ "_law_bits")) (O:zfl (Ψ "_law_right")) (Z:zfo (Ψ "_law_right")) (f:zc8 (Ψ "_law_faulty")) {k m r:Nat}{P:List (List Nat)}{x st:W}{v0 v2 v5 v8 v9 v10 v11:Option (W×Bool)} (I:HS k st) (hk:k+800<big) (q:1<=m) (h:m<=6) (n:r<=m) (hx:x=.tup (P.map tmW)\/x=.lst (P.map tmW)) (c:P.Sublist (zaf m r)) :
  ∃s d g a b,zsv Ψ [v0,#v[st,5],v2,#v[kdW m r,6],#v[(m:Nat),0],v5,#v[((2^(m-r):Nat):Int),0],#v[x,6],v8,v9,v10,v11]=Za ([v0,#v[s,5],v2,#v[kdW m r,6],#v[(m:Nat),0],v5,#v[((2^(m-r):Nat):Int),0],#v[x,6],d,g,a,b],.nx)/\HS (k+400) s:=by
 obtain⟨N,A,R⟩:=zzu h n c;obtain⟨tl,u⟩:=zeq (most:=r) h (by symm);have y:=X m P x hx h (by have:=c.length_le;symm) (λt e l hl=>by have:=(u t (c.mem e)).2 l hl;symm) (λt e=>by have:=(u t (c.mem e)).1;symm);rw[R] at y;obtain⟨p,T,G,g1⟩:=z69 (v0:=v0) (v2:=v2) (v4:=#v[(m:Nat),0]) (v5:=v5) (v7:=#v[x,6]) (v9:=v9) (v10:=v10) (v11:=v11) hT O f I (by symm) q h n A;have z:2^(m-r)<=64:=zb9 (by symm);obtain⟨j,H,J,M,Q,_⟩:=f (k+200) p m (2^(m-r)/2) N g1 (by symm) h (by symm) A.lt;obtain⟨F,C,E,S,q2,_⟩:=f (k+264) j m (2^(m-r)) N M (by symm) h z A.lt;obtain⟨o,w,B,D⟩:=z5t (v11:=v11) V Z S (by symm) q h n Q q2;have U:((2^(m-r):Nat):Int)/2=((2^(m-r)/2:Nat):Int):=by symm
 have Y:∀i,cDiv i 2=Zd:=λ_=>zso (by decide) (by decide);refine⟨o,#v[LN m N,6],T,#v[[LN m H,LN m C],2],w,?_,D.mono (by symm)⟩;refine za5 ?_ (za5 G (za5 ?_ B))
 ·generalize kdW m r=K at *
  generalize LN m N=L at *
  simp! [y]
 ·generalize kdW m r=K at *
  generalize LN m N=L at *
  simp! [U,Y,J,E]
noncomputable def zoc (Φ:Fn):Prop:=∀(k:Nat) (a:W),HS k a->k+10<big->∃s m t,Φ [a]=Za ([s],(kdW m t,Zc))/\HS (k+2) s/\1<=m/\m<=6/\t<=m
theorem z2f {Ψ:Str->Fn}(c:zcy (Ψ "_law_take")):zoc (zag [Zd] 2 (zcr Ψ)):=λk f g u=>by
 obtain⟨a,x,d,l,q,w⟩:=c k f 6 g (by symm) (by decide) (by decide);obtain⟨r,rfl⟩:=Fw q;have e:(1:Int)+(r:Int)=((1+r:Nat):Int):=by symm
 have b:1+r<=6:=by symm
 have h:1<=1+r:=by symm
 generalize 1+r=m at e b h;obtain⟨s,o,i,j,p,n⟩:=c (k+1) a ((m:Int)+1) l (by symm) (by symm) (by symm);obtain⟨t,rfl⟩:=Fw p;refine⟨s,m,t,?_,j,h,b,by symm⟩;unfold zcr kdW;refine zbv (en:=[#v[s,5],#v[(m:Nat),0]]) rfl (za5 (e1:=[#v[a,5],#v[(m:Nat),0]]) ?_ ?_) rfl
 ·simp! [d,e]
 ·simp! [i]
theorem z6p {Ψ:Str->Fn} (n:zda (Ψ "_law_terms")) (b:zlr (Ψ "_law_poly")) (B:zfe (Ψ "_law_values")) (E:zcy (Ψ "_law_take")) (y:zem (Ψ "_law_bits")) (u:zfl (Ψ "_law_right")) (D:zfo (Ψ "_law_right")) (x:zc8 (Ψ "_law_faulty")) {k m r:Nat}{st:W}{v0 v2 v7 v8 v9 v10 v11:Option (W×Bool)} (l:HS k st) (R:k+3000<big) (j:1<=m) (c:m<=6) (L:r<=m) :
  ∃st' w7 w8 w9 w10 w11,z0c Ψ [v0,#v[st,5],v2,#v[kdW m r,6],#v[(m:Nat),0],#v[(r:Nat),0],#v[((2 ^ (m - r):Nat):Int),0],v7,v8,v9,v10,v11]=Za ([v0,#v[st',5],v2,#v[kdW m r,6],#v[(m:Nat),0],#v[(r:Nat),0],#v[((2 ^ (m - r):Nat):Int),0],w7,w8,w9,w10,w11],.nx)/\HS (k+1300) st':=by
 obtain⟨s,P,t,G,F⟩:=b k st m r l (by symm) c (by symm);have o:=n m r c (by symm);have f:zau (zcb #v[6,8]) [v0,#v[st,5],v2,#v[kdW m r,6],#v[(m:Nat),0],#v[(r:Nat),0],#v[((2 ^ (m - r):Nat):Int),0],v7,v8,v9,v10,v11]=Za ([v0,#v[s,5],v2,#v[kdW m r,6],#v[(m:Nat),0],#v[(r:Nat),0],#v[((2^(m-r):Nat):Int),0],v7,v8,v9,v10,v11],[W.tup (P.map tmW),.lst (([[]]:List (List Nat)).map tmW),.lst ((zaf m r).map tmW)]):=by
  generalize zaf m r=C at *
  show _=Za (_,[W.tup (P.map tmW),.lst [.tup []],.lst (C.map tmW)]);simp! [t,o]
 obtain⟨A,h,st',w7,w8,w9,w10,w11,rfl,g⟩:=zbs (mp:=[]) (T:=.nm 7) (body:=zsv Ψ) (λi e=>∃st' w7 w8 w9 w10 w11,e=[v0,#v[st',5],v2,#v[kdW m r,6],#v[(m:Nat),0],#v[(r:Nat),0],#v[((2 ^ (m - r):Nat):Int),0],w7,w8,w9,w10,w11]/\HS (k+66+400*i) st') f ⟨s,_,_,_,_,_,rfl,G⟩ λi w e a I=>by
  obtain⟨st',w7,w8,w9,w10,w11,rfl,g⟩:=I;have O:i<3:=(Ag.mp a).1;have M:∃Q:List (List Nat),(w=.tup (Q.map tmW)\/w=.lst (Q.map tmW))/\Q.Sublist (zaf m r):=by
   have:=Bp a;simp only [Ak,Cc,Fm] at this;rcases this with rfl|rfl|rfl
   ·exact⟨P,.inl rfl,F⟩
   ·exact⟨[[]],.inr rfl,List.isSublist_iff_sublist.mp (z4k ⟨m,by symm⟩ ⟨r,by symm⟩)⟩
   ·exact⟨_,.inr rfl,.refl _⟩
  obtain⟨Q,H,p⟩:=M;obtain⟨d,N,S,J,z,K,q⟩:=z87 (Ψ:=Ψ) (v9:=w9) B E y u D x g (by symm) j c L H p;exact⟨_,_,rfl,.inl K,d,_,_,_,_,_,rfl,q.mono (by symm)⟩
 exact⟨st',w7,w8,w9,w10,w11,h,g.mono (by show k+66+400*3<=k+1300;symm)⟩
theorem z7a {Ψ:Str->Fn} (x:zoc (Ψ "_law_kind")) (u:zda (Ψ "_law_terms")) (h:zlr (Ψ "_law_poly")) (C:zfe (Ψ "_law_values")) (F:zcy (Ψ "_law_take")) (B:zem (Ψ "_law_bits")) (z:zfl (Ψ "_law_right")) (E:zfo (Ψ "_law_right")) (A:zc8 (Ψ "_law_faulty")) {k:Nat}{st:W}{v0 v2 v3 v4 v5 v6 v7 v8 v9 v10 v11:Option (W×Bool)} (t:HS k st) (K:k+4000<big) :
  ∃s q G o D c d f w a,zsw Ψ [v0,#v[st,5],v2,v3,v4,v5,v6,v7,v8,v9,v10,v11]=Za ([v0,#v[s,5],v2,q,G,o,D,c,d,f,w,a],.nx)/\HS (k+1302) s:=by
 obtain⟨b,m,r,e,H,j,n,I⟩:=x k st t (by symm);obtain⟨g,c,d,f,w,a,i,y⟩:=z6p (v7:=v7) (v8:=v8) (v9:=v9) (v10:=v10) (v11:=v11) u h C F B z E A H (by symm) j n I;have J:(m:Int)-(r:Int)=((m-r:Nat):Int):=by symm
 have p:=pow1 (l:=m-r) (by symm);refine⟨g,#v[kdW m r,6],#v[(m:Nat),0],#v[(r:Nat),0],#v[((2^(m-r):Nat):Int),0],c,d,f,w,a,?_,y.mono (by symm)⟩;unfold zsw;refine za5 (e1:=[v0,#v[b,5],v2,#v[kdW m r,6],v4,v5,v6,v7,v8,v9,v10,v11]) ?_ (za5 (e1:=[v0,#v[b,5],v2,#v[kdW m r,6],#v[(m:Nat),0],#v[(r:Nat),0],v6,v7,v8,v9,v10,v11]) ?_ (za5 ?_ i))
 ·simp! [e]
 ·unfold kdW;simp! []
 ·unfold kdW;simp! [J,p,one_mul_pow]
theorem z70 {Ψ:Str->Fn} (B:zoc (Ψ "_law_kind")) (A:zda (Ψ "_law_terms")) (q:zlr (Ψ "_law_poly")) (G:zfe (Ψ "_law_values")) (I:zcy (Ψ "_law_take")) (F:zem (Ψ "_law_bits")) (D:zfl (Ψ "_law_right")) (J:zfo (Ψ "_law_right")) (E:zc8 (Ψ "_law_faulty")) {st:W}{ns:List Int} (z:HS 0 st) :
  ∃en',z0w Ψ #v[6,10]=Za (Za #v[8,7]::en',.nx):=by
 have Q:(200000:Nat)<big:=by decide
 obtain⟨n,j,u,N,X⟩:=ybh (b:=8) (by decide);have u:oMin [.int 8,.int (ns.length:Nat)]=#v[(n:Nat),0]:=u;have y:seqW (.frl (ns.map W.int))=Za (ns.map W.int):=rfl;obtain⟨en',h,s,r,t,p,l,o,f,k,m,c,d,rfl,_⟩:=zbs (mp:=[]) (T:=.nm 2) (λi e=>∃s r t p l o f k m c d,e=[Za #v[8,7],#v[s,5],r,t,p,l,o,f,k,m,c,d]/\HS (1302*i) s) (rng1_n (a:=#v[0,13]) (en:=#v[6,10]) (e1:=#v[6,10]) (n:=j) (by simp! [y,Ad,u,N]) (by symm)) ⟨_,_,_,_,_,_,_,_,_,_,_,rfl,z⟩ λi w e x K=>by
  obtain⟨s,r,t,p,l,o,f,k,m,c,d,rfl,g⟩:=K;obtain⟨S,rfl⟩:=zel x;obtain⟨L,V,P,U,R,Y,x8,Z,H,M,O,C⟩:=z7a (Ψ:=Ψ) (v4:=p) (v5:=l) (v6:=o) (v7:=f) (v8:=k) (v9:=m) B A q G I F D J E g (by symm);exact⟨_,_,rfl,.inl O,_,_,_,_,_,_,_,_,_,_,_,rfl,C.mono (by symm)⟩
 exact⟨_,h⟩
theorem z0z (d:Nat):∀m r,1<=m->m<=6->r<=m->ByR m r (sm (d+m+12) "by_halves")
 |0,_,h,_,_=>absurd h (by decide)
 | m+1,r,_,c,g=>by
  have e:∀d,AllN (sm (d+3) "all_yes"):=λd=>by rw[zuh];exact z4g (zpz (sm 0))
  have b:∀d,XorN (sm (d+3) "plus"):=λd=>by rw[z88];exact yav (z24 (sm 0))
  have w:∀d,zfs (sm (d+3) "weight"):=λd=>by rw[zyi];exact zun (sm 0)
  rw[show d+(m+1)+12=(d+m+10)+3 by symm];have hrec:∀r,1<=m->r<=m->ByR m r (sm (d+m+10+2) "by_halves"):=λr f i=>z0z d m r f (by symm) i;generalize j:d+m=n at *
  refine z4x ?_ (b (n+9)) ?_ ?_ ?_ c hrec r g
  ·rw [e_halves]
   exact zwz (e _) (by rw[z07];exact zx0 (sm 0))
  ·rw [e_joined]
   exact zxm (b _)
  ·rw [e_is_near]
   exact z81 (by rw[zvt];exact ya8 (w _) (b _)) (by rw[z1f];exact zxr (sm 0))
  ·rw [e_by_more_than_half]
   refine z9g (wt_m (w _)) (e _) λm N c=>?_;rw[zsl];have a:=e (n+7) m c;have x:=b (n+7) N (2^2^m-1);unfold zgi;simp! [a,x]
theorem zwj (ns:List Int)(z:ns.length<=63):sm 40 "law" [.frl (ns.map W.int)]=Za ([.frl (ns.map W.int)],#v[8,10]):=by
 rw[z9y];generalize h:sm 39=Ψ;have a:∀d,zcy (sm (d+3) "_law_take"):=λd=>by rw[znc];exact z4a (sm 0)
 have b:∀d,zda (sm (d+3) "_law_terms"):=λd=>by rw[zjy];exact zw3 (sm 0)
 have f:∀d,zem (sm (d+4) "_law_bits"):=λd=>by rw[zno];exact z4t (a _)
 have c:∀d,zjt (sm (d+3) "_law_word"):=λd=>by rw[zmr];exact z3o (sm 0)
 have e:∀d,zoz (sm (d+20) "_law_told"):=λd=>by
  exact z17 (λm r j k B=>by rw[show d+18=(d+6-m)+m+12 by symm];exact z0z _ m r j k B) (c _)
 have s:z0t (Ψ "_law_hand"):=by rw[<-h];exact z39 (sm 0)
 have y:zcy (Ψ "_law_take"):=by rw[<-h];exact a _
 have n:zoc (Ψ "_law_kind"):=by rw[<-h,zl3];exact z2f (a _)
 have l:zda (Ψ "_law_terms"):=by rw[<-h];exact b _
 have q:zem (Ψ "_law_bits"):=by rw[<-h];exact f _
 have g:zlr (Ψ "_law_poly"):=by rw[<-h,zmm];exact z4i (b _) (f _)
 have u:zfe (Ψ "_law_values"):=by rw[<-h];exact zyl (sm 0)
 have p:zc8 (Ψ "_law_faulty"):=by rw[<-h];exact zzc (a _)
 have o:zfl (Ψ "_law_right"):=by rw[<-h];exact z5c (e _) (c _)
 have x:zfo (Ψ "_law_right"):=by
  rw[<-h,zj0];exact z4n (e _) (by rw[zew];exact zu9 (sm 0)) (by rw[zfg];exact zin (b _))
 obtain⟨w,A,t⟩:=s ns z;obtain⟨i,C⟩:=z70 (ns:=ns) n l g u y q o x p t;refine zbv (en:=Za #v[8,7]::i) rfl (za5 ?_ (za5 C ?_)) rfl
 ·simp! [A]
 ·simp! []
noncomputable abbrev nA (K:Zg) (n:Str) (f:Zh):Prop:=PySem.W.nsIn K mainGlobals n=Za (Za (.ref f))
noncomputable abbrev nL (K:Zg) (f:Zh) (o:Ze) (a:Option Zh) (n:Str) (st:Stmt) (kV e pm:Ze) (d:Option Zh) (b c:Ze) (s:Array (Option Ze)):Prop:=K.lookup f=Za ⟨o,a,.func (PySem.W.fnOf n n (zez st) (zbi st) (zab st) .none kV e pm d b c),s⟩
noncomputable abbrev nC (K:Zg) (c:Ze) (n:Str):Prop:=PySem.W.codeIn K c n=Zd
noncomputable abbrev nK (K:Zg) (f:Zh):Prop:=PySem.W.keepIn K (.ref f)=Zd
noncomputable def nD (K:Zg) (t:Fd):Prop:=∃(f:Zh) (o:Ze) (b:Option Zh) (kV e p:Ze) (d:Option Zh) (c a:Ze) (s:Array (Option Ze)),nA K t.nm f/\nL K f o b t.nm t.st kV e p d c a s/\nC K c t.nm/\nK K f
theorem nD_i {K:Zg}{n:Str}{t:Fd}{f:Zh}{o:Ze}{g:Option Zh}{kV i pm:Ze}{h:Option Zh}{b d:Ze}{s:Array (Option Ze)}(e:t.nm=n)(a:nA K n f)(l:nL K f o g n t.st kV i pm h b d s)(c:nC K b n)(k:nK K f):nD K t:=by
 subst e;exact⟨_,_,_,_,_,_,_,_,_,_,a,l,c,k⟩
noncomputable def bO (t:Fd):Prop:=FnScope t.N t.ps (zab t.st)/\t.m.length=t.ps.length/\∀(kV doc p:Ze) (a:Option Zh) (cdv c:Ze) (u:List Ze),u.length=t.ps.length->bindArgs (PySem.W.fnOf t.nm t.nm (zez t.st) (zbi t.st) (zab t.st) .none kV doc p a cdv c) ⟨u,[]⟩=pure (t.ps.zip u)
theorem ybb {K:Zg}{h:Heap}{m:Str->Option Ze}(X:K.In h)(G:h.Ns mainGlobals m){t:Fd}(b:bO t)(e:t.nm∈lams->zzn K t.nm=Zd)(d:nD K t):FdOk K m t:=by
 obtain⟨f,o,i,kV,q,p,n,j,g,s,a,l,c,k⟩:=d;have F:=zz7 (st:=t.st) l c k;exact⟨b.1,b.2.1,⟨_,_,F,F.binds b.2.2,Di X G a⟩,e⟩
theorem all_c {α:Type}{P:α->Prop}{a:α}{l:List α}(h:P a)(r:∀x∈l,P x):∀x∈a::l,P x:=List.forall_mem_cons.mpr ⟨h,r⟩
theorem all_n {α:Type}{P:α->Prop}:∀x∈([]:List α),P x:=λ_ h=>nomatch h
@[elab_as_elim] theorem lenS {α:Type}{P:List α->Prop}{n:Nat} (u:List α) (b:u.length=n+1) (h:∀a l,l.length=n->P (a::l)):P u:=by
 cases u with
 |nil=>cases b
 |cons a l=>exact h a l (Nat.succ.inj b)
@[elab_as_elim] theorem len0 {α:Type}{P:List α->Prop} (u:List α) (b:u.length=0) (h:P []):P u:=by
 cases u with
 |nil=>exact h
 |cons a l=>cases b
@[elab_as_elim] theorem len1 {α:Type}{P:List α->Prop} (u:List α) (b:u.length=1) (h:∀a,P [a]):P u:=lenS u b λa l e=>len0 l e (h a)
@[elab_as_elim] theorem len2 {α:Type}{P:List α->Prop} (u:List α) (c:u.length=2) (h:∀a b,P [a,b]):P u:=lenS u c λa l e=>lenS l e λb l e=>len0 l e (h a b)
@[elab_as_elim] theorem len3 {α:Type}{P:List α->Prop} (u:List α) (d:u.length=3) (h:∀a b c,P [a,b,c]):P u:=lenS u d λa l e=>len2 l e (h a)
theorem zqm:bO zet:=#v[7,7]
theorem ztx:bO zf0:=#v[7,7]
theorem z22:bO zn7:=#v[2,7]
theorem zwr:bO zib:=#v[2,7]
theorem zsu:bO zf5:=#v[2,7]
theorem zpv:bO zeb:=#v[2,7]
theorem zum:bO zfu:=#v[2,7]
theorem zt5:bO zfv:=#v[7,8]
theorem zws:bO zi9:=#v[7,7]
theorem zpx:bO zd0:=#v[7,8]
theorem zdn:bO zao:=#v[2,7]
theorem zlk:bO zf8:=#v[2,7]
theorem zfc:bO zap:=#v[2,7]
theorem zls:bO zg6:=#v[7,7]
theorem zk4:bO zcu:=#v[2,7]
theorem zlq:bO zcs:=#v[2,7]
theorem zk7:bO zch:=#v[7,7]
theorem zd5:bO za4:=#v[2,7]
theorem zjd:bO zb4:=#v[2,7]
theorem zhg:bO zdz:=#v[2,7]
theorem zlc:bO zct:=#v[7,8]
theorem zd6:bO za3:=#v[2,7]
theorem zga:bO zbl:=#v[7,7]
theorem zk8:bO zcn:=#v[7,7]
theorem zhd:bO zd8:=#v[7,8]
theorem zk0:bO zci:=#v[2,7]
theorem zjn:bO zb6:=#v[7,8]
theorem z5x:bO zmx:=#v[7,7]
noncomputable def ClsF (K:Zg):Prop:=∃(a d b c f e C:Zh),nA K "YesNoError" a/\nA K "NoFit" d/\nA K "NoLine" b/\nA K "NoMost" c/\nA K "NotIn" f/\nA K "NoText" e/\nA K "TooFar" C/\PySem.W.excIn K a vmB vNew=Zd/\PySem.W.excIn K C vmB vNew=Zd/\excQ K C=Zd/\L2.subIn K C a=Zd/\PySem.W.kitOne K (.ref C) (.ref d)=Za Zc/\PySem.W.kitOne K (.ref C) (.ref b)=Za Zc/\PySem.W.kitOne K (.ref C) (.ref c)=Za Zc/\PySem.W.kitOne K (.ref C) (.ref f)=Za Zc/\PySem.W.kitOne K (.ref C) (.ref e)=Za Zc/\PySem.W.kitOne K (.ref C) (.ref C)=Za Zd/\PySem.W.kitOne K (.ref C) (.type "ValueError")=Za Zd
theorem cls_i {K:Zg}{h l m k n j C:Zh}(p:nA K "YesNoError" h)(u:nA K "NoFit" l)(q:nA K "NoLine" m)(s:nA K "NoMost" k)(r:nA K "NotIn" n)(v:nA K "NoText" j)(x:nA K "TooFar" C)(t:PySem.W.excIn K h vmB vNew=Zd)(o:PySem.W.excIn K C vmB vNew=Zd)(w:excQ K C=Zd)(d:L2.subIn K C h=Zd)(i:PySem.W.kitOne K (.ref C) (.ref l)=Za Zc)(g:PySem.W.kitOne K (.ref C) (.ref m)=Za Zc)(b:PySem.W.kitOne K (.ref C) (.ref k)=Za Zc)(f:PySem.W.kitOne K (.ref C) (.ref n)=Za Zc)(e:PySem.W.kitOne K (.ref C) (.ref j)=Za Zc)(c:PySem.W.kitOne K (.ref C) (.ref C)=Za Zd)(a:PySem.W.kitOne K (.ref C) (.type "ValueError")=Za Zd):ClsF K:=⟨_,_,_,_,_,_,_,p,u,q,s,r,v,x,t,o,w,d,i,g,b,f,e,c,a⟩
theorem z7r {K:Zg}{h:Heap}{a:Str->Option Ze}(X:K.In h)(G:h.Ns mainGlobals a)(F:ClsF K):∃i,XCls K a "YesNoError" i/\∀c∈CS,∃C,a c=Za (.ref C)/\XCls K a c C/\L2.subIn K C i=Zd/\zxi K a C c:=by
 obtain⟨A,E,H,i,I,D,p,r,y,s,w,t,z,o,x,n,B,f,l,k,d,j,g,e,b⟩:=F;refine⟨A,⟨Di X G r,x⟩,λc u=>?_⟩;obtain rfl:=Ax.mp u;have M:=Di X G o;exact⟨p,M,⟨M,n⟩,f,"TooFar",Zc,Zc,Zc,Zc,Zc,Zd,5,⟨M,n⟩,B,⟨⟨_,Di X G y,l⟩,⟨_,Di X G s,k⟩,⟨_,Di X G w,d⟩,⟨_,Di X G t,j⟩,⟨_,Di X G z,g⟩,⟨_,Di X G o,e⟩⟩,b,by decide,by decide,λm q=>by rcases m with _|_|_|_|_|_|m<;>first|rfl|(exact absurd q (by symm)),by decide⟩
theorem all_mk {l:PySem.W.OpenLaw}{w:World}{K:Zg}{h:Heap}{m:Str->Option Ze}{n:Zh} (X:K.In h) (G:h.Ns mainGlobals m) (b:m "law" = Za (.ref n)) (D:∀t∈T,nD K t) (M:∀x∈(["_law_terms","law"]:List Str),zzn K x=Zd) (Z:∀x∈bn,PySem.W.nsIn K mainGlobals x=Za Zb) (C:PySem.W.nsIn K mainGlobals "ValueError" = Za Zb) (y:ClsF K) :
  ∃i:FuncData,(∀(s:Zf) (v:Ze),BindsTo s i ⟨[v],[]⟩ [("_law_script",v)])/\∀base:Heap,K.In base->base.Ns mainGlobals m->FnOk l.prog w K m base CX0 40 n i ["_law_script"] (spF K [Zc] (sm 40 "law")):=by
 have B:∀t∈T,bO t:=all_c zqm (all_c ztx (all_c z22 (all_c zwr (all_c zsu (all_c zpv (all_c zum (all_c zt5 (all_c zws (all_c zpx (all_c zdn (all_c zlk (all_c zfc (all_c zls (all_c zk4 (all_c zlq (all_c zk7 (all_c zd5 (all_c zjd (all_c zhg (all_c zlc (all_c zd6 (all_c zga (all_c zk8 (all_c zhd (all_c zk0 (all_c zjn (all_c z5x (all_n))))))))))))))))))))))))))));have q:∀t∈T,t.nm∈lams->t.nm∈(["_law_terms","law"]:List Str):=by decide +kernel
 obtain⟨f,L,I,kV,J,P,H,E,N,Q,a,u,c,k⟩:=D zmx (by simp [T]);have F:=zz7 (st:=zmx.st) u c k;have e:=b.symm.trans (Di X G a);cases e;have ok:∀t∈T,FdOk K m t:=λt d=>ybb X G (B t d) (λz=>M _ (q t d z)) (D t d);have g:∀x∈bn,m x=Zb:=λx A=>PySem.W.mg_none_of X G (Z x A);obtain⟨O,p,r⟩:=z7r X G y;exact⟨_,λs v=>.of_eq rfl,λbase j o=>(zoj nd_T ok g j o (λh=>absurd h (by decide +kernel)) (z6b ok g j o p (g _ (by decide +kernel)) (PySem.W.mg_none_of X G C) r) 40).1 zmx (by simp [T]) _ _ F (Di X G a)⟩
theorem walk {l:PySem.W.OpenLaw}{q:Program}{b:List Str}{X:(Str->Option Ze)->Heap->Prop}{Y:World->Heap->Prop}{d:DefRec}{K:Params->Zg} (y:l.most=Za 63) (g:d.params.defaults=[])
  (r:∀(w:World) (h:Heap),Y w h->(K w.params).In h)
  (B:∀w:World,PySem.W.noTabs (K w.params)=Zd) (C:∀w:World,ztj (K w.params)=Zd) (hrec:∀(w:World),∀x∈lams,∀c P,PySem.W.tabIn (K w.params) x=Za (c,P)->∃d,(recsOf q).find? (λe=>e.name==x)=Za d)
  (F:∀(w:World) (m:Str->Option Ze) (p:Zh) (h:Heap),(K w.params).In h->h.Ns mainGlobals m->m d.name=Za (.ref p) ->
   ∃j:FuncData,(∀(s:Zf) (u:Ze),BindsTo s j ⟨[u],[]⟩ [("_law_script",u)])/\∀base:Heap,(K w.params).In base->base.Ns mainGlobals m->FnOk l.prog w (K w.params) m base CX0 40 p j ["_law_script"] (spF (K w.params) [Zc] (sm 40 "law"))) :
  PySem.W.WalkO q b X Y l.row.toRowW d [] (λf vs=>PySem.call f vs) :=
 L2.walk_ofT (n:=63) (k:=40) (x := "_law_script") (CX:=λ_=>CX0) (sp:=λw=>spF (K w.params) [Zc] (sm 40 "law")) y (by decide) g ⟨rfl,by decide,by decide,rfl⟩ r B C hrec F (λ_ _ _ a o A i t=>zp4 i.sub i.tb t (ws':=[.frl (o.map W.int)]) (zwj o A) rfl) λ_ _ _ _ _ z=>z
end My
open PySem PySem.W PyProof.Rows
set_option maxRecDepth 100000 in
set_option maxHeartbeats 0 in
theorem PySem.Challenge.cw_yesnowords_k51_mended_by_halves_holds : PySem.Challenge.rw_yesnowords_k51_mended_by_halves.Holds := by
 w_on;o_law;k_head;(case hw=>w_witness2)
 k_fill
 refine My.walk (l:=PySem.Challenge.rw_yesnowords_k51_mended_by_halves) rfl rfl (fun w h Y=>by first | exact PySem.W.kIn_of Y | exact PySem.W.km_in_of Y) ?nt ?nd ?hrec ?F
 case nt=>exact fun w=>by kernel_rfl
 case nd=>exact fun w=>by kernel_rfl
 case hrec =>
  intro w x hx c P e;simp only [L2.lams,Ak,Cc,Fm] at hx;rcases hx with rfl | rfl | rfl | rfl | rfl
  ·exact Fo.mp (by kernel_rfl)
  ·exact nomatch (Eq.trans (by kernel_rfl) e:(none:Option (Addr × Addr))=some (c,P))
  ·exact nomatch (Eq.trans (by kernel_rfl) e:(none:Option (Addr × Addr))=some (c,P))
  ·exact nomatch (Eq.trans (by kernel_rfl) e:(none:Option (Addr × Addr))=some (c,P))
  ·exact Fo.mp (by kernel_rfl)
 case F =>
  intro w mg fa h KX G hmg;refine My.all_mk KX G hmg ?xD ?xM ?xZ ?xV ?xC
  case xV=>k_is
  case xC =>
   refine' My.cls_i ?_ ?_ ?_ ?_ ?_ ?_ ?_ ?_ ?_ ?_ ?_ ?_ ?_ ?_ ?_ ?_ ?_ ?_
   any_goals (first | (delta My.nA;k_is) | k_is | kernel_rfl)
  case xM=>exact My.all_c (by kernel_rfl) (My.all_c (by kernel_rfl) (My.all_n))
  case xZ =>
   refine' My.all_c ?_ (My.all_c ?_ (My.all_c ?_ (My.all_c ?_ (My.all_c ?_ (My.all_c ?_ (My.all_c ?_ (My.all_c ?_ (My.all_c ?_ (My.all_c ?_ (My.all_c ?_ (My.all_c ?_ (My.all_c ?_ (My.all_c ?_ (My.all_c ?_ (My.all_c ?_ (My.all_c ?_ (My.all_n)))))))))))))))))
   any_goals k_is
  case xD =>
   refine' My.all_c (My.nD_i (n := "all_yes") rfl ?_ ?_ ?_ ?_) (My.all_c (My.nD_i (n := "weight") rfl ?_ ?_ ?_ ?_) (My.all_c (My.nD_i (n := "plus") rfl ?_ ?_ ?_ ?_) (My.all_c (My.nD_i (n := "times") rfl ?_ ?_ ?_ ?_) (My.all_c (My.nD_i (n := "unlike") rfl ?_ ?_ ?_ ?_) (My.all_c (My.nD_i (n := "against") rfl ?_ ?_ ?_ ?_) (My.all_c (My.nD_i (n := "halves") rfl ?_ ?_ ?_ ?_) (My.all_c (My.nD_i (n := "joined") rfl ?_ ?_ ?_ ?_) (My.all_c (My.nD_i (n := "least") rfl ?_ ?_ ?_ ?_) (My.all_c (My.nD_i (n := "is_near") rfl ?_ ?_ ?_ ?_) (My.all_c (My.nD_i (n := "by_more_than_half") rfl ?_ ?_ ?_ ?_) (My.all_c (My.nD_i (n := "by_halves") rfl ?_ ?_ ?_ ?_) (My.all_c (My.nD_i (n := "mend_by_halves") rfl ?_ ?_ ?_ ?_) (My.all_c (My.nD_i (n := "_law_hand") rfl ?_ ?_ ?_ ?_) (My.all_c (My.nD_i (n := "_law_take") rfl ?_ ?_ ?_ ?_) (My.all_c (My.nD_i (n := "_law_bits") rfl ?_ ?_ ?_ ?_) (My.all_c (My.nD_i (n := "_law_word") rfl ?_ ?_ ?_ ?_) (My.all_c (My.nD_i (n := "_law_spread_out") rfl ?_ ?_ ?_ ?_) (My.all_c (My.nD_i (n := "_law_terms") rfl ?_ ?_ ?_ ?_) (My.all_c (My.nD_i (n := "_law_values") rfl ?_ ?_ ?_ ?_) (My.all_c (My.nD_i (n := "_law_poly") rfl ?_ ?_ ?_ ?_) (My.all_c (My.nD_i (n := "_law_poly_terms") rfl ?_ ?_ ?_ ?_) (My.all_c (My.nD_i (n := "_law_refusal") rfl ?_ ?_ ?_ ?_) (My.all_c (My.nD_i (n := "_law_kind") rfl ?_ ?_ ?_ ?_) (My.all_c (My.nD_i (n := "_law_faulty") rfl ?_ ?_ ?_ ?_) (My.all_c (My.nD_i (n := "_law_told") rfl ?_ ?_ ?_ ?_) (My.all_c (My.nD_i (n := "_law_right") rfl ?_ ?_ ?_ ?_) (My.all_c (My.nD_i (n := "law") rfl ?_ ?_ ?_ ?_) (My.all_n))))))))))))))))))))))))))))
   any_goals (first | (delta My.nA;k_is) | (delta My.nL;k_is) | (delta My.nC;k_is) | (delta My.nK;k_is) | k_is)