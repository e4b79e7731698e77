import PyProof.Rows.All
import Wide.All
import OpenK.AllK
import Wide.FinOn
import Lean
import PyProof.EqAt
import PyProof.EqKinds
import PyProof.TupleCall
import PyProof.Rows.SortRuns
import PyProof.DictUpdate
import PyProof.AttrMissHeap
import PyProof.IsiH_list
import KE.KDictOf
import PyProof.DictCompW
import PyProof.Rows.SetFrom
import KE.KDictList
import PySem.Challenge.RW_yesnowords_k53_votes_of_sums
set_option Elab.async false
set_option linter.all false
set_option compiler.extract_closed false
set_option bootstrap.genMatcherCode false
set_option maxHeartbeats 2000000
section
open Lean
abbrev nY:=Syntax
def nM:=mkAtom
def nK (k:Name)(xs:List nY):nY:=.node .none (`Lean.Parser.Term++k) xs.toArray
def nC (xs:List nY):nY:=mkNullNode ((xs.intersperse (nM ",")).toArray)
def nB (k a b:String)(x:List nY):nY:=.node .none (.mkSimple k) #[nM a,nC x,nM b]
def nP:nY:=nK `hygienicLParen [nM "(",.node .none `hygieneInfo #[mkIdent .anonymous]]
def nT (w:String):nY:=if w.front.isDigit then Syntax.mkNumLit w else if w.front=='.' then nK `dotIdent [nM ".",mkIdent (w.drop 1).toString.toName] else if w=="_" then nK `hole [nM "_"] else mkIdent w.toName
def nA:List nY->nY
 |[f]=>f
 |f::r=>nK `app [f,mkNullNode r.toArray]
 |[]=>.missing
def nG:Nat->List Char->String->List nY->List nY->List nY×List Char
 |0,cs,_,_,r=>(r,cs)
 |n+1,cs,w,a,r=>
  let b:=if w=="" then a else nT w::a
  let e:=(if b.isEmpty then r else nA b.reverse::r).reverse
  match cs with
  |[]=>(e,cs)
  |c::cs=>
   let sub:=λ(k:_->nY) b=>
    let(x,ds):=nG n cs "" [] []
    match ds with
    |'.'::es=>let f:=es.takeWhile Char.isAlphanum;nG n (es.drop f.length) "" (nK `proj [k x,nM ".",mkIdent (String.ofList f).toName]::b) r
    |_=>nG n ds "" (k x::b) r
   let fin:=λds (f:nY->nY)=>let(x,ds):=nG n ds "" [] [];(r.reverse++match x with|y::z=>f y::z|_=>[],ds)
   if c==')'||c==']'||c=='⟩' then (e,cs)
   else if c==',' then nG n cs "" [] (nA b.reverse::r)
   else if c==' ' then nG n cs "" b r
   else if c=='(' then sub (λxs=>match xs with|[x]=>nK `paren [nP,x,nM ")"]|[.missing,x,y]=>nK `typeAscription [nP,x,nM ":",mkNullNode #[y],nM ")"]|x::y=>nK `tuple [nP,mkNullNode #[x,nM ",",nC y],nM ")"]|_=>.missing) b
   else if c=='⟨' then sub (λx=>nK `anonymousCtor [nM "⟨",nC x,nM "⟩"]) b
   else if c=='[' then if w=="#v" then sub (λx=>.node .none `Vector.«term#v[_,]» #[nM "#v[",nC x,nM "]"]) a else if w=="#" then sub (nB "term#[_,]" "#[" "]") a else sub (nB "term[_]" "[" "]") b
   else if c=='"' then let s:=cs.takeWhile (·!='"');nG n (cs.drop (s.length+1)) "" (Syntax.mkStrLit (String.ofList s)::b) r
   else if c=='λ' then let s:=cs.takeWhile (·!='=');fin (cs.drop (s.length+2)) λx=>nA (nK `fun [nM "λ",nK `basicFun [mkNullNode (((String.ofList s).splitOn " ").map nT).toArray,mkNullNode,nM "=>",x]]::b).reverse
   else if "+-*^/%<=&:".contains c then
    let s:=c::cs.takeWhile ("=&:/\\".contains ·)
    if s==[':'] then nG n cs "" [] (nA b.reverse::.missing::r) else fin (cs.drop (s.length-1)) λx=>.node .none (.mkSimple s!"term_{String.ofList s}_") #[nA b.reverse,nM (String.ofList s),x]
   else nG n cs (w.push c) a r
def nD (t:String)(i j:Nat):Option nY:=((t.splitOn "|")[10*(j-7)+i]?).map λs=>nA (nG 999 s.toList "" [] []).1
end
open Lean in
local macro_rules | `(#v[$a,$b])=>(do nD "(gSeq (gSet [0] 5 (gCall [true,false] (Ψ \"_law_take\") (gCns (zaa 0) (gCns (gArg (gOp2 oIx (gArg (zap (gCns #v[2] (gCns #v[5] (gCns #v[5] gA0))))) (zaa 2))) gA0)))) (zfj (gApp 3 (gOp2 oIx (gArg (zap (gCns #v[5,4] (gCns (gArg (gOpN oInt (gCns (gArg (gOp2 oEq (zaa 5) #v[0])) gA0))) (gCns (gArg (gOpN oInt (gCns (gArg (gOp2 (oI yes2 λi j=>.bl (decide (j<i))) (zaa 5) #v[0])) gA0))) gA0))))) (zaa 2)))))|(model X.prog X.w)|⟨#v[0,0,5],rfl,λ_ _ _ _ _ _ us hl=>len2 us hl λ_ _=>rfl⟩|(.ListComp elt [⟨tg,iter,ifs,0⟩,⟨tg2,iter2,ifs2,0⟩] scope pos)|⟨#v[0,0,5],rfl,λ_ _ _ _ _ _ us hl=>len1 us hl λ_=>rfl⟩|(.ListComp elt (⟨tg,iter,ifs,0⟩ :: gs) scope pos)||((h3.update a (Obj.mapSeq λ_=>(#[]:Array Value))).push (seqObj \"tuple\" vs.toArray 0))|[#v[st,5],#v[(m:Nat),0],#v[(a:Nat),0],#v[(b:Nat),0],#v[tmW T,6],#v[A,3],#v[B,3],#v[(castL (rstL m T)),2],none,none,none,none]|[#v[st',5],#v[(m:Nat),0],#v[tmW T,6],#v[(w:Nat),0]]|(gArg (gOp2 (oI cPow λi j=>.int (i ^ j.toNat)) (gArg (gC (.int 10))) (gArg (gC (.int 60)))))|(.bl false,false)|(.frl (ns.map W.int),false)|[#v[st,5],#v[(m:Nat),0],#v[(a:Nat),0],#v[(b:Nat),0],#v[tmW T,6],#v[A,3],#v[B,3],none,none,none,none,none]|⟨#v[0,0,5],rfl,λ_ _ _ _ _ _ us hl=>len3 us hl λ_ _ _=>rfl⟩|(s.heap.push (seqObj \"list\" #[] 0))||(gArg (gCall [false,false,false] (Ψ \"votes\") (gCns #v[1,4] (gCns (gArg (gCall [false,false] (Ψ \"plus\") (gCns #v[3,4] (gCns (gArg (gCall [false,false] (Ψ \"word_of\") (gCns #v[1,4] (gCns (gArg (zb1 (gCns #v[2,4] gA0))) gA0)))) gA0)))) (gCns #v[2,4] gA0)))))|(Obj.mapSeq λ_=>(#[]:Array Value))|[#v[(m:Nat),0],#v[(N:Nat),0],#v[tmW T,6],#v[(SN T N:Nat),0],v4,#v[(zal T:Nat),0]]||(oI yes2 λi j=>.int (Builtin.bitAnd i j))|(gArg (gOpN oLen (gCns (zaa 0) gA0)))|[#v[st,5],#v[n,0],#v[way,0],#v[(xs.map W.int),2],#v[(0+(i:Nat)),0],v5]||[some #v[2,8],#v[[.int 0,.int 0,.int 0],2],none,none,none,none]|(seqObj \"list\" vs.toArray 0)|(oI yes2 λi j=>.bl (decide (j<i)))|(gAug [] (oI yes2 λi j=>.int (Builtin.bitOr i j)) 1 (gArg (gOp2 #v[0,0,1] #v[1] (zaa 2))))|[#v[st',5],#v[(m:Nat),0],#v[(a:Nat),0],#v[(b:Nat),0],#v[tmW T,6],#v[A,3],#v[B,3],#v[(castL (rstL m T)),1],#v[(y:Nat),0],#v[DD,5],#v[(castL (oth m (insN y T))),1],#v[Q,2]]|[#v[m,0],#v[(rowF m f 0),0],#v[((tab (i+1) (rowF m f)).map W.int),2],#v[(0+(i:Nat)),0]]||(.ListComp elt gens scope pos)|(.frl ((n0::nr).map W.int),false)||(s.heap.objs.size+1)|(s.heap.push (new0 w))|(gArg (gCall [false] (Ψ \"terms\") (gCns #v[0,4] gA0)))|(.bl true,false)|[#v[st',5],#v[(m:Nat),0],#v[(a:Nat),0],#v[(b:Nat),0],#v[tmW T,6],#v[A,3],#v[B,3],#v[(castL (rstL m T)),2],#v[(y:Nat),0],none,none,none]|[#v[kdW m r,6],#v[(N:Nat),0],#v[(m:Nat),0],#v[R,2],#v[tmW T,6],v5,none]|(gCns #v[1,4] (gCns #v[2,4] gA0))|[#v[m,0],#v[(rowF m f 0),0],#v[((tab 1 (rowF m f)).map W.int),2],none]|(gCns (gArg (gOpN oLen (gCns (zaa 3) gA0))) gA0)|[#v[kdW m r,6],#v[(w:Nat),0],#v[(m:Nat),0],#v[[],2],none,none,none]|(oI yes2 λi j=>.int (i+j))||(gCns (gArg (gCall [true,false] (Ψ \"_law_bits\") (gCns (zaa 1) (gCns (gArg (gOp2 #v[0,0,1] #v[1] (zaa 3))) gA0)))) gA0)|(gArg (gOp2 oAdd (gArg (gOp2 oMult (gArg (gOp2 oIx (zaa 1) (gArg (gC (.int 1))))) (gArg (gC (.int 48271))))) (zaa 5)))|[#v[kdW m r,6],#v[(w:Nat),0],#v[(m:Nat),0],#v[R,2],v4,v5,none]|((s.heap.update a #v[8,8]).push (seqObj \"tuple\" vs.toArray 0))|[some (st',true),some (.int (m:Nat),false),some (.int (most:Nat),false),some (.lst ((zab m most).map tmW),false)]|[some #v[2,8],#v[[.int a0,.int 0,.int 0],2],v2,v3,none,none]|(seqObj \"list\" #[] 0)|[some (st,true),some (.int (m:Nat),false),some (.int (most:Nat),false),some (.lst ((zab m most).map tmW),true)]|[some #v[3,10],some (.lst [.int a0,.int 0,.int 0],true),some (.int wt,false),some (.int n,false),none,none]||(gAug [] #v[1,9] 0 (gArg (gOp2 #v[0,0,0] (zaa 0) #v[1])))|||(gArg (gCall [false,false,false] (Ψ \"votes\") (gCns #v[1,4] (gCns #v[3,4] (gCns #v[2,4] gA0)))))|(gArg (gOpN oAbs (gCns (zaa 3) gA0)))|(gSeq (za1 1 (gC (.int 0)) (gOp2 oAdd (gArg (gOp2 oIx (zaa 1) (gArg (gC (.int 0))))) (gArg (gOp2 oMult (gArg (gOp2 (oI (λ_ j=>decide (0<j)) λi j=>.int (i%j)) #v[1,13] #v[0,8])) (zaa 2))))) (gSet [] 2 (gOp2 oMult (zaa 2) #v[0,8])))|(oI (λ_ j=>decide (0<j)) λi j=>.int (i%j))|(gArg (gOpN oMax (gCns #v[3] (gCns (gArg (gOpN oMin (gCns #v[8] (gCns #v[2,9] gA0)))) gA0))))|[v0,v1,v2,v3,v4,#v[((L.map f).map W.int),3],#v[((L.map g).map W.int),3],v7,v8,v9,v10,v11]|(gCns #v[3,4] gA0)|(gCns #v[1,4] (gCns #v[3,4] (gCns #v[4,4] gA0)))|[.int (m:Nat),.int (N:Nat),.lst ((((votL m r).take i).map (rowD m ts)).map rowW),tmW T]||(oI cPow λi j=>.int (i^j.toNat))|[v0,some (tmW t,false),some (.int n,false)]|[#v[st',5],#v[n,0],#v[way,0],#v[(xs.map W.int),2],#v[(0+(i:Nat)),0],#v[one,0]]|(seqObj \"list\" #[] e1)|(gArg (gOp2 oIx (zaa 0) #v[2]))|(gArg (gOp2 oIx (zaa 0) #v[0]))|(oI yes2 λi j=>.int (Builtin.bitXor i j))|[some #v[3,10],some (.lst [.int 0,.int 0,.int 0],true),none,none,none,none]|[#v[st',5],#v[(m:Nat),0],#v[(r:Nat),0],#v[(w:Nat),0],#v[(w:Nat),0],#v[R,3]]|[#v[(m:Nat),0],#v[(N:Nat),0],#v[tmW T,6],#v[(S:Nat),0],#v[(l:Nat),0],none]|[some (st2,true),some (.int n,false),some (.int 3,false),none,none,none]|[some (st1,true),some (.int n,false),some (.int 3,false),none,none,none]|[#v[kdW m r,6],#v[(w:Nat),0],#v[(m:Nat),0],#v[R,2],v4,v5,#v[(w:Nat),0]]|[#v[(m:Nat),0],#v[(N:Nat),0],#v[(R.map rowW),1],#v[tmW T,6],none,none]|(gArg (gC (.int 2305843009213693951)))|(gArg (gOp2 #v[0,0,1] #v[1] (zaa 2)))|[.int (w:Nat),.int (w:Nat)]|[#v[(wordOf xs),0],#v[h,0]]|[#v[(m:Nat),0],#v[(N:Nat),0],#v[tmW T,6],#v[(N:Nat),0],none,none]|[.int i,.int j]||(gCns #v[0,4] (gCns (gArg (gOp2 oIx (zaa 2) (zaa 3))) #v[6,13]))|[some (.int (m:Nat),false),some (.tup (ts.map tmW),false),none]|[#v[[.int (m:Nat),.int (t:Nat)],3],#v[(m:Nat),0],#v[(t:Nat),0]]|(.bl (decide (i=j)),false)|[v0,#v[(m:Nat),0],v2,v3,#v[tmW T,6],v5,v6,v7,v8,v9,v10,v11]||(gCns #v[0,4] gA0)|[v0,v1,v2,v3,v4,#v[((L.map (rowD m ts)).map rowW),3]]|[some #v[2,8],#v[st,5],none,none,none,none,none,none]|(gRet (gC (.bl false)))|(gOp2 oAdd (gArg (gOp2 oMult #v[2] (zaa 1))) (zaa 2))|[some (.lst (R.map rowW),false),some (.int s,false)]|[#v[(castL M),1],#v[0,0],none]|[.int (m:Nat),.int (a:Nat),.tup (castL (insN y T))]|[.int (m:Nat),.int (N:Nat),.lst (R.map rowW),tmW T]|(gOp2 oAdd (zaa 1) (gArg (zb1 (gCns #v[2,4] gA0))))|(gCns #v[1,4] (gCns (gArg (gOp1 oNeg #v[1])) gA0))|[.int m,.int (wordOf (tab (2^m.toNat) f)),.int j]|(gCns (zaa 1) gA0)|(gCns #v[1,4] gA0)|(oI cMul λi j=>.int (i*j))|(gCns (zaa 0) (gCns (gArg (gC (.int 2))) gA0))|(gCns (gArg (zb1 gA0)) gA0)||||(gAug [] #v[5,11] 1 #v[1])|(gSet [] 1 (gC (.int 0)))|(oI yes2 λi j=>.int (Builtin.bitOr i j))|[v0,#v[tmW t,6],#v[n,0]]|[#v[(wordOf (tab n f)),0],#v[(p:Nat),0]]|(gOp2 oNe (zaa 0) #v[0])|[.int a0,.int b,.int 0]|[.int (wordOf (tab n f)),.int (p:Nat)]|(gCns #v[7,4] gA0)|(gCns #v[2,4] #v[6,13])" (<-a.raw.isNatLit?) (<-b.raw.isNatLit?):Option _).elim Macro.throwUnsupported pure
local macro_rules|`(tactic|symm)=>`(tactic|first|lia|omega|omega +splitDisjunctions)
set_option maxRecDepth 100000
open Option renaming some → Za, none → Zb
open Bool renaming false → Zc, true → Zd
open PySem renaming Value → Ze, Shared → Zf, Addr → Zh, Expr → Zi
open PySem.W renaming Frag → Zg
open PySem renaming wpAny_bind → Aa, wpAny_pure → Ae, wpAny_holding → Bh, mem_of_lookup → Br, wpAny_field → Ca, wpAny_rule → Cd, wpAny_callSpecial?_slot → Ch, wpAny_seqItems → Co, wpAny_loadPart' → Cp, wpAny_mono → Cv, wpAny_call_entry → Cz, codeAny_builtin → Dj, wpAny_newObj_type → Dp, wpAny_setField_rec → Eg, wpAny_pyIter_list → Ep, wpAny_attempt → Et, wpAny_setEntries_of → Ex, wpAny_isInstance → Ey, wpAny_passesOwn → Fg, wpAny_standAt → Fs, plainId_quiet → Ft, wpAny_truthy_bool → Fx, wpAny_pyIter_tuple → Gp, wpAny_Call_Name_kw → Gq, wpAny_of_eq → Gr, wpAny_letGo → Gs, wpAny_tryCatch → Gw, codeAny_mono → Gx, call_meets → Hr, wpAny_pyIter_enum → Hs, wpAny_newList → Hv
open PySem.Heap renaming get?_push_of_some → Ab, lt_size → Am, get?_push_size → An, size_push → Cr, get?_update_other → Dq, get?_update_self → Hg, get?_push_ne → Ht
open Bool renaming and_eq_true → Ac, false_ne_true → As, not_eq_true → Bj, or_eq_true → Bx, not_eq_false' → Df, eq_iff_iff → Du, false_eq_true → Ew, not_eq_true' → Ff, not_false → Fo, false_and → Fp, and_false → Hl
open List renaming getElem?_eq_getElem → Ad, length_map → Af, getElem?_eq_some_iff → Ah, size_toArray → Ai, mem_cons → Ak, mem_cons_of_mem → Ap, getElem?_map → Ar, mem_cons_self → Au, mem_singleton → Aw, map_cons → Ax, mem_append_right → Ay, all_eq_true → Az, not_mem_nil → Bb, append_assoc → Bd, length_append → Be, length_cons → Bf, getD_eq_getElem?_getD → Bi, nodup_cons → Bl, mem_of_getElem? → Bm, lookup_cons → Bo, mem_filter → Bq, all_cons → Bv, map_append → Bw, mem_range → By, take_append_drop → Bz, mem_append → Cb, map_map → Ce, append_nil → Cf, pairwise_append → Ci, mem_iff_getElem → Cj, take_length → Cn, length_range → Cq, take_succ → Cs, length_take → Cu, drop_eq_getElem_cons → Cw, replicate_succ → Cy, length_replicate → Da, getElem?_eq_none → Db, contains_iff_mem → Dc, zip_cons_cons → Dd, pairwise_cons → De, getElem?_set_ne → Dg, filter_cons_of_pos → Dh, filter_cons_of_neg → Di, getElem?_append_left → Do, sum_cons → Dr, ext_getElem? → Ds, map_congr_left → Dv, mem_map → Dw, getElem?_set_self → Dx, any_cons → Dy, pairwise_iff_getElem → Ec, of_mem_zip → Ed, length_set → Ee, find?_cons → Ef, take_sublist → Eh, map_inj_left → Ei, length_zipWith → Em, drop_zero → Es, take_of_length_le → Ev, length_nil → Ez, forIn_cons → Fa, length_filter_le → Fb, take_zero → Fj, getElem?_append_right → Fm, getElem_mem → Fv, filter_cons → Fw, length_reverse → Fz, filter_append → Gc, findIdx?_eq_some_iff_getElem → Ge, nodup_nil → Gm, map_nil → Gn, flatten_cons → Go, length_drop → Gu, getElem?_mapIdx → Gy, length_zip → Hb, getElem?_zip_eq_some → Hm, foldl_append → Hn, drop_sublist → Ho
open Nat renaming le_refl → Ag, ne_of_lt → Ba, lt_of_lt_of_le → Bc, zero_le → Bk, lt_irrefl → Bp, le_trans → Bu, le_add_right → Cm, zero_add → Ct, lt_succ_of_lt → Dl, testBit_xor → Dt, lt_succ_self → Er, pow_le_pow_right → Fh, ne_of_gt → Fu, min_self → Gi, le_of_succ_le → Gj, le_of_lt → Gk, add_sub_cancel' → He, two_pow_add_eq_or_of_lt → Hh, lt_of_le_of_lt → Hj
open PyProof.Rows renaming wpS_bind → Aq, wpS_pure → Av, callWith_type1 → Bt, wpS_forRange → Ck, wpS_mono → Eb, slot_tuple_getitem → Ek, listUpdate_at → Gb, get?_update_seq → Ha, wpS_get → Hw
open Array renaming length_toList → Bg, toList_append → Bs, toList_push → Dm, getElem?_eq_none → Dn, getElem?_toList → Fc, perm_iff_toList_perm → Fq, getElem?_eq_getElem → Fy, toList_map → Gv, toList_reverse → Gz
open LawfulBEq renaming eq_of_beq → Bn
open PySem.Heap.SameBut renaming update → Cg
open Option renaming bind_some → Dz, isSome_iff_exists → Ej, map_eq_some_iff → Eu
open Int renaming natCast_nonneg → Ea, toNat_natCast → Fe, eq_ofNat_of_zero_le → Gd, emod_nonneg → Hd, emod_lt_of_pos → Hk
open PySem.F renaming slot_zip_next → Eo, slot_tuple_iterator_next → Ga, plain_max_loop → Hi, args_tuple_add_2 → Hq, args_zip_next_1 → Hu
open PySem.W renaming cellsFrom_some → Gh
def Aj:=@decide_eq_true
def Ao:=@of_decide_eq_true
def At:=@decide_eq_false
def Cc:=@decide_eq_true_eq
def Dk:=@or_false
def El:=@beq_eq_false_iff_ne
def Gf:=@if_true
namespace PySem.W.Fast
def tw18264154132790310251:=0
def tw9443031585649902059:=0
def tw7538218186395775335:=0
def tw17960151028530406365:=0
def tw10932626287706807561:=0
def tw10846272930148693763:=0
def tw4133090781104241669:=0
def tw13803275217612511110:=0
def tw9404641633029470395:=0
def tw4599968390822487657:=0
def tw4976003553946479125:=0
def tw14589452466258307274:=0
def tw7698582846788096934:=0
def tw13652120303272881274:=0
def tw15540432536139559464:=0
def tw279189908759777254:=0
def tw4793853405449653810:=0
def tw3487843061041074990:=0
def tw2055848040599411121:=0
def tw12402355098836806833:=0
def tw3078776671091470040:=0
def tw9650102596163416950:=0
def tw7069992740399290007:=0
def tw1181713446807330719:=0
def tw2245163028414881204:=0
def tw12644660761444624580:=0
def tw4709266321910380740:=0
def tw4070736766530736991:=0
def tw17782089136112165204:=0
def tw10545132697339941425:=0
def tw4973736452906095157:=0
def tw7821107381900322942:=0
def tw3170556440203473361:=0
def tw14010158849488971662:=0
def tw11876262087557434278:=0
def tw13874824191240700747:=0
def tw7604362688273065395:=0
def tw13947799962960655113:=0
def tw8859398278080617192:=0
def tw9261330125506930086:=0
def tw6801475053999584539:=0
def tw7090532034557235736:=0
def tw13614906198466823478:=0
def tw2509745946538225304:=0
def tw17726222317736855090:=0
def tw14043404800826881774:=0
def tw4170520805509887302:=0
def tw1761285291339585886:=0
def tw17746929615513511528:=0
def tw9020809329748984215:=0
def tw14245611709488102130:=0
def tw408580968819762894:=0
def tw7817896806691568774:=0
def tw3689907088370964641:=0
def tw12768603870107708440:=0
def tw8907519837964828294:=0
def tw10015156512524737581:=0
def tw4520713766869315439:=0
def tw18198813474290499073:=0
def tw4944132875760671801:=0
def tw8992499363586612856:=0
def tw675448926485028856:=0
def tw1886113380000965515:=0
def tw7610800034135902371:=0
def tw16535307767666179831:=0
def tw12053816737091846656:=0
def tw2866798566755363976:=0
def tw15900389483552006454:=0
def tw194972521293273725:=0
def tw12543705044272973493:=0
def tw3356833100947978297:=0
def tw12380269879817360560:=0
def tw3699920236797489900:=0
def tw14664098504759733146:=0
def tw11139131784010526256:=0
def tw9368035909439070610:=0
def tw8155297342737797243:=0
def tw127517584533809056:=0
def tw8723736132709613319:=0
def tw7544292745352916198:=0
def tw11969803702612251457:=0
def tw17193949238016299991:=0
def tw5042009590286334867:=0
def tw206785000688581150:=0
def tw556280379588333211:=0
def tw12918233880882043367:=0
def tw11404050381739840862:=0
def tw4154601240269302258:=0
def tw1873795417229156833:=0
def tw12976118316629127234:=0
def tw10120886008061782770:=0
def tw12937585674544921593:=0
def tw14210244424074434965:=0
def tw924775515430077526:=0
def tw2672122245947042976:=0
def tw7077650028717503357:=0
def tw18155068468354126308:=0
def tw7561578276793281128:=0
def tw7505665836249914068:=0
def tw12070616660660639362:=0
def tw1126910321150660931:=0
def tw12210743664267365254:=0
def tw9363305846720551896:=0
def tw14108514938398395933:=0
def tw14563236761615096530:=0
def tw4340662466781381891:=0
def tw2590879614343036507:=0
def tw12027192889819115711:=0
def tw5546741946771035047:=0
def tw16286628410161372372:=0
def tw14762346181902544206:=0
def tw17609107648246730854:=0
def tw4800350236231627894:=0
def tw18177030438575864187:=0
def tw8997348874767883833:=0
def tw5111794079165239115:=0
def tw852281963230857248:=0
def tw15731694622704826520:=0
def tw12134793396718041250:=0
def tw10249696158841858296:=0
def tw13256179218996703300:=0
def tw7299441829789142246:=0
def tw11909713219545949902:=0
def tw7092630125560930656:=0
def tw4027033380388073823:=0
def tw5585224227297363827:=0
def tw13914065239274026970:=0
def tw16882581043295644939:=0
def tw17207536835212130425:=0
def tw13443477195577370165:=0
def tw16742876570945298050:=0
def tw6019987070006077676:=0
def tw10250089701000417625:=0
def tw7016573724471424020:=0
def tw8747305777544666719:=0
def tw11662590145331683486:=0
def tw5593082025425382837:=0
def tw12172809279593518474:=0
def tw9136322687324553613:=0
def tw12150874758246242365:=0
def tw13403381406823077071:=0
def tw12761586390833611469:=0
def tw5133349198963137190:=0
def tw8678323254144048854:=0
def tw1077118795132841361:=0
def tw7927783293347307695:=0
def tw659109794623668610:=0
def tw15593825981829005083:=0
def tw11428621262250011020:=0
def tw2155273783722987468:=0
def tw8653212572935255212:=0
def tw10590686203312876021:=0
def tw7194969654263438301:=0
def tw7502211412789427758:=0
def tw14874958160446827365:=0
def tw11620107643027308004:=0
def tw11674264222167853421:=0
def tw13456908280418796111:=0
def tw129636888407995063:=0
def tw2515233180624921412:=0
def tw9164913839693935155:=0
def tw8075369447869304126:=0
def tw8334507245204454531:=0
def tw5582731430826064963:=0
def tw15431288673299744725:=0
def tw14068760131304928006:=0
def tw997461190158052307:=0
def tw14297275063537492240:=0
def tw10975630156361563559:=0
def tw17638447167508014090:=0
def tw16692112773819774516:=0
def tw14718518669338405163:=0
def tw11295098013697051618:=0
def tw5435190544015224519:=0
def tw8028734811241739920:=0
def tw5286114840318353808:=0
def tw13260478825774701748:=0
def tw477823359034458226:=0
def tw4758311100098633181:=0
def tw15130075903373504049:=0
def tw8949833560528102895:=0
def tw7517906377275318475:=0
def tw6015624357321942482:=0
def tw1637762008589349421:=0
def tw3931847775160069708:=0
def tw2155743361661902927:=0
def tw13506951491738371889:=0
def tw16058070285928476159:=0
def tw14975858800791756144:=0
def tw5360585821031506534:=0
def tw1394384273791787652:=0
def tw9878473772062664996:=0
def tw137720942994646360:=0
def tw11660380832310844747:=0
def tw16348531849918563703:=0
def tw8270756336336031839:=0
def tw7827295683944339236:=0
def tw11179537986991362785:=0
def tw5706407798070491603:=0
def tw17512930744374102645:=0
def tw9426114167978460756:=0
def tw17222032799097592529:=0
def tw4309928213385102000:=0
def tw16832862665512090054:=0
def tw3512537900894349983:=0
def tw8280643255983191928:=0
def tw9191308541541038383:=0
def tw11977901848459038568:=0
def tw14510916502716742485:=0
def tw6951178692696218067:=0
def tw11717571496407972462:=0
def tw8138730745200205768:=0
def tw3586341280013480316:=0
def tw12175232359977461612:=0
def tw81561595061476121:=0
def tw7131671629178433825:=0
def tw15105820365524976513:=0
def tw11006544607997035173:=0
def tw17678905666887167211:=0
def tw7363226447181440925:=0
def tw12136095436964536274:=0
def tw2341624118332727415:=0
def tw12826127330278608767:=0
def tw10902307772742983495:=0
def tw15388050951110295371:=0
def tw9222114708003778892:=0
def tw6646830466456668830:=0
def tw168792340453516481:=0
def tw5946928661585769623:=0
def tw12575277692018018153:=0
def tw14195068886639372892:=0
def tw5195357286549062555:=0
def tw6798787565805860594:=0
def tw9397452107124931067:=0
def tw749796997780044025:=0
def tw4427915444188970376:=0
def tw9099353092731966108:=0
def tw17078559646584680437:=0
def tw244262037541307471:=0
def tw396349075036715902:=0
def tw18047700765492063993:=0
def tw18188667499097201245:=0
def tw5662098055553677731:=0
def tw141721705517633562:=0
def tw17711677008624506509:=0
end PySem.W.Fast
theorem bS {α β}{o:Option α}{f:α->Option β}{b}(h:o.bind f=Za b):∃a,o=Za a/\f a=Za b:=Option.bind_eq_some_iff.mp h
theorem sI {α}{a b:α}(h:Za a=Za b):a=b:=Option.some.inj h
namespace L2
open PySem PySem.Spec PyProof.Rows
theorem aG {P:Prop}(h:∀G:Prop,(P->G)->G):P:=h P id
end L2
set_option hygiene false
local macro_rules | `(tactic| nofun) => `(tactic| refine L2.aG fun _ qG=>?_)
local macro_rules | `(tactic| ac_rfl) => `(tactic| (refine qG ?_;clear qG))
local macro_rules | `(#v[$x]) => `((gArg (gC (.int $x))))
local macro_rules | `(#v[$x,0]) => `(some (.int $x,false))
local macro_rules | `(#v[$x,1]) => `(some (.lst $x,false))
local macro_rules | `(#v[$x,2]) => `(some (.lst $x,true))
local macro_rules | `(#v[$x,3]) => `(some (.tup $x,false))
local macro_rules | `(#v[$x,4]) => `((gArg (gVar $x)))
local macro_rules | `(#v[$x,5]) => `(some ($x,true))
local macro_rules | `(#v[$x,6]) => `(some ($x,false))
local macro_rules | `(#v[0,0,0]) => `((oI yes2 fun i j=>.int (i - j)))
local macro_rules | `(#v[0,0,1]) => `((oI cPow fun i j=>.int (i * 2 ^ j.toNat)))
local macro_rules | `(#v[0,0,2]) => `((oI (fun _ j=>decide (0 < j)) fun i j=>.int (i % j)))
local macro_rules | `(#v[0,0,3]) => `((oI cDiv fun i j=>.int (i / j)))
local macro_rules | `(#v[]) => `((by symm))
local macro_rules | `(#v[0,0,5]) => `(⟨by kernel_rfl,by kernel_rfl,by kernel_rfl,by decide +kernel,rfl,by decide +kernel,by decide +kernel⟩)
local macro_rules | `(#v[0,9]) => `((by decide))
local macro_rules | `(#v[0,0,7]) => `((by decide +kernel))

set_option hygiene true
namespace L2
open PySem PySem.Spec PyProof.Rows
noncomputable abbrev Key:=Sum Int Str
noncomputable def zrv:Key->Ze->Bool
 |.inl k,v=>Ze.isInt k v
 |.inr x,v=>Ze.isStrOf x v
noncomputable def keyH (w:World):Key->Int
 |.inl k=>hashInt k
 |.inr x=>hashStr w x
theorem keyIs_shape:∀{k:Key}{v:Ze},zrv k v=Zd->(∃i t,k=Sum.inl i/\v=Ze.int i t)\/(∃x t,k=Sum.inr x/\v=Ze.str x t)
 | .inl i,v,h=>by
  obtain⟨t,e⟩:=Ze.isInt_shape (k:=i) (v:=v) h;exact .inl ⟨i,t,rfl,e⟩
 | .inr x,v,h=>by
  obtain⟨t,e⟩:=Ze.isStrOf_shape (x:=x) (v:=v) h;exact .inr ⟨x,t,rfl,e⟩
theorem zsj (i:Int)(t:Tok):zrv (.inl i) (.int i t)=Zd:=by simp [zrv,Ze.isInt]
theorem zw7 (x:Str)(t:Tok):zrv (.inr x) (.str x t)=Zd:=by simp [zrv,Ze.isStrOf]
theorem z8z (a b:Int):decide ((Sum.inl a:Key)=Sum.inl b)=(a==b):=by
 by_cases e:a=b
 ·subst e;simp
 ·have h : ¬ (Sum.inl a:Key)=Sum.inl b:=λq=>e (Sum.inl.inj q);rw[At h];exact (El.mpr e).symm
theorem z8j (a b:Str):decide ((Sum.inr a:Key)=Sum.inr b)=decide (a=b):=by
 by_cases e:a=b
 ·subst e;simp
 ·have h : ¬ (Sum.inr a:Key)=Sum.inr b:=λq=>e (Sum.inr.inj q);rw[At h,At e]
theorem z8d (a:Int)(b:Str):decide ((Sum.inl a:Key)=Sum.inr b)=Zc:=At (λq=>nomatch q)
theorem yaz (a:Str)(b:Int):decide ((Sum.inr a:Key)=Sum.inl b)=Zc:=At (λq=>nomatch q)
noncomputable def zbl (prog:Program) (w:World):PySem.KeyKind prog w Key where
 is:=zrv
 hash:=keyH w
 inj:=λv a b f d=>by
  rcases keyIs_shape f with⟨i,t,rfl,rfl⟩|⟨x,t,rfl,rfl⟩
  ·rcases keyIs_shape d with⟨j,u,rfl,e⟩|⟨y,u,rfl,e⟩
   ·injection e with e1 _;rw[e1]
   ·exact nomatch e
  ·rcases keyIs_shape d with⟨j,u,rfl,e⟩|⟨y,u,rfl,e⟩
   ·exact nomatch e
   ·injection e with e1 _;rw[e1]
 byValue:=λk v h=>by
  rcases keyIs_shape h with⟨i,t,rfl,rfl⟩|⟨x,t,rfl,rfl⟩<;>rfl
 pyHash:=λc h=>by
  rcases keyIs_shape c with⟨i,t,rfl,rfl⟩|⟨x,t,rfl,rfl⟩
  ·exact wpAny_pyHash_int h
  ·exact wpAny_pyHash_str h
 eqBool:=λg c h=>by
  rcases keyIs_shape g with⟨i,t,rfl,rfl⟩|⟨x,t,rfl,rfl⟩
  ·rcases keyIs_shape c with⟨j,u,rfl,rfl⟩|⟨y,u,rfl,rfl⟩
   ·rw[z8z] at h;exact wpAny_eqBool_int h
   ·rw[z8d] at h;exact SeqAt.EqAt.int_str i t y u _ _ _ _ h
  ·rcases keyIs_shape c with⟨j,u,rfl,rfl⟩|⟨y,u,rfl,rfl⟩
   ·rw[yaz] at h;exact SeqAt.EqAt.str_int x t j u _ _ _ _ h
   ·rw[z8j] at h;exact wpAny_eqBool_str h
 «strs»:=λk x t v h=>by
  rcases keyIs_shape h with⟨i,u,rfl,e⟩|⟨y,u,rfl,e⟩
  ·exact nomatch e
  ·injection e with e1 _;subst e1;cases v<;>rfl
theorem zmp (prog:Program)(w:World)(i:Int)(t:Tok):(zbl prog w).is (.inl i) (.int i t)=Zd:=zsj i t
theorem znx (prog:Program)(w:World)(x:Str)(t:Tok):(zbl prog w).is (.inr x) (.str x t)=Zd:=zw7 x t
inductive V where
 |non|bl (b:Bool)|int (i:Int)|str (x:Str)|byt (b:Array UInt8)|flt (b:UInt64)|ref (a:Zh)|ty (n:String)
 deriving DecidableEq
noncomputable def RelV:V->Ze->Prop
 |.non,u=>u=Ze.none
 |.bl b,u=>u=Ze.bool b
 |.int i,u=>∃t,u=Ze.int i t
 |.str x,u=>∃t,u=Ze.str x t
 |.byt b,u=>∃t,u=Ze.bytes b t
 |.flt b,u=>∃t,u=Ze.float b t
 |.ref a,u=>u=Ze.ref a
 |.ty n,u=>u=Ze.type n
noncomputable abbrev Vals:List V->List Ze->Prop:=Paired RelV
theorem Vals.length {xs:List V}{u:List Ze}(r:Vals xs u):xs.length=u.length:=Paired.length r
theorem Vals.get:∀{xs:List V}{a:List Ze}{i:Nat}{x:V},Vals xs a->xs[i]?=Za x->∃u,a[i]?=Za u/\RelV x u
 |_,_,_,_,.nil,e=>by simp at e
 |_,_,0,_,.cons r _,e=>by simp at e;subst e;exact⟨_,rfl,r⟩
 | _,_,i+1,x,.cons _ t,e=>by
  obtain⟨u,h,b⟩:=Vals.get (i:=i) (x:=x) t (by simpa using e);exact⟨u,by simpa using h,b⟩
theorem Vals.set {x:V}{u:Ze}(r:RelV x u):∀{xs:List V}{a:List Ze} (i:Nat),Vals xs a->Vals (xs.set i x) (a.set i u)
 |_,_,_,.nil=>.nil
 |_,_,0,.cons _ t=>.cons r t
 |_,_,i+1,.cons q t=>.cons q (Vals.set r i t)
theorem Vals.append:∀{xs ys:List V}{u ws:List Ze},Vals xs u->Vals ys ws->Vals (xs++ys) (u++ws)
 |_,_,_,_,.nil,s=>s
 |_,_,_,_,.cons r t,s=>.cons r (Vals.append t s)
theorem Vals.take:∀{xs:List V}{u:List Ze} (n:Nat),Vals xs u->Vals (xs.take n) (u.take n)
 |_,_,0,_=>.nil
 |_,_,_+1,.nil=>.nil
 |_,_,n+1,.cons r t=>.cons r (Vals.take n t)
theorem Vals.drop:∀{xs:List V}{u:List Ze} (n:Nat),Vals xs u->Vals (xs.drop n) (u.drop n)
 |_,_,0,r=>r
 |_,_,_+1,.nil=>.nil
 |_,_,n+1,.cons _ t=>Vals.drop n t
noncomputable def RelO:Option V->Option Ze->Prop
 |some v,Za u=>RelV v u
 |none,Zb=>True
 |_,_=>False
noncomputable def KV {κ:Type}:List (κ×V)->List (κ×Ze)->Prop:=Paired λ(p:κ×V) (q:κ×Ze)=>p.1=q.1/\RelV p.2 q.2
noncomputable def kV:Key->V
 |.inl i=>.int i
 |.inr x=>.str x
inductive HO where
 /-- a list -/
 |lst (xs:List V)
 /-- a tuple (never changes) -/
 |tup (xs:List V)
 /-- a dict whose keys are ints and texts;one whose keys are tuples of ints and texts (the empty one is both) -/
 |dK (kvs:List (Key×V))|dT (kvs:List (List Key×V))
 /-- a set of ints: its members,its size -/
 |set (S:Int->Bool) (n:Nat)
 /-- an instance of the class at C,its dict at dx,its attributes -/
 |ins (C dx:Zh) (fs:List (Str×V))
 /-- the dict of the instance at x -/
 |own (x:Zh)
 /-- the dict of an exception -/
 |xd (fs:List (Str×V))
 /-- a bound method,f of x -/
 |met (f x:Zh)
 /-- a range object lo,lo+1,.. below hi -/
 |rng (lo hi:Int)
 /-- a thing that is known to the object (the script;a dict while a loop walks it): read,never written while it is so -/
 |frz (o:Obj) (u:HO)
 /-- a code object's table -/
 |tbl (ps:Array Ze)
 /-- any other thing,by what is Zd of its one object (a def of one's own: SetO a S n:=HO.ext λh=>..) -/
 |ext (φ:Heap->Prop)
noncomputable abbrev Hp:=Zh->Option HO
noncomputable def upd (H:Hp) (a:Zh) (o:HO):Hp:=λb=>if b=a then Za o else H b
theorem upd_same:upd H a o a=Za o:=by unfold upd;rw[if_pos rfl]
theorem upd_ne (h:b≠a):upd H a o b=H b:=by unfold upd;rw[if_neg h]
theorem zac {H:Hp}{a b:Zh}{o:HO}(h:H a=Za o)(h':H b=Zb):a≠b:=by
 intro e;subst e;rw[h] at h';cases h'
noncomputable def zkz (h:Heap) (a:Zh) (items:Array Ze):Prop:=∃o,h.get? a=Za o/\(o.cls=.type "tuple"/\∃n,o.data=.seq items n)/\o.dict=Zb
theorem zkz.t (x:zkz h a items):IsTup h a items:=let ⟨o,e,r,_⟩:=x;⟨o,e,r⟩
theorem zkz.new (h:Heap)(items:Array Ze):zkz (h.push { cls:=.type "tuple",data:=.seq items }) h.objs.size items:=⟨_,An _ rfl,⟨rfl,_,rfl⟩,rfl⟩
section
variable (P:Program) (w:World)
noncomputable def zbm (H:Hp) (h:Heap) (a:Zh):HO->Prop
 |.lst b=>b.length<=sizeLine/\∃(i:List Ze) (n:Nat),Vals b i/\h.get? a=Za { cls:=.type "list",data:=.seq i.toArray n }
 |.tup b=>b.length<=sizeLine/\∃i:List Ze,Vals b i/\zkz h a i.toArray
 |.dK kvs=>kvs.length<=sizeLine/\(a==sysModules)=Zc/\∃g,KV kvs g/\h.DictOf (zbl P w) a g
 | .dT kvs=>kvs.length<=sizeLine/\(a==sysModules)=Zc/\∃b:List (List Key×Zh×Ze),
  Paired (λ(p:List Key×V) (q:List Key×Zh×Ze)=>p.1=q.1/\H q.2.1=Za (.tup (p.1.map kV))/\RelV p.2 q.2.2) kvs b /\
  ∃o e s,h.get? a=Za o/\o.ExactDict/\o.data=.dict e s/\e.toList=b.map (entryOfKey (tupleKind (zbl P w)))/\(b.map (·.1)).Nodup
 |.set S n=>h.SetOf (intKind P w) a S n
 | .ins C d fs=>H d=Za (.own a)/\fs.length<=1000/\d≠a/\h.get? a=Za (PySem.W.instObj C d) /\
  ∃m,h.Ns1 d m/\(∀f,RelO (fs.lookup f) (m f))/\PySem.Within m (fs.map (·.1))
 |.own _=>∃o,h.get? a=Za o
 |.xd fs=>∃m,h.Ns1 a m/\∀f,RelO (fs.lookup f) (m f)
 |.rng r k=>∃t u v,h.get? a=Za { cls:=.type "range",data:=.fields #[.int r t,.int k u,.int 1 v] }
 |.frz o u=>h.get? a=Za o/\zbm H h a u
 |.tbl l=>h.get? a=Za { cls:=.none,data:=.fields l }
 |.met f x=>h.get? a=Za (PySem.W.methodObj (.ref f) (.ref x))
 |.ext φ=>φ h/\(∃o,h.get? a=Za o)/\∀j c:Heap,φ j->(∀o,j.get? a=Za o->c.get? a=Za o)->φ c
noncomputable def HOk (H:Hp) (h:Heap):Prop:=∀a o,H a=Za o->zbm P w H h a o
end
section
variable {P:Program}{w:World}{H H' : Hp}{h h' : Heap}{a:Zh}{o:HO}
theorem zbm.lt (x:zbm P w H h a o):a<h.objs.size:=by
 cases o with
 |lst b=>obtain⟨_,_,_,_,e⟩:=x;exact Am e
 |tup b=>obtain⟨_,_,_,p⟩:=x;exact p.t.lt
 |dK kvs=>obtain⟨_,_,_,_,o,_,_,e,_⟩:=x;exact Am e
 |dT kvs=>obtain⟨_,_,_,_,o,_,_,e,_⟩:=x;exact Am e
 |set S n=>obtain⟨o,_,_,_,e,_⟩:=x;exact Am e
 |ins C i fs=>obtain⟨_,_,_,e,_⟩:=x;exact Am e
 |own y=>obtain⟨_,e⟩:=x;exact Am e
 |xd fs=>obtain⟨_,⟨_,_,_,e,_⟩,_⟩:=x;exact Am e
 |rng l c=>obtain⟨_,_,_,e⟩:=x;exact Am e
 |frz g u=>obtain⟨e,_⟩:=x;exact Am e
 |tbl d=>exact Am (show h.get? a=Za _ from x)
 |met f y=>exact Am (show h.get? a=Za _ from x)
 |ext φ=>obtain⟨_,⟨_,e⟩,_⟩:=x;exact Am e
theorem Paired.mapP {α β:Type}{F G:α->β->Prop}:∀{l₁:List α}{l:List β},Paired F l₁ l->(∀a b,F a b->G a b)->Paired G l₁ l
 |_,_,.nil,_=>.nil
 |_,_,.cons r t,f=>.cons (f _ _ r) (Paired.mapP t f)
theorem zbm.stay (x:zbm P w H h a o) (k:∀b u,(b=a\/H b=Za (.own a))->h.get? b=Za u->h'.get? b=Za u)
  (D:∀b,H b=Za (.own a)->H' b=Za (.own a)) (I:∀b xs,H b=Za (.tup xs)->H' b=Za (.tup xs)):zbm P w H' h' a o:=by
 induction o with
 |lst xs=>obtain⟨z,l,n,r,e⟩:=x;exact⟨z,l,n,r,k _ _ (.inl rfl) e⟩
 |tup xs=>obtain⟨z,l,r,g,e,c⟩:=x;exact⟨z,l,r,g,k _ _ (.inl rfl) e,c⟩
 |dK kvs=>obtain⟨z,y,E,r,g,j,i,e,c⟩:=x;exact⟨z,y,E,r,g,j,i,k _ _ (.inl rfl) e,c⟩
 | dT kvs =>
  obtain⟨z,y,xs,r,g,j,i,e,c⟩:=x;exact⟨z,y,xs,Paired.mapP r λp q z=>⟨z.1,I _ _ z.2.1,z.2.2⟩,g,j,i,k _ _ (.inl rfl) e,c⟩
 |set S n=>obtain⟨g,j,i,t,e,c⟩:=x;exact⟨g,j,i,t,k _ _ (.inl rfl) e,c⟩
 | ins C M fs =>
  obtain⟨d,z,G,e,s,⟨m,j,i,F,c⟩,r⟩:=x;exact⟨D _ d,z,G,k _ _ (.inl rfl) e,s,⟨m,j,i,k _ _ (.inr d) F,c⟩,r⟩
 |own y=>obtain⟨g,e⟩:=x;exact⟨g,k _ _ (.inl rfl) e⟩
 |xd fs=>obtain⟨s,⟨m,j,i,e,c⟩,r⟩:=x;exact⟨s,⟨m,j,i,k _ _ (.inl rfl) e,c⟩,r⟩
 |rng L K=>obtain⟨t,u,v,e⟩:=x;exact⟨t,u,v,k _ _ (.inl rfl) e⟩
 |frz g u J=>obtain⟨e,q⟩:=x;exact⟨k _ _ (.inl rfl) e,J q⟩
 | tbl A =>
  have e:h.get? a=Za { cls:=.none,data:=.fields A }:=x;show h'.get? a=Za { cls:=.none,data:=.fields A };exact k a _ (.inl rfl) e
 | met f y =>
  have e:h.get? a=Za (PySem.W.methodObj (.ref f) (.ref y)):=x;show h'.get? a=Za (PySem.W.methodObj (.ref f) (.ref y));exact k a _ (.inl rfl) e
 |ext φ=>obtain⟨p,⟨o,e⟩,B⟩:=x;exact⟨B _ _ p λo q=>k _ _ (.inl rfl) q,⟨o,k _ _ (.inl rfl) e⟩,B⟩
theorem HOk.lt (x:HOk P w H h)(e:H a=Za o):a<h.objs.size:=(x a o e).lt
theorem HOk.fresh (x:HOk P w H h)(e:h.objs.size<=a):H a=Zb:=by
 cases q:H a with
 |none=>rfl
 |some u=>exact absurd (Bc (x.lt q) e) (Bp _)
theorem HOk.kept (x:HOk P w H h)(k:∀b u,h.get? b=Za u->h'.get? b=Za u):HOk P w H h':=λa o e =>
 (x a o e).stay (λb u _ q=>k b u q) (λ_ q=>q) λ_ _ q=>q
theorem HOk.laid (x:HOk P w H h)(k:∀b u,h.get? b=Za u->h'.get? b=Za u)(g:h.objs.size<=a)(new:zbm P w (upd H a o) h' a o):HOk P w (upd H a o) h':=λb u e=>by
 have f:=x.fresh g;by_cases d:b=a
 ·subst d;rw[upd_same] at e;obtain rfl:=sI e;exact new
 ·rw[upd_ne d] at e;exact (x b u e).stay (λc v _ q=>k c v q) (λc q=>by rw[upd_ne (zac q f)];exact q) λc i q=>by rw[upd_ne (zac q f)];exact q
end
noncomputable def Rd (H:Hp) (a:Zh) (u:HO):Prop:=H a=Za u\/∃o,H a=Za (.frz o u)
theorem Rd.ok {w:World}{u:HO}(r:Rd H a u)(x:HOk P w H h):zbm P w H h a u:=by
 rcases r with r|⟨o,r⟩
 ·exact x a u r
 ·obtain⟨_,q⟩:=x a _ r;exact q
noncomputable def Mut:Option HO->Prop
 |some (.lst _)=>True
 |some (.dK _)=>True
 |some (.dT _)=>True
 |some (.set _ _)=>True
 |some (.ins _ _ _)=>True
 |some (.ext _)=>True
 |_=>False
section
variable {w:World}{x e:Zh}
theorem HOk.write (ok:HOk P w H h) (m:Mut (H x)) (o:e=x\/H e=Za (.own x)) (k:∀b u,b≠e->h.get? b=Za u->h'.get? b=Za u) (j:∃u,h'.get? e=Za u)
  (new:zbm P w (upd H x o') h' x o'):HOk P w (upd H x o') h':=λb u q=>by
 have n:∀c y,H c=Za (.own y)->c≠x:=λc y r z=>by subst z;rw[r] at m;exact m
 have d:∀c i,H c=Za (.tup i)->c≠x:=λc i r z=>by subst z;rw[r] at m;exact m
 by_cases f:b=x
 ·subst f;rw[upd_same] at q;obtain rfl:=sI q;exact new
 ·rw[upd_ne f] at q;by_cases a:b=e
  ·have l:H b=Za (.own x):=by
    rcases o with z|z
    ·exact absurd (a.trans z) f
    ·rw[a];exact z
   rw[q] at l;obtain rfl:=sI l;obtain⟨v,p⟩:=j;exact⟨v,by rw[a];exact p⟩
  ·refine (ok b u q).stay (λc v g r=>k c v ?_ r) (λc r=>by rw[upd_ne (n c b r)];exact r) λc i r=>by rw[upd_ne (d c i r)];exact r
   rcases g with rfl|g
   ·exact a
   ·rintro rfl;rcases o with z|z
    ·exact n c b g z
    ·rw[g] at z;cases z;exact f rfl
end
structure Un (fs ex:List Zh) (H H':Hp) (h h':Heap):Prop where
 keep:∀b o,h.get? b=Za o->H b=Zb->b ∉ fs->b ∉ ex->h'.get? b=Za o
 slot:∀b o,h.get? b=Za o->H b=Zb->b∈fs->b ∉ ex->∃sl,h'.get? b=Za { o with slots:=sl }
 free:∀b o,h.get? b=Za o->H b=Zb->b ∉ ex->H' b=Zb
 there:∀b o,h.get? b=Za o->b ∉ ex->∃o',h'.get? b=Za o'
 tups:∀b xs,H b=Za (.tup xs)->H' b=Za (.tup xs)
 frzs:∀b o u,H b=Za (.frz o u)->H' b=Za (.frz o u)
 tbls:∀b ps,H b=Za (.tbl ps)->∃more,H' b=Za (.tbl (ps++more))
section
variable {fs fs' ex ex' : List Zh}{H H1 H2:Hp}{h h1 h2 h' : Heap}{a x e:Zh}{o:HO}
theorem Un.any (u:Un fs ex H H1 h h1){o:Obj}(q:h.get? b=Za o)(n:H b=Zb)(c:b ∉ ex):∃s,h1.get? b=Za { o with slots:=s }:=by
 by_cases a:b∈fs
 ·exact u.slot b o q n a c
 ·exact⟨o.slots,u.keep b o q n a c⟩
theorem Un.kept (k:∀b u,h.get? b=Za u->h'.get? b=Za u):Un fs ex H H h h' :=
 ⟨λb o q _ _ _=>k b o q,λb o q _ _ _=>⟨o.slots,k b o q⟩,λ_ _ _ n _=>n,λb o q _=>⟨o,k b o q⟩,λ_ _ q=>q,λ_ _ _ q=>q,λ_ p q=>⟨#[],by rw[q];simp⟩⟩
theorem Un.refl:Un fs ex H H h h:=Un.kept λ_ _ q=>q
theorem Un.laid (k:∀b u,h.get? b=Za u->h'.get? b=Za u)(d:h.objs.size<=a)(c:H a=Zb):Un fs ex H (upd H a o) h h' where
 keep:=λb u q _ _ _=>k b u q
 slot:=λb u q _ _ _=>⟨u.slots,k b u q⟩
 free:=λb u q n _=>by rw[upd_ne (Ba (Bc (Am q) d))];exact n
 there:=λb u q _=>⟨u,k b u q⟩
 tups:=λb x q=>by rw[upd_ne (zac q c)];exact q
 frzs:=λb u x q=>by rw[upd_ne (zac q c)];exact q
 tbls:=λb p q=>⟨#[],by rw[upd_ne (zac q c),q];simp⟩
theorem Un.write (m:Mut (H x))(j:e=x\/H e=Za (.own x))(k:∀b u,b≠e->h.get? b=Za u->h'.get? b=Za u)(d:∃u,h'.get? e=Za u):Un fs ex H (upd H x o) h h':=by
 have g:∀b,H b=Zb->b≠x:=λb n z=>by subst z;rw[n] at m;exact m
 have f:∀b,H b=Zb->b≠e:=λb n z=>by
  subst z;rcases j with r|r
  ·exact g b n r
  ·rw[n] at r;cases r
 have c:∀b u,H b=Za u->¬ Mut (Za u)->b≠x:=λb u q nm z=>by subst z;rw[q] at m;exact nm m
 refine⟨λb u q n _ _=>k b u (f b n) q,λb u q n _ _=>⟨u.slots,k b u (f b n) q⟩,λb u q n _=>by rw[upd_ne (g b n)];exact n,λb u q _=>?_,
  λb i q=>by rw[upd_ne (c b _ q λz=>z)];exact q,λb u i q=>by rw[upd_ne (c b _ q λz=>z)];exact q,λb p q=>⟨#[],by rw[upd_ne (c b _ q λz=>z),q];simp⟩⟩
 by_cases a:b=e
 ·subst a;exact d
 ·exact⟨u,k b u a q⟩
end
noncomputable def trk (h:Heap) (H:Hp):List Zh:=(List.range h.objs.size).filter λa=>(H a).isSome
noncomputable def hidT (h:Heap) (H:Hp):Heap:=PySem.W.hideAll h (trk h H)
theorem zsh (h:Heap)(H:Hp):(hidT h H).objs.size=h.objs.size:=PySem.W.hideAll_size _ _
theorem zz3 (e:h.get? b=Za o)(n:H b=Zb):(hidT h H).get? b=Za o :=
 PySem.W.hideAll_get _ e λa=>by
  have q:(H b).isSome=Zd:=(Bq.mp a).2;rw[n] at q;simp at q
theorem z5z (e:(hidT h H).get? b=Za o):h.get? b=Za o/\H b=Zb:=by
 have a:h.get? b=Za o:=PySem.W.of_hideAll (trk h H) e;refine⟨a,?_⟩;cases q:H b with
 |none=>rfl
 | some x =>
  have c:b∈trk h H:=Bq.mpr ⟨By.mpr (Am a),by simp [q]⟩;have z:(hidT h H).get? b=Zb:=PySem.W.hideAll_none (trk h H) c;rw[z] at e;cases e
noncomputable def z6z (g h:Heap) (L:Zh):List (Zh×Obj):=(List.range h.objs.size).filterMap λa=>if a=L\/(g.get? a).isSome=Zd then Zb else (h.get? a).map λo=>(a,o)
noncomputable def rest (g h:Heap) (L d:Zh):List (Zh×Obj):=(z6z g h L).filter λp=>decide (p.1≠d)
structure Mod (K:Zg) (mg:Str->Option Ze) (base:Heap):Prop where
 kin:K.In base
 glob:base.Ns mainGlobals mg
 blt:∃mb,base.Ns builtinsNs mb/\∀x:Str,x≠"__name__" -> mb x=bootBuiltins x
 nolimit:base.NoLimit
 bmn:∃(b:Zh) (ob:Obj),mg "__builtins__" = Za (.ref b)/\b≠builtinsNs/\base.get? b=Za ob/\ob.cls=.type "module"/\ob.dict=Za builtinsNs/\ob.data=.plain
structure Cx where
 prog:Program
 w:World
 K:Zg
 mg:Str->Option Ze
 base:Heap
 A:Around
 N:List Str
 s₀:Zf
 H₀:Hp
 env:Env
 outer:List Env
 stack:List Env
 ex:List Zh
 fn:Str->Bool
 calm:Bool
 pn:List (Zh×Obj)
 xe:Ze->Zf->Prop
noncomputable def frs (l:List Env):List Zh:=l.filterMap (·.frame)
noncomputable abbrev Cx.fs (X:Cx):List Zh:=frs X.outer
noncomputable def Vis (s:Scope) (x:Str):Prop:=s.names.lookup x=Za .local\/s.names.lookup x=Za .cell\/s.names.lookup x=Za .free
noncomputable def Loc (s:Scope) (x:Str):Prop:=s.names.lookup x=Za .local\/s.names.lookup x=Za .cell
noncomputable def Look (env:Env) (h:Heap) (m:Str->Option Ze) (x:Str) (u:Ze):Prop :=
 (env.kindOf x=Za .local/\m x=Za u)\/((env.kindOf x=Za .cell\/env.kindOf x=Za .free)/\∃c,env.cells.lookup x=Za c/\h.IsCell c (Za u))
structure Cx.Ok (X:Cx):Prop where
 mod:Mod X.K X.mg X.base
 kind:X.env.scope.kind=.function
 glob:X.env.globals=mainGlobals
 blt:X.env.builtins=builtinsNs
 above:X.s₀.heap.objs.size<=X.env.locals
 inj:∀x y c,X.env.cells.lookup x=Za c->X.env.cells.lookup y=Za c->x=y
 has:∀x,(X.env.kindOf x=Za .cell\/X.env.kindOf x=Za .free)->∃c,X.env.cells.lookup x=Za c
 cab:∀x c,X.fn x=Zd->X.env.cells.lookup x=Za c->X.s₀.heap.objs.size<=c
 hd:X.calm=Zd->X.A.handled=Zb
 frames:X.A.frames=Za X.stack
 stk:X.stack=X.outer\/(X.stack=X.env::X.outer/\X.env.frame=Za X.env.locals)
 exf:∀b∈X.ex,b≠X.env.locals/\∀x c,X.env.cells.lookup x=Za c->c≠b
 bs:∀b o,X.base.get? b=Za o->X.s₀.heap.get? b=Za o/\X.H₀ b=Zb
 bsz:X.base.objs.size<=X.s₀.heap.objs.size
 noex:∀b o,X.base.get? b=Za o->b ∉ X.ex
 exfs:∀b∈X.ex,b ∉ X.fs
 funs:X.s₀.heap.FunFrames X.base X.outer
 frf:∀b∈X.fs,X.H₀ b=Zb
structure Inv (X:Cx) (pins:List (Zh×Obj)) (σ:List (Option V)) (H:Hp) (s:Zf):Prop where
 ok:X.Ok
 os:s.os=X.s₀.os
 bare:AllBare s.gens
 base:Un X.fs X.ex X.H₀ H X.s₀.heap s.heap
 loc:∃m,s.heap.Ns X.env.locals m/\∀(i:Nat) (x:Str) (v:V),X.N[i]?=Za x->σ[i]?=Za (Za v)->Vis X.env.scope x->∃u,RelV v u/\Look X.env s.heap m x u
 cell:∀x c,X.env.cells.lookup x=Za c->∃v,s.heap.IsCell c v
 free:H X.env.locals=Zb
 freeC:∀x c,X.env.cells.lookup x=Za c->H c=Zb
 pin:∀p∈X.pn++pins,s.heap.get? p.1=Za p.2/\H p.1=Zb/\p.1≠X.env.locals/\p.1 ∉ X.fs/\∀v,p.2.data≠.cell v
 hok:HOk X.prog X.w H s.heap
 len:σ.length=X.N.length
section
variable {X:Cx}{pins:List (Zh × Obj)}{σ:List (Option V)}{H H' : Hp}{s:Zf}{h' : Heap}
theorem Cx.Ok.nofr (ok:X.Ok){b:Zh}{o:Obj}(e:X.base.get? b=Za o):b ∉ X.fs:=λh=>by
 have:=(ok.funs.mem h).1;rw[e] at this;cases this
theorem Inv.bs (I:Inv X pins σ H s):∀b o,X.base.get? b=Za o->s.heap.get? b=Za o/\H b=Zb:=λb o e =>
 ⟨I.base.keep b o (I.ok.bs b o e).1 (I.ok.bs b o e).2 (I.ok.nofr e) (I.ok.noex b o e),I.base.free b o (I.ok.bs b o e).1 (I.ok.bs b o e).2 (I.ok.noex b o e)⟩
theorem Inv.bk (I:Inv X pins σ H s):∀b o,X.base.get? b=Za o->s.heap.get? b=Za o:=λb o e=>(I.bs b o e).1
theorem Inv.mod (I:Inv X pins σ H s):Mod X.K X.mg X.base:=I.ok.mod
theorem Inv.kIn (I:Inv X pins σ H s):X.K.In s.heap:=I.ok.mod.kin.keeps I.bk
theorem Inv.lt (I:Inv X pins σ H s):X.env.locals<s.heap.objs.size:=let ⟨_,h,_⟩:=I.loc;h.lt
theorem Inv.sz (I:Inv X pins σ H s):X.s₀.heap.objs.size<=s.heap.objs.size:=Bu I.ok.above (Gk I.lt)
theorem Inv.nofs (I:Inv X pins σ H s)(h:s.heap.objs.size<=a):a ∉ X.fs:=λb=>by
 obtain⟨_,o,c,_⟩:=I.ok.funs.mem b;exact absurd (Bc (Am c) (Bu I.sz h)) (Bp _)
theorem Inv.cne (I:Inv X pins σ H s):∀x c,X.env.cells.lookup x=Za c->c≠X.env.locals:=λx c e z=>by
 obtain⟨v,o,b,d⟩:=I.cell x c e;obtain⟨m,⟨f,g,i,a,h,_⟩,_⟩:=I.loc;rw[z,a] at b;obtain rfl:=sI b;rw[h] at d;cases d
theorem Inv.funs (I:Inv X pins σ H s):s.heap.FunFrames X.base X.outer:=by
 have all:∀(l:List Env),(∀b∈frs l,b∈X.fs)->X.s₀.heap.FunFrames X.base l->s.heap.FunFrames X.base l:=by
  intro l
  induction l with
  |nil=>intro _ _;trivial
  | cons env r k =>
   intro d m;nofun;obtain⟨i,⟨L,o,c,g,f,n⟩,j⟩:=m;ac_rfl;have a:L∈X.fs:=d L (by unfold frs;rw[List.filterMap_cons,c];exact Au);obtain⟨p,e⟩:=I.base.slot L o f (I.ok.frf L a) a λz=>I.ok.exfs L z a;exact⟨i,⟨L,_,c,g,e,n⟩,k (λb h=>d b (by unfold frs;rw[List.filterMap_cons,c];exact Ap _ h)) j⟩
 exact all X.outer (λ_ h=>h) I.ok.funs
theorem Inv.stack (I:Inv X pins σ H s):s.heap.FunFrames X.base X.stack:=by
 rcases I.ok.stk with e|⟨e,a⟩
 ·rw[e];exact I.funs
 ·rw[e];obtain⟨m,h,_⟩:=I.loc;refine .cons (by rw[I.ok.kind];decide) a h ?_ I.funs;exact Heap.get?_none_of_le (Bu I.ok.bsz I.ok.above)
theorem Inv.stkSub (I:Inv X pins σ H s):∀b∈frs X.stack,b∈X.env.locals::X.fs:=λb h=>by
 rcases I.ok.stk with e|⟨e,a⟩
 ·rw[e] at h;exact Ap _ h
 ·rw[e] at h;unfold frs at h;rw[List.filterMap_cons,a] at h;exact h
theorem Inv.stkFree (I:Inv X pins σ H s):∀b∈frs X.stack,H b=Zb:=λb h=>by
 rcases Ak.mp (I.stkSub b h) with e|h
 ·rw[e];exact I.free
 ·obtain⟨_,o,a,_⟩:=I.ok.funs.mem h;exact I.base.free b o a (I.ok.frf b h) λz=>I.ok.exfs b z h
theorem Inv.step {g':Array GenState}{t':Nat}{d':Drawn}{ch:List Zh} (I:Inv X pins σ H s)
  (g:∀b∈ch,(b∈X.ex\/X.s₀.heap.objs.size<=b)/\b≠X.env.locals/\(∀x c,X.env.cells.lookup x=Za c->c≠b)/\∀p∈X.pn++pins,p.1≠b)
  (keep:∀b o,b≠X.env.locals->b ∉ X.fs->b ∉ ch->s.heap.get? b=Za o->H b=Zb->h'.get? b=Za o)
  (slot:∀b o,b≠X.env.locals->b∈X.fs->b ∉ ch->s.heap.get? b=Za o->H b=Zb->∃G,h'.get? b=Za { o with slots:=G }) (free:∀b o,b ∉ ch->s.heap.get? b=Za o->H b=Zb->H' b=Zb)
  (there:∀b o,b ∉ ch->s.heap.get? b=Za o->∃C,h'.get? b=Za C)
  (tups:∀b xs,H b=Za (.tup xs)->H' b=Za (.tup xs)) (frzs:∀b o u,H b=Za (.frz o u)->H' b=Za (.frz o u)) (tbls:∀b D,H b=Za (.tbl D)->∃more,H' b=Za (.tbl (D++more)))
  (U:∀m,s.heap.Ns X.env.locals m->h'.Ns X.env.locals m) (F:HOk X.prog X.w H' h') (Q:AllBare g') :
  Inv X pins σ H' { s with heap:=h',gens:=g',drawn:=d',toks:=t' }:=by
 have B:∀b o,X.s₀.heap.get? b=Za o->b≠X.env.locals:=λb o e=>Ba (Bc (Am e) I.ok.above);have j:∀b o,X.s₀.heap.get? b=Za o->b ∉ X.ex->b ∉ ch:=λb o e h w=>by
  rcases (g b w).1 with z|z
  ·exact h z
  ·exact absurd (Bc (Am e) z) (Bp _)
 have f:∀x c,X.env.cells.lookup x=Za c->∀v,s.heap.IsCell c v->h'.IsCell c v:=λx c e v ⟨o,y,E⟩=>by
  have a:c ∉ ch:=λz=>(g c z).2.2.1 x c e rfl;by_cases K:c∈X.fs
  ·obtain⟨G,q⟩:=slot c o (I.cne x c e) K a y (I.freeC x c e);exact⟨_,q,E⟩
  ·exact⟨o,keep c o (I.cne x c e) K a y (I.freeC x c e),E⟩
 refine⟨I.ok,I.os,Q,⟨λb o e n w h=>?_,λb o e n w h=>?_,λb o e n h=>?_,λb o e h=>?_,λb xs e=>tups b xs (I.base.tups b xs e),λb o xs e=>frzs b o xs (I.base.frzs b o xs e),λb D e=>?_⟩,?_,λx c e=>?_,?_,λx c e=>?_,λp L=>?_,F,I.len⟩
 ·exact keep b o (B b o e) w (j b o e h) (I.base.keep b o e n w h) (I.base.free b o e n h)
 ·obtain⟨G,t⟩:=I.base.slot b o e n w h;obtain⟨J,A⟩:=slot b _ (B b o e) w (j b o e h) t (I.base.free b o e n h);exact⟨J,A⟩
 ·obtain⟨C, t⟩:=I.base.there b o e h;exact free b C (j b o e h) t (I.base.free b o e n h)
 ·obtain⟨C, t⟩:=I.base.there b o e h;exact there b C (j b o e h) t
 ·obtain⟨S,t⟩:=I.base.tbls b D e;obtain⟨R,A⟩:=tbls b _ t;exact⟨S++R,by rw[A,Array.append_assoc]⟩
 ·obtain⟨m,P,T⟩:=I.loc;refine⟨m,U m P,λi x v t A O=>?_⟩;obtain⟨u,r,l⟩:=T i x v t A O;refine⟨u,r,?_⟩;rcases l with l|⟨k,c,e,z⟩
  ·exact .inl l
  ·exact .inr ⟨k,c,e,f x c e _ z⟩
 ·obtain⟨v,z⟩:=I.cell x c e;exact⟨v,f x c e v z⟩
 ·obtain⟨m,⟨o,_,_,y,_⟩,_⟩:=I.loc;exact free _ o (λz=>(g _ z).2.1 rfl) y I.free
 ·obtain⟨v,o,y,E⟩:=I.cell x c e;exact free c o (λz=>(g c z).2.2.1 x c e rfl) y (I.freeC x c e)
 ·obtain⟨e,n,M,N,d⟩:=I.pin p L;have a:p.1 ∉ ch:=λz=>(g p.1 z).2.2.2 p L rfl;exact⟨keep p.1 p.2 M N a e n,free p.1 p.2 a e n,M,N,d⟩
theorem Inv.un {t':Nat}(I:Inv X pins σ H s)(u:Un X.fs [] H H' s.heap h')(f:HOk X.prog X.w H' h'):Inv X pins σ H' { s with heap:=h',toks:=t' }:=by
 obtain⟨m,⟨o,q,v,g,r⟩,_⟩:=id I.loc;obtain⟨t,j⟩:=u.any g I.free (by simp);exact I.step (g':=s.gens) (d':=s.drawn) (ch:=[]) (λ_ z=>nomatch z) (λb o _ a _ e n=>u.keep b o e n a (by simp)) (λb o _ a _ e n=>u.slot b o e n a (by simp)) (λb o _ e n=>u.free b o e n (by simp)) (λb o _ e=>u.there b o e (by simp)) u.tups u.frzs u.tbls (λl k=>by
  obtain⟨p,d,c,h,i⟩:=k;rw[g] at h;obtain rfl:=sI h;exact⟨_,d,c,j,i⟩) f I.bare
theorem Inv.call {g':Array GenState}{t':Nat}{d':Drawn}{ch:List Zh} (I:Inv X pins σ H s) (u:Un (frs X.stack) ch H H' s.heap h') (g:HOk X.prog X.w H' h') (q:AllBare g')
  (d:∀b∈ch,(b∈X.ex\/X.s₀.heap.objs.size<=b)/\b≠X.env.locals/\(∀x c,X.env.cells.lookup x=Za c->c≠b)/\∀p∈X.pn++pins,p.1≠b) :
  Inv X pins σ H' { s with heap:=h',gens:=g',drawn:=d',toks:=t' }:=by
 obtain⟨m,⟨o,C,y,k,r⟩,_⟩:=id I.loc;obtain⟨A,f⟩:=u.any k I.free λz=>(d _ z).2.1 rfl;exact I.step (ch:=ch) d (λb o f l h e n=>u.keep b o e n (λz=>(Ak.mp (I.stkSub b z)).elim f l) h) (λb o _ _ h e n=>u.any e n h) (λb o h e n=>u.free b o e n h) (λb o h e=>u.there b o e h) u.tups u.frzs u.tbls (λw v=>by
  obtain⟨B,j,i,a,t⟩:=v;rw[k] at a;obtain rfl:=sI a;exact⟨_,j,i,f,t⟩) g q
theorem Inv.turned {t':Nat}{it:Zh} (I:Inv X pins σ H s) (k:∀b o,b≠it->s.heap.get? b=Za o->h'.get? b=Za o) (w:H it=Zb) (d:it≠X.env.locals)
  (A:it∈X.ex\/X.s₀.heap.objs.size<=it) (j:∀x c,X.env.cells.lookup x=Za c->c≠it) (g:∀p∈X.pn++pins,p.1≠it):Inv X pins σ H { s with heap:=h',toks:=t' }:=by
 have a:∀b u,H b=Za u->b≠it:=λb u e z=>by rw[z,w] at e;cases e
 refine I.step (g':=s.gens) (d':=s.drawn) (ch:=[it]) (λb f=>?_) (λb o _ _ h e _=>k b o (λz=>h (by simp [z])) e) (λb o _ _ h e _=>⟨o.slots,k b o (λz=>h (by simp [z])) e⟩) (λ_ _ _ _ n=>n)
  (λb o h e=>⟨o,k b o (λz=>h (by simp [z])) e⟩) (λ_ _ e=>e) (λ_ _ _ e=>e) (λb B e=>⟨#[],by rw[e];simp⟩) (λm l=>?_) (λb u e=>?_) I.bare
 ·have e:b=it:=by simpa using f
  subst e;exact⟨A,d,j,g⟩
 ·obtain⟨o,t,y,i,r⟩:=l;exact⟨o,t,y,k _ o (Ne.symm d) i,r⟩
 ·refine (I.hok b u e).stay (λc v h q=>k c v ?_ q) (λ_ q=>q) λ_ _ q=>q;rcases h with z|z
  ·rw[z];exact a b u e
  ·exact a c _ z
theorem Inv.tok (I:Inv X pins σ H s)(t:Nat):Inv X pins σ H { s with toks:=t }:=I.un (h':=s.heap) (t':=t) Un.refl I.hok
theorem Inv.kept {t':Nat}(I:Inv X pins σ H s)(k:∀b u,s.heap.get? b=Za u->h'.get? b=Za u):Inv X pins σ H { s with heap:=h',toks:=t' }:=I.un (Un.kept k) (I.hok.kept k)
theorem Inv.laid {t':Nat} (I:Inv X pins σ H s) (k:∀b u,s.heap.get? b=Za u->h'.get? b=Za u) (h:s.heap.objs.size<=a) (new:zbm X.prog X.w (upd H a o) h' a o) :
 Inv X pins σ (upd H a o) { s with heap:=h',toks:=t' }:=I.un (Un.laid k h (I.hok.fresh h)) (I.hok.laid k h new)
theorem Inv.write {x e:Zh}{t':Nat} (I:Inv X pins σ H s) (m:Mut (H x)) (a:e=x\/H e=Za (.own x)) (k:∀b u,b≠e->s.heap.get? b=Za u->h'.get? b=Za u) (h:∃u,h'.get? e=Za u)
 (new:zbm X.prog X.w (upd H x o) h' x o):Inv X pins σ (upd H x o) { s with heap:=h',toks:=t' }:=I.un (Un.write m a k h) (I.hok.write m a k h new)
theorem Inv.pins_of {pins':List (Zh×Obj)}(I:Inv X pins σ H s)(h:∀p∈pins',s.heap.get? p.1=Za p.2/\H p.1=Zb/\p.1≠X.env.locals/\p.1 ∉ X.fs/\∀v,p.2.data≠.cell v):Inv X pins' σ H s :=
 ⟨I.ok,I.os,I.bare,I.base,I.loc,I.cell,I.free,I.freeC,λp a=>(Cb.mp a).elim (λz=>I.pin p (List.mem_append_left _ z)) (h p),I.hok,I.len⟩
theorem zpr {N:List Str}(h:N.Nodup){i j:Nat}{x:Str}(a:N[i]?=Za x)(b:N[j]?=Za x):i=j:=by
 obtain⟨f,c⟩:=Ah.mp a;obtain⟨d,e⟩:=Ah.mp b;exact (List.getElem_inj h).mp (c.trans e.symm)
theorem zj8 {E:Ze->Zf->Prop}{i:Nat}{x:Str}{v:V}{u:Ze}{Q:Unit->Zf->Prop} (I:Inv X pins σ H s) (hN:X.N.Nodup) (N:X.N[i]?=Za x) (w:Loc X.env.scope x) (r:RelV v u)
  (h:∀s',Inv X pins (σ.set i (Za v)) H s'->(∃a,Heap.SameBut a s.heap s'.heap/\(a=X.env.locals\/X.env.cells.lookup x=Za a))->Q () s') (hf:X.fn x=Zd\/X.env.scope.names.lookup x=Za .local:=by first|exact .inl rfl|exact .inr rfl|assumption):wpAny M A (storeName X.env x u) Q E s:=by
 obtain⟨m,Z,hl⟩:=id I.loc;have P:(X.env.scope.kind == .class || (X.env.scope.kind == .module && X.env.locals != X.env.globals))=Zc:=by rw[I.ok.kind];rfl
 have D:i<σ.length:=by rw[I.len];exact (Ah.mp N).1
 have cne:=I.cne;have t:∀{a:Zh}{h' : Heap},(∃o,s.heap.get? a=Za o/\H a=Zb)->Heap.SameBut a s.heap h'->HOk X.prog X.w H h':=λ{a h'} ha f b ob e=>by
  obtain⟨_,_,B⟩:=ha;refine (I.hok b ob e).stay (λc W l q=>(f.2 c ?_).trans q) (λ_ q=>q) λ_ _ q=>q;rintro rfl;rcases l with rfl|l
  ·rw[B] at e;cases e
  ·rw[B] at l;cases l
 rcases w with F|F
 ·refine wpAny_storeName_local F Z (λh' hn' f => ?_) P;obtain⟨oL,_,_,hoL,_⟩:=id Z;refine h _ ⟨I.ok,I.os,I.bare,⟨λb o e n G w=>?_,λb o e n G w=>?_,I.base.free,λb o e w=>?_,I.base.tups,I.base.frzs,I.base.tbls⟩,⟨_,hn',λj y v' g C Y=>?_⟩,λy c e=>?_,I.free,I.freeC,λp hp=>?_,t ⟨oL,hoL,I.free⟩ f,by simpa using I.len⟩ ⟨_,f,.inl rfl⟩
  ·exact (f.2 b (Ba (Bc (Am e) I.ok.above))).trans (I.base.keep b o e n G w)
  ·obtain⟨sl,g⟩:=I.base.slot b o e n G w;exact⟨sl,(f.2 b (Ba (Bc (Am e) I.ok.above))).trans g⟩
  ·obtain⟨o', g⟩:=I.base.there b o e w;exact⟨o',(f.2 b (Ba (Bc (Am e) I.ok.above))).trans g⟩
  ·by_cases K : j = i
   ·subst K;rw[N] at g;obtain rfl:=sI g;rw[Dx D] at C;cases C;exact⟨u,r,.inl ⟨F,by simp⟩⟩
   ·rw[Dg (Ne.symm K)] at C;obtain⟨u',r',q⟩:=hl j y v' g C Y;refine⟨u',r',?_⟩;rcases q with⟨k,e⟩|⟨k,c,e,z⟩
    ·refine .inl ⟨k, ?_⟩;have:y≠x:=λe=>K (zpr hN g (e ▸ N));simp [this,e]
    ·exact .inr ⟨k,c,e,z.sameBut f (cne y c e)⟩
  ·obtain⟨W, z⟩:=I.cell y c e;exact⟨W,z.sameBut f (cne y c e)⟩
  ·obtain⟨e,n,T,nf,d⟩:=I.pin p hp;exact⟨(f.2 p.1 T).trans e,n,T,nf,d⟩
 ·have J:X.fn x=Zd:=by
   rcases hf with z|z
   ·exact z
   ·rw[z] at F;cases F
  obtain⟨c,l⟩:=I.ok.has x (.inl F);obtain⟨W,z⟩:=I.cell x c l;refine wpAny_storeName_cell I.ok.kind F l z (λh' O f=>?_);obtain⟨oc,L,R⟩:=id z;refine h { s with heap:=h' } ⟨I.ok,I.os,I.bare,⟨λb o e n G w=>?_,λb o e n G w=>?_,I.base.free,λb o e w=>?_,I.base.tups,I.base.frzs,I.base.tbls⟩,⟨m,Z.sameBut f (Ne.symm (cne x c l)),λj y v' g C Y=>?_⟩,λy U e=>?_,I.free,I.freeC,λp hp=>?_,t ⟨oc,L,I.freeC x c l⟩ f,by simpa using I.len⟩ ⟨c,f,.inr l⟩
  ·exact (f.2 b (Ba (Bc (Am e) (I.ok.cab x c J l)))).trans (I.base.keep b o e n G w)
  ·obtain⟨sl,g⟩:=I.base.slot b o e n G w;exact⟨sl,(f.2 b (Ba (Bc (Am e) (I.ok.cab x c J l)))).trans g⟩
  ·obtain⟨o', g⟩:=I.base.there b o e w;exact⟨o',(f.2 b (Ba (Bc (Am e) (I.ok.cab x c J l)))).trans g⟩
  ·by_cases K : j = i
   ·subst K;rw[N] at g;obtain rfl:=sI g;rw[Dx D] at C;cases C;exact⟨u,r,.inr ⟨.inl F,c,l,O⟩⟩
   ·rw[Dg (Ne.symm K)] at C;obtain⟨u',r',q⟩:=hl j y v' g C Y;refine⟨u',r',?_⟩;rcases q with q|⟨k,U,e,z'⟩
    ·exact .inl q
    ·refine .inr ⟨k,U, e,z'.sameBut f ?_⟩;rintro rfl;exact K (zpr hN g (I.ok.inj _ _ _ e l ▸ N))
  ·by_cases S : U = c
   ·subst S;exact⟨_,O⟩
   ·obtain⟨w2,z2⟩:=I.cell y U e;exact⟨w2,z2.sameBut f S⟩
  ·obtain⟨e,n,T,nf,d⟩:=I.pin p hp;refine⟨(f.2 p.1 ?_).trans e,n,T,nf,d⟩;intro q;rw[q,L] at e;have q' : oc=p.2:=sI e;exact d W (by rw[<-q'];exact R)
theorem zea {x:Str}{v:V}{u:Ze} (I:Inv X pins σ H s) (c:X.N.Nodup) (d:X.N[i]?=Za x) (b:Loc X.env.scope x) (r:RelV v u)
  (h:∀s',Inv X pins (σ.set i (Za v)) H s'->Q () s') (e:X.fn x=Zd\/X.env.scope.names.lookup x=Za .local:=by first|exact .inl rfl|exact .inr rfl|assumption):wpAny M A (storeName X.env x u) Q E s :=
 zj8 I c d b r (λs' a _=>h s' a) e
theorem Inv.call' {s':Zf} (I:Inv X pins σ H s) (f:s'.os=s.os) (u:Un (frs X.stack) ch H H' s.heap s'.heap) (h:HOk X.prog X.w H' s'.heap) (i:AllBare s'.gens)
  (a:∀b∈ch,(b∈X.ex\/X.s₀.heap.objs.size<=b)/\b≠X.env.locals/\(∀x c,X.env.cells.lookup x=Za c->c≠b)/\∀p∈X.pn++pins,p.1≠b):Inv X pins σ H' s':=by
 obtain⟨h',g,d,t,o⟩:=s';have e:o=s.os:=f;subst e;exact I.call (g':=g) (t':=t) (d':=d) u h i a
end
noncomputable abbrev XK:=Ze->Option Zh->Hp->Prop
noncomputable abbrev St:=List (Option V)
noncomputable abbrev VK:=V->Hp->Prop
noncomputable abbrev TE:=St->Hp->VK->Prop
noncomputable abbrev TT:=St->Hp->(Bool->Hp->Prop)->Prop
noncomputable abbrev TA:=St->Hp->(List V->Hp->Prop)->Prop
structure Ends where
 nx:St->Hp->Prop
 rt:VK
 bk:St->Hp->Prop:=λ_ _=>False
 ct:St->Hp->Prop:=λ_ _=>False
noncomputable abbrev TS:=Ends->St->Hp->Prop
noncomputable def EP (X:Cx) (pins:List (Zh×Obj)) (σ:St) (Q:VK) (u:Ze) (s':Zf):Prop:=∃v H,Inv X pins σ H s'/\RelV v u/\Q v H
noncomputable def TP (X:Cx) (pins:List (Zh×Obj)) (σ:St) (Q:Bool->Hp->Prop) (b:Bool) (s':Zf):Prop:=∃H,Inv X pins σ H s'/\Q b H
noncomputable def AP (X:Cx) (pins:List (Zh×Obj)) (σ:St) (Q:List V->Hp->Prop) (u:List Ze) (s':Zf):Prop:=∃v H,Inv X pins σ H s'/\Vals v u/\Q v H
noncomputable def SP (X:Cx) (pins:List (Zh×Obj)) (D:Ends) (f:Flow) (s':Zf):Prop :=
 match f with
 |.next=>∃a H,Inv X pins a H s'/\D.nx a H
 |.brk=>∃a H,Inv X pins a H s'/\D.bk a H
 |.cont=>∃a H,Inv X pins a H s'/\D.ct a H
 |.ret u=>∃v a H,Inv X pins a H s'/\RelV v u/\D.rt v H
noncomputable def PE (X:Cx) (e:Zi) (t:TE):Prop :=
 ∀(pins:List (Zh×Obj)) (s:Zf) (σ:St) (H:Hp) (Q:VK),Inv X pins σ H s->t σ H Q->wpAny #v[1,7] X.A (eval e X.env) (EP X pins σ Q) X.xe s
noncomputable def PT (X:Cx) (e:Zi) (t:TT):Prop :=
 ∀(pins:List (Zh×Obj)) (s:Zf) (σ:St) (H:Hp) (Q:Bool->Hp->Prop),Inv X pins σ H s->t σ H Q->wpAny #v[1,7] X.A (isTrue e X.env (eval e X.env)) (TP X pins σ Q) X.xe s
noncomputable def PW (X:Cx) (e:Zi) (t:TT):Prop :=
 ∀(w:Sem Ze) (pins:List (Zh×Obj)) (s:Zf) (σ:St) (H:Hp) (Q:Bool->Hp->Prop),Inv X pins σ H s->t σ H Q->wpAny #v[1,7] X.A (isTrue e X.env w) (TP X pins σ Q) X.xe s
theorem PW.pt {t:TT}(h:PW X e t):PT X e t:=h _
noncomputable def PA (X:Cx) (es:List Zi) (t:TA):Prop :=
 ∀(pos:Pos) (pins:List (Zh×Obj)) (s:Zf) (σ:St) (H:Hp) (Q:List V->Hp->Prop),Inv X pins σ H s->t σ H Q->wpAny #v[1,7] X.A (spliced (backTo pos (starEach es X.env))) (AP X pins σ Q) X.xe s
noncomputable def PS (X:Cx) (st:Stmt) (t:TS):Prop :=
 ∀(pins:List (Zh×Obj)) (s:Zf) (σ:St) (H:Hp) (D:Ends),Inv X pins σ H s->t D σ H->wpAny #v[1,7] X.A (exec st X.env) (SP X pins D) X.xe s
noncomputable def PSs (X:Cx) (st:List Stmt) (t:TS):Prop :=
 ∀(pins:List (Zh×Obj)) (s:Zf) (σ:St) (H:Hp) (D:Ends),Inv X pins σ H s->t D σ H->wpAny #v[1,7] X.A (execs st X.env) (SP X pins D) X.xe s
theorem thn {α:Type}{t:Sem α}{Q Q':α->Zf->Prop}{M:Model}{A:Around}{E:Ze->Zf->Prop}{s:Zf}(h:wpAny M A t Q E s)(b:∀a s,Q a s->Q' a s):wpAny M A t Q' E s:=Cv h b λ_ _ x=>x
section
variable {X:Cx}
theorem bin {a b:Zi}{t i:TE} (w:PE X a t) (j:PE X b i) {pins:List (Zh×Obj)}{s:Zf}{σ:St}{H:Hp}{R:V->V->Hp->Prop} (I:Inv X pins σ H s) (h:t σ H λx g=>i σ g λy c=>R x y c)
  {α:Type}{Q:α->Zf->Prop}{f:Ze->Ze->Sem α}
  (o:∀v u e x y c,Inv X pins σ c e->RelV x v->RelV y u->R x y c->wpAny #v[1,7] X.A (f v u) Q X.xe e) :
  wpAny #v[1,7] X.A (eval a X.env) (λv s₁=>wpAny #v[1,7] X.A (eval b X.env) (λu d=>wpAny #v[1,7] X.A (f v u) Q X.xe d) X.xe s₁) X.xe s:=by
 refine thn (w pins s σ H _ I h) λv p ⟨x,g,l,n,m⟩=>?_;refine thn (j pins p σ g _ l m) λu e ⟨y,c,k,r,q⟩=>?_;exact o v u e x y c k n r q
noncomputable def tVar (i:Nat):TE:=λσ H Q=>∃v,σ[i]?=Za (Za v)/\Q v H
noncomputable def tC (v:V):TE:=λ_ H Q=>Q v H
theorem zwr {x:Str}{pos:Pos}(k:X.N[i]?=Za x)(j:Vis X.env.scope x)(d:(x==("__debug__" : Str))=Zc:=by decide)(f:(x==("__classdict__" : Str))=Zc:=by decide):PE X (.Name x pos) (tVar i):=by
 intro pins s σ H Q I h;nofun;obtain⟨v,e,h⟩:=h;obtain⟨m,o,p⟩:=I.loc;obtain⟨u,r,l⟩:=p i x v k e j;ac_rfl;have fin:EP X pins σ Q u s:=⟨v,H,I,r,h⟩;rcases l with⟨b,n⟩|⟨b,c,g,a⟩
 ·exact wpAny_Name (wpAny_loadName_local I.ok.kind b o n fin) d
 ·rcases b with b|b
  ·exact wpAny_Name (wpAny_loadName_cell I.ok.kind b g a fin) d
  ·exact wpAny_Name (wpAny_loadName_free I.ok.kind b g a fin f) d
theorem ya6 {i j pos}:PE X (.Constant (.int i) j pos) (tC (.int i)):=λ_ _ _ H _ I h=>wpAny_Constant_int ⟨.int i,H,I.tok _,⟨_,rfl⟩,h⟩
theorem ycj {b j pos}:PE X (.Constant (.bool b) j pos) (tC (.bl b)):=λ_ _ _ H _ I h=>Constant_bool ⟨.bl b,H,I,rfl,h⟩
theorem ya7 {j pos}:PE X (.Constant .none j pos) (tC .non):=λ_ _ _ H _ I h=>Constant_none ⟨.non,H,I,rfl,h⟩
theorem ybg {x j pos}:PE X (.Constant (.str x) j pos) (tC (.str x)):=λ_ _ _ H _ I h=>Calls.Constant_str ⟨.str x,H,I.tok _,⟨_,rfl⟩,h⟩
noncomputable def Gl (X:Cx) (x:Str):Prop:=X.env.kindOf x=Za .globalImplicit
theorem z7h {pins:List (Zh×Obj)}{s:Zf}{σ:St}{x:Str}{u:Ze}{pos:Pos} (I:Inv X pins σ H s) (a:Gl X x) (b:X.mg x=Za u) (h:Q u s)
  (c:(x==("__debug__" : Str))=Zc:=by decide):wpAny #v[1,7] X.A (eval (.Name x pos) X.env) Q E s :=
 Calls.Name_function_global I.ok.kind a (Calls.loadGlobal_global (by rw[I.ok.glob];exact I.mod.glob.keeps I.bk) b h) c
theorem zc5 {pins:List (Zh×Obj)}{s:Zf}{σ:St}{x:Str}{u:Ze}{pos:Pos} (I:Inv X pins σ H s) (b:Gl X x) (d:X.mg x=Zb) (a:bootBuiltins x=Za u) (h:Q u s)
  (e:x≠"__name__" := by decide) (g:(x==("__debug__" : Str))=Zc:=by decide):wpAny #v[1,7] X.A (eval (.Name x pos) X.env) Q E s:=by
 obtain⟨m,f,c⟩:=I.mod.blt;exact Calls.Name_function_global I.ok.kind b (Calls.loadGlobal_builtin (by rw[I.ok.glob];exact I.mod.glob.keeps I.bk) d (by rw[I.ok.blt];exact f.keeps I.bk) ((c x e).trans a) h) g
variable {a b:Zi}{ta tb:TE}{pos:Pos}
noncomputable def PC (X:Cx) (op:CmpOp) (a b:Zi) (t:TE):Prop :=
 ∀(pins:List (Zh×Obj)) (s:Zf) (σ:St) (H:Hp) (Q:VK),Inv X pins σ H s->t σ H Q ->
  wpAny #v[1,7] X.A (eval a X.env) (λv s₁=>wpAny #v[1,7] X.A (eval b X.env) (λu c=>wpAny #v[1,7] X.A (compareOp op v u) (EP X pins σ Q) X.xe c) X.xe s₁) X.xe s
theorem zo0 (b:Zi){op:CmpOp}(h:op≠.In)(a:op≠.NotIn):behindInMarks op b=Zc:=by
 have c:(op==CmpOp.In)=Zc:=by cases op<;>first|rfl|exact absurd rfl h
 have e:(op==CmpOp.NotIn)=Zc:=by cases op<;>first|rfl|exact absurd rfl a
 cases b<;>simp [behindInMarks,c,e]
noncomputable def tB (t:TE):TT:=λσ H Q=>t σ H λx a=>∃c,x=.bl c/\Q c a
theorem z2l {op:CmpOp}{t:TE}(h:PC X op a b t)(c:behindInMarks op b=Zc:=by first|exact zo0 _ #v[0,9] #v[0,9]|rfl):PE X (.Compare a [op] [b] pos) t:=λpins s σ H Q I d=>wpAny_Compare1 (h pins s σ H Q I d) c
theorem z2y {op:CmpOp}{t:TE}(h:PC X op a b t)(e:behindInMarks op b=Zc:=by first|exact zo0 _ #v[0,9] #v[0,9]|rfl):PT X (.Compare a [op] [b] pos) (tB t):=by
 intro pins s σ H Q I j;refine wpAny_isTrue_Compare1 (thn (h pins s σ H _ I j) λv m e=>thn e λu l f=>thn f λc n ⟨x,i,k,r,g⟩=>?_) e;obtain⟨d,rfl,q⟩:=g;cases r;exact Fx ⟨i,k,q⟩
theorem ybi {e:Zi}{t:TE}(h:PE X e t)(c:∀w,isTrue e X.env w=(do let v <- w;standAt e.pos;holding [v] (truthy v)):=by intro _;rfl):PT X e (tB t):=by
 intro pins s σ H Q I f;refine isTrue_plain (thn (h pins s σ H _ I f) λv i ⟨x,b,g,r,a⟩=>?_) (c _);obtain⟨d,rfl,q⟩:=a;cases r;exact Fx ⟨b,g,q⟩
variable {tA tB' : TT}{rest:List Zi}
noncomputable def tAnd (t u:TT):TT:=λσ H Q=>t σ H λc a=>if c=Zd then u σ a Q else Q Zc a
noncomputable def tOr (t u:TT):TT:=λσ H Q=>t σ H λc a=>if c=Zd then Q Zd a else u σ a Q
noncomputable def tNot (t:TT):TT:=λσ H Q=>t σ H λc a=>Q (!c) a
theorem z4q (b:PT X a tA):PW X (.BoolOp .And [a] pos) tA:=by
 intro w pins s σ H Q I h;refine isTrue_and (thn (b pins s σ H Q I h) λc d e=>?_);cases c with
 |true=>exact isTrue_and_nil e
 |false=>exact e
theorem z70 (b:PT X a tA):PW X (.BoolOp .Or [a] pos) tA:=by
 intro w pins s σ H Q I h;refine isTrue_or (thn (b pins s σ H Q I h) λc d e=>?_);cases c with
 |false=>exact isTrue_or_nil e
 |true=>exact e
theorem yag (g:PT X a tA)(f:PW X (.BoolOp .And (b::rest) pos) tB'):PW X (.BoolOp .And (a::b::rest) pos) (tAnd tA tB'):=by
 intro w pins s σ H Q I h;refine isTrue_and (thn (g pins s σ H _ I h) λc i ⟨d,e,q⟩=>?_);cases c with
 |true=>exact f w pins i σ d Q e q
 |false=>exact⟨d,e,q⟩
theorem yco (g:PT X a tA)(f:PW X (.BoolOp .Or (b::rest) pos) tB'):PW X (.BoolOp .Or (a::b::rest) pos) (tOr tA tB'):=by
 intro w pins s σ H Q I h;refine isTrue_or (thn (g pins s σ H _ I h) λc i ⟨d,e,q⟩=>?_);cases c with
 |true=>exact⟨d,e,q⟩
 |false=>exact f w pins i σ d Q e q
theorem z95 (d:PT X a tA):PT X (.UnaryOp .Not a pos) (tNot tA):=by
 intro pins s σ H Q I h;exact isTrue_not (d pins s σ H (λc b=>Q (!c) b) I h)
noncomputable def z8n (ta tb:TE):TE:=λσ H Q=>ta σ H λx a=>∃c,x=.bl c/\if c=Zd then tb σ a Q else Q (.bl Zc) a
theorem yab {op}{t:TE}(h:PE X a t):PE X (.BoolOp op [a] pos) t:=λpins s σ H Q I b=>BoolOp_one (h pins s σ H Q I b)
theorem z9v (g:PE X a ta)(f:PE X (.BoolOp .And (b::rest) pos) tb):PE X (.BoolOp .And (a::b::rest) pos) (z8n ta tb):=by
 intro pins s σ H Q I h;refine BoolOp_and (thn (g pins s σ H _ I h) λv i ⟨x,d,e,r,q⟩=>?_);obtain⟨c,rfl,q⟩:=q;cases r;refine Fx ?_;cases c with
 |true=>exact f pins i σ d Q e q
 |false=>exact⟨.bl Zc,d,e,rfl,q⟩
end
noncomputable def SqL (K:Zg) (H:Hp) (a:Zh) (xs:List V):Prop :=
 Rd H a (.lst xs) \/
  ∃(o:Obj) (i:Array Ze) (n:Nat),K.lookup a=Za o/\o.cls=.type "list"/\o.dict=Zb/\o.data=.seq i n/\i.size<=sizeLine/\Vals xs i.toList
noncomputable def SqT (K:Zg) (H:Hp) (a:Zh) (xs:List V):Prop :=
 Rd H a (.tup xs) \/
  ∃(o:Obj) (i:Array Ze) (n:Nat),K.lookup a=Za o/\o.cls=.type "tuple"/\o.data=.seq i n/\i.size<=sizeLine/\Vals xs i.toList
noncomputable def absV:Ze->Option V
 |.none=>Za .non
 |.bool b=>Za (.bl b)
 |.int i _=>Za (.int i)
 |.str x _=>Za (.str x)
 |.bytes b _=>Za (.byt b)
 |.float b _=>Za (.flt b)
 |.ref a=>Za (.ref a)
 |.type n=>Za (.ty n)
 |_=>Zb
theorem RelV.abs {x:V}{u:Ze}(r:RelV x u):absV u=Za x:=by
 cases x with
 |non=>cases r;rfl
 |bl _=>cases r;rfl
 |int _=>obtain⟨t,rfl⟩:=r;rfl
 |str _=>obtain⟨t,rfl⟩:=r;rfl
 |byt _=>obtain⟨t,rfl⟩:=r;rfl
 |flt _=>obtain⟨t,rfl⟩:=r;rfl
 |ref _=>cases r;rfl
 |ty _=>cases r;rfl
theorem RelV.inj {x y:V}{u:Ze}(r:RelV x u)(q:RelV y u):x=y:=sI (r.abs.symm.trans q.abs)
theorem Vals.inj:∀{xs ys:List V}{u:List Ze},Vals xs u->Vals ys u->xs=ys
 |_,_,_,.nil,.nil=>rfl
 |_,_,_,.cons r t,.cons a b=>by rw[r.inj a,Vals.inj t b]
section
variable {pins:List (Zh × Obj)}{σ:St}{s:Zf}{xs ys:List V}
theorem Inv.list (I:Inv X pins σ H s)(h:SqL X.K H a xs):∃i:List Ze,Vals xs i/\PlainL s.heap a i.toArray/\xs.length<=sizeLine:=by
 rcases h with h|⟨o,i,n,f,c,b,d,g,r⟩
 ·obtain⟨z,i,n,r,e⟩:=h.ok I.hok;exact⟨i,r,⟨_,n,e,rfl,rfl,rfl⟩,z⟩
 ·refine⟨i.toList,r,⟨o,n,I.kIn a o f,c,b,by simpa using d⟩, ?_⟩;have e:=r.length;simp only [Bg] at e;symm
theorem Inv.tuple (I:Inv X pins σ H s)(h:SqT X.K H a xs):∃i:List Ze,Vals xs i/\IsTup s.heap a i.toArray/\xs.length<=sizeLine:=by
 rcases h with h|⟨o,i,n,d,b,c,f,r⟩
 ·obtain⟨z,i,r,p⟩:=h.ok I.hok;exact⟨i,r,p.t,z⟩
 ·refine⟨i.toList,r,⟨o,I.kIn a o d,b,n,by simpa using c⟩, ?_⟩;have e:=r.length;simp only [Bg] at e;symm
theorem Inv.list_inj (I:Inv X pins σ H s)(h:SqL X.K H a xs)(h':SqL X.K H a ys):xs=ys:=by
 obtain⟨i,r,⟨o,n,e,_,_,d⟩,_⟩:=I.list h;obtain⟨its',f,⟨g,j,b,_,_,c⟩,_⟩:=I.list h';rw[e] at b;obtain rfl:=sI b;rw[d] at c;injection c with d1 _;have:i=its':=by simpa using congrArg Array.toList d1
 subst this;exact r.inj f
theorem Inv.tuple_inj (I:Inv X pins σ H s)(h:SqT X.K H a xs)(h':SqT X.K H a ys):xs=ys:=by
 obtain⟨i,r,⟨o,e,_,n,d⟩,_⟩:=I.tuple h;obtain⟨its',f,⟨g,b,_,j,c⟩,_⟩:=I.tuple h';rw[e] at b;obtain rfl:=sI b;rw[d] at c;injection c with d1 _;have:i=its':=by simpa using congrArg Array.toList d1
 subst this;exact r.inj f
end
noncomputable abbrev Cx.wish (X:Cx) (E:Ze->Zf->Prop):Cx:={ X with xe:=E }
noncomputable abbrev Cx.nox (X:Cx):Cx:=X.wish λ_ _=>False
theorem Cx.Ok.wish {X:Cx}(ok:X.Ok)(E:Ze->Zf->Prop):(X.wish E).Ok :=
 ⟨ok.mod,ok.kind,ok.glob,ok.blt,ok.above,ok.inj,ok.has,ok.cab,ok.hd,ok.frames,ok.stk,ok.exf,ok.bs,ok.bsz,ok.noex,ok.exfs,ok.funs,ok.frf⟩
theorem Cx.Ok.unwish {X:Cx}{E:Ze->Zf->Prop}(ok:(X.wish E).Ok):X.Ok :=
 ⟨ok.mod,ok.kind,ok.glob,ok.blt,ok.above,ok.inj,ok.has,ok.cab,ok.hd,ok.frames,ok.stk,ok.exf,ok.bs,ok.bsz,ok.noex,ok.exfs,ok.funs,ok.frf⟩
section
variable {pins:List (Zh × Obj)}{σ:St}{s:Zf}
theorem Inv.wish (I:Inv X pins σ H s)(E:Ze->Zf->Prop):Inv (X.wish E) pins σ H s:=⟨I.ok.wish E,I.os,I.bare,I.base,I.loc,I.cell,I.free,I.freeC,I.pin,I.hok,I.len⟩
theorem Inv.unwish (I:Inv (X.wish E) pins σ H s):Inv X pins σ H s:=⟨I.ok.unwish,I.os,I.bare,I.base,I.loc,I.cell,I.free,I.freeC,I.pin,I.hok,I.len⟩
theorem SP.unwish {s':Zf}(h:SP (X.wish E) pins D f s'):SP X pins D f s':=by
 cases f with
 |next=>obtain⟨a,H,I,q⟩:=h;exact⟨a,H,I.unwish,q⟩
 |brk=>obtain⟨a,H,I,q⟩:=h;exact⟨a,H,I.unwish,q⟩
 |cont=>obtain⟨a,H,I,q⟩:=h;exact⟨a,H,I.unwish,q⟩
 |ret u=>obtain⟨v,a,H,I,r,q⟩:=h;exact⟨v,a,H,I.unwish,r,q⟩
theorem PE.nox {t:TE}(h:PE X.nox e t):PE X e t:=λpins s σ H Q I c =>
 Cv (h pins s σ H Q (I.wish _) c) (λ_ _ ⟨v,b,a,r,q⟩=>⟨v,b,a.unwish,r,q⟩) λ_ _ z=>False.elim z
theorem PSs.nox {st:List Stmt}{t:TS}(h:PSs X.nox st t):PSs X st t:=λpins s σ H D I a =>
 Cv (h pins s σ H D (I.wish _) a) (λ_ _ q=>q.unwish) λ_ _ z=>False.elim z
end
section
variable {X:Cx}{st:Stmt}{rest:List Stmt}{t u:TS}{e:Zi}{te:TE}{pos:Pos}
noncomputable def z37:TS:=λD σ H=>D.nx σ H
noncomputable def tSeq (t u:TS):TS:=λD σ H=>t { D with nx:=u D } σ H
theorem z4b:PSs X [] z37:=λ_ _ σ H _ I h=>wpAny_execs_nil ⟨σ,H,I,h⟩
theorem z0g (e:PS X st t) (d:PSs X rest u):PSs X (st::rest) (tSeq t u):=by
 intro pins s σ H D I h;refine wpAny_execs_cons (thn (e pins s σ H { D with nx:=u D } I h) λf g q=>?_);cases f with
 | next =>
  obtain⟨a,c,b,q⟩:=q;exact d pins g a c D b q
 |ret v=>exact q
 |brk=>exact q
 |cont=>exact q
theorem z4n (a:PS X st t):PSs X [st] t:=by
 intro pins s σ H D I h;refine wpAny_execs_cons (thn (a pins s σ H D I h) λf b q=>?_);cases f with
 |next=>exact wpAny_execs_nil q
 |ret v=>exact q
 |brk=>exact q
 |cont=>exact q
theorem z6l:PS X (.Pass pos) z37:=λ_ _ σ H _ I h=>wpAny_Pass ⟨σ,H,I,h⟩
theorem Inv.quiet {pins:List (Zh×Obj)}{σ:St}{s:Zf}(I:Inv X pins σ H s):interactive X.env=Zc:=by simp [interactive,I.ok.kind]
noncomputable def z8c (te:TE):TS:=λD σ H=>te σ H λ_ a=>D.nx σ a
theorem z6x (c:PE X e te)(a:swapsWith e Zb pos.line X.env=pure Zc:=by rfl):PS X (.Expr e pos) (z8c te):=by
 intro pins s σ H D I h;exact wpAny_Expr_any (thn (c pins s σ H _ I h) λv f ⟨x,b,d,r,q⟩=>⟨σ,b,d,q⟩) I.quiet a
noncomputable def tRet (te:TE):TS:=λD σ H=>te σ H D.rt
theorem z2p (b:PE X e te):PS X (.Return (Za e) pos) (tRet te):=by
 intro pins s σ H D I h;exact wpAny_Return_some (thn (b pins s σ H _ I h) λv d ⟨x,a,c,r,q⟩=>⟨x,σ,a,c,r,q⟩)
noncomputable def tIfS (c:TT) (t u:TS):TS:=λD σ H=>c σ H λb a=>if b=Zd then t D σ a else u D σ a
theorem yc7 {tc:TT}(j:PT X c tc)(k:PSs X a t)(i:PSs X b u):PS X (.If c a b pos) (tIfS tc t u):=by
 intro pins s σ H D I h;refine wpAny_If (thn (j pins s σ H _ I h) λd f ⟨e,g,q⟩=>?_);cases d with
 |true=>exact k pins f σ e D g q
 |false=>exact i pins f σ e D g q
end
noncomputable abbrev TG:=V->St->Hp->(St->Hp->Prop)->Prop
noncomputable abbrev TGs:=List V->St->Hp->(St->Hp->Prop)->Prop
noncomputable def PG (X:Cx) (a:Zi) (t:TG):Prop :=
 ∀(pins:List (Zh×Obj)) (s:Zf) (σ:St) (H:Hp) (v:V) (u:Ze) (Q:St->Hp->Prop),Inv X pins σ H s->RelV v u->t v σ H Q ->
  wpAny #v[1,7] X.A (assign a X.env u) (λ_ d=>∃b c,Inv X pins b c d/\Q b c) X.xe s
noncomputable def PGs (X:Cx) (ts:List Zi) (t:TGs):Prop :=
 ∀(pins:List (Zh×Obj)) (s:Zf) (σ:St) (H:Hp) (c:List V) (u:List Ze) (Q:St->Hp->Prop),Inv X pins σ H s->Vals c u->t c σ H Q ->
  wpAny #v[1,7] X.A (assignInOrder ((assignEach ts X.env).map (·.2)) u) (λ_ d=>∃a b,Inv X pins a b d/\Q a b) X.xe s
noncomputable abbrev TSet:=V->V->V->Hp->(Hp->Prop)->Prop
noncomputable def PSet (X:Cx) (t:TSet):Prop :=
 ∀(pins:List (Zh×Obj)) (s:Zf) (σ:St) (H:Hp) (o i v:V) (b c u:Ze) (Q:Hp->Prop),Inv X pins σ H s->RelV o b->RelV i c->RelV v u->t o i v H Q ->
  wpAny #v[1,7] X.A (setItem b c u) (λ_ d=>∃a,Inv X pins σ a d/\Q a) X.xe s
noncomputable abbrev TIp:=V->V->Hp->VK->Prop
noncomputable def PIp (X:Cx) (op:Operator) (t:TIp):Prop :=
 ∀(pins:List (Zh×Obj)) (s:Zf) (σ:St) (H:Hp) (x y:V) (v u:Ze) (Q:VK),Inv X pins σ H s->RelV x v->RelV y u->t x y H Q ->
  wpAny #v[1,7] X.A (inplaceOp op v u) (EP X pins σ Q) X.xe s
section
variable {X:Cx}{pos:Pos}
noncomputable def zm8 (i:Nat):TG:=λv σ H Q=>Q (σ.set i (Za v)) H
theorem ztf {x:Str}(c:X.N.Nodup)(d:X.N[i]?=Za x)(b:Loc X.env.scope x)(e:X.fn x=Zd\/X.env.scope.names.lookup x=Za .local:=by first|exact .inl rfl|exact .inr rfl|assumption):PG X (.Name x pos) (zm8 i):=by
 intro pins s σ H v u Q I r h;exact wpAny_assign_Name (zea I c d b r (λf a=>⟨_,H,a,h⟩) e)
noncomputable def gNil:TGs:=λv σ H Q=>v=[]/\Q σ H
noncomputable def z1e (t:TG) (u:TGs):TGs:=λb σ H Q=>∃v r,b=v::r/\t v σ H λa c=>u r a c Q
theorem z5n:PGs X [] gNil:=by
 intro pins s σ H v u Q I r h;obtain⟨e,h⟩:=h;subst e;cases r;exact assignInOrder_nil ⟨σ,H,I,h⟩
theorem zzq {e:Zi}{es:List Zi}{t:TG}{u:TGs} (g:PG X e t) (a:PGs X es u)
  (d:(assignEach (e::es) X.env).map (·.2)=assign e X.env::(assignEach es X.env).map (·.2):=by rfl):PGs X (e::es) (z1e t u):=by
 intro pins s σ H m l Q I r h;obtain⟨v,k,c,h⟩:=h;subst c;cases r with
 | cons r b =>
  rw[d];refine assignInOrder_cons (thn (g pins s σ H _ _ _ I r h) λ_ i ⟨σ1,f,j,q⟩=>?_);exact a pins i σ1 f _ _ Q j b q
noncomputable def gTup (K:Zg) (n:Nat) (t:TGs):TG:=λv σ H Q=>∃a x,v=.ref a/\SqT K H a x/\x.length=n/\t x σ H Q
theorem z82 {t:TGs} (p:X.calm=Zd) (h:PGs X es t)
  (w:(assignEach es X.env).length=n:=by rfl) (c:(assignEach es X.env).findIdx? (·.1)=Zb:=by rfl):PG X (.Tuple es k pos) (gTup X.K n t):=by
 intro pins s σ H v u Q I r d;nofun;obtain⟨a,x,q,m,z,d⟩:=d;ac_rfl;subst q;cases r;nofun;obtain⟨i,f,l,A⟩:=I.tuple m;ac_rfl;refine assign_Tuple_tuple (I.ok.hd p) l (by simp [w,<-z,f.length]) c λg j=>?_;have y:Inv X pins σ H { s with heap:=g }:=I.kept (t':=s.toks) λb o e=>j b o (Ba (Am e)) e;exact h pins _ σ H x _ Q y (by simpa using f) d
noncomputable def gSub (d a:TE) (t:TSet):TG:=λv σ H Q=>d σ H λo b=>a σ b λi e=>t o i v e λc=>Q σ c
theorem z9e {d c:TE}{t:TSet} (e:PE X o d) (n:PE X i c) (B:PSet X t)
  (D:∀v,assign (.Subscript o i pos) X.env v=(do
   let a <- holding [v] (eval o X.env)
   let b <- holding [v,a] (eval i X.env)
   standAt pos
   holding [v,a,b] (setItem a b v)
   release [v,a,b] []):=by intro _;rfl):PG X (.Subscript o i pos) (gSub d c t):=by
 intro pins s σ H v u Q I r h;rw[D];refine Aa (Bh (thn (e pins s σ H _ I h) λa A ⟨x,z,k,w,p⟩=>?_));refine Aa (Bh (thn (n pins A σ z _ k p) λb m ⟨y,l,f,j,q⟩=>?_));refine Aa (Fs (Aa (Bh (thn (B pins m σ l x y v a b u _ f w j r q) λ_ F ⟨E,g,C⟩=>?_))));exact wpAny_release ⟨σ,E,g,C⟩
noncomputable def tAsg (te:TE) (g:TG):TS:=λD σ H=>te σ H λx a=>g x σ a D.nx
theorem z2t {t e:Zi}{te:TE} (i:PE X e te) (a:PG X t g) (c:swapsWithSole [t] e pos.line X.env=pure Zc:=by rfl) (l:swappedStores [t] e X.env=pure Zb:=by rfl)
  (f:(assignEach [t] X.env).map (·.2)=[assign t X.env]:=by rfl):PS X (.Assign [t] e pos) (tAsg te g):=by
 intro pins s σ H D I h;refine wpAny_Assign_stores (thn (i pins s σ H _ I h) λv j ⟨x,d,k,r,b⟩=>?_) c l;rw[f];exact thn (a pins j σ d x v _ k r b) λ_ m q=>q
theorem z2m {i:Nat}{x:Str}{e:Zi}{te:TE}{pos':Pos} (f:X.N.Nodup) (c:X.N[i]?=Za x) (d:Loc X.env.scope x) (k:PE X e te) (g:swapsWith e (Za (.Name x pos')) pos.line X.env=pure Zc:=by rfl) (b:X.fn x=Zd\/X.env.scope.names.lookup x=Za .local:=by first | exact .inl rfl | exact .inr rfl | assumption) :
  PS X (.Assign [.Name x pos'] e pos) (tAsg te (zm8 i)):=by
 intro pins s σ H D I h;refine wpAny_Assign_Name (thn (k pins s σ H _ I h) λv n ⟨y,j,l,r,q⟩=>?_) g;exact zea l f c d r (λm a=>⟨_,j,a,q⟩) b
noncomputable def tPar (i j:Nat) (t:TA):TS:=λD σ H=>t σ H λb a=>∃v w,b=[v,w]/\D.nx ((σ.set i (Za v)).set j (Za w)) a
theorem ybp {i j:Nat}{x y:Str}{a b:Zi}{t:TA}{f g pt:Pos}{kt k2 pt2} (P:X.calm=Zd) (E:X.N.Nodup) (L:X.N[i]?=Za x) (V:X.N[j]?=Za y) (l:i≠j)
  (C:X.env.scope.names.lookup x=Za .local) (z:X.env.scope.names.lookup y=Za .local) (U:PA X [a,b] t)
  (T:swappedStores [.Tuple [.Name x f,.Name y g] kt pt] (.Tuple [a,b] k2 pt2) X.env=pure (Za [x,y]))
  (S:swapsWithSole [.Tuple [.Name x f,.Name y g] kt pt] (.Tuple [a,b] k2 pt2) pos.line X.env=pure Zc:=by rfl) :
  PS X (.Assign [.Tuple [.Name x f,.Name y g] kt pt] (.Tuple [a,b] k2 pt2) pos) (tPar i j t):=by
 intro pins s σ H D I h;rw [exec_Assign_arm];refine Aa (Fs ?_);rw [S];refine Aa (Ae ?_);rw [if_neg (by decide)];refine Aa (Tuple_ (thn (U _ pins s σ H _ I h) λR d ⟨Y,n,K,N,k⟩=>?_));refine aG λ_ qG=>?_;obtain ⟨v,w,O,k⟩:=k;refine qG ?_;clear qG;subst O;obtain ⟨u,c,rfl,W,r⟩ : ∃u c,R=[u,c]/\RelV v u/\RelV w c:=by
  cases N with
  | cons p q =>
   cases q with
   | cons J Q =>
    cases Q;exact⟨_,_,rfl,p,J⟩
 refine Dp ?_ (by show 2<=sizeLine;decide);have F:Inv X pins σ n { d with heap:=d.heap.push { cls:=.type "tuple",data:=.seq [u,c].toArray } }:=K.kept (t':=d.toks) λb o e=>Ab _ e;rw[T];refine Aa (Ae ?_);show wpAny #v[1,7] X.A (do rule "assign.swapped-stores";let items <- unpackItems (.ref d.heap.objs.size) 2 Zb;assignInOrder [λv=>bindName X.env y v,λv=>bindName X.env x v] items.reverse;pure Flow.next) _ _ _;refine Aa (Cd (Aa (unpackItems_tuple (items:=#[u,c]) (I.ok.hd P) (IsTup.new d.heap _) λA m=>?_)));have G:=F.kept (h':=A) (t':=d.toks) λb o e=>m b o (Ba (Am e)) e;show wpAny _ _ (assignInOrder [λv=>bindName X.env y v,λv=>bindName X.env x v] [c,u]>>=λ_=>pure Flow.next) _ _ _;refine Aa (assignInOrder_cons (wpAny_bindName (zea G E V (.inl z) r (λZ M=>?_) (.inr z))));refine assignInOrder_cons (wpAny_bindName (zea M E L (.inl C) W (λs3 B=>assignInOrder_nil (Ae ?_)) (.inr C)));rw[List.set_comm _ _ (Ne.symm l)] at B;exact⟨_,n,B,k⟩
noncomputable def tAug (i:Nat) (te:TE) (t:TIp):TS:=λD σ H=>∃x,σ[i]?=Za (Za x)/\te σ H λy a=>t x y a λz b=>D.nx (σ.set i (Za z)) b
theorem ztx {x:Str}{te:TE}{op:Operator}{t:TIp}{pos':Pos} (R:X.N.Nodup) (j:X.N[i]?=Za x) (g:Loc X.env.scope x) (M:PE X e te) (n:PIp X op t) (P:X.fn x=Zd\/X.env.scope.names.lookup x=Za .local:=by first | exact .inl rfl | exact .inr rfl | assumption) :
  PS X (.AugAssign (.Name x pos') op e pos) (tAug i te t):=by
 intro pins s σ H D I h;obtain⟨v,J,h⟩:=h;obtain⟨m,q,N⟩:=I.loc;have vis:Vis X.env.scope x:=by rcases g with k|k;exact .inl k;exact .inr (.inl k)
 obtain⟨u,r,l⟩:=N i x v j J vis;refine wpAny_AugAssign_Name ?_;have go:wpAny #v[1,7] X.A (eval e X.env) (λw f=>wpAny #v[1,7] X.A (inplaceOp op u w) (λr d=>wpAny #v[1,7] X.A (storeName X.env x r) (λ_=>SP X pins D .next) X.xe d) X.xe f) X.xe s:=by
  refine thn (M pins s σ H _ I h) λw O ⟨y,L,C,G,F⟩=>?_;refine thn (n pins O σ L v y u w _ C r G F) λz S ⟨T,E,o,A,B⟩=>?_;exact zea o R j g A (λU p=>⟨_,E,p,B⟩) P
 rcases l with⟨a,Q⟩|⟨a,c,K,b⟩
 ·exact wpAny_loadName_local I.ok.kind a q Q go
 ·rcases a with a|a
  ·exact wpAny_loadName_cell I.ok.kind a K b go
  ·rcases g with k|k
   ·have:X.env.scope.names.lookup x=Za .free:=a;rw[k] at this;cases this
   ·have:X.env.scope.names.lookup x=Za .free:=a;rw[k] at this;cases this
end
section
variable {pos:Pos}
noncomputable def z2s (c:TT) (t:TS):TS:=λD σ H=>∃W:Nat->St->Hp->Prop,(∃m,W m σ H)/\∀m σ H,W m σ H ->
 c σ H λb f=>if b=Zd then ∃N:St->Hp->Prop,(∀a e,N a e->∃d,d<m/\W d a e)/\t { D with nx:=N,ct:=N,bk:=D.nx } σ f else D.nx σ f
theorem zym {tc:TT}{t:TS} (p:PassesOwn #v[1,7] X.A X.env X.xe) (F:PT X c tc) (y:PSs X body t):PS X (.While c body [] pos) (z2s tc t):=by
 intro pins s σ H D I h;nofun;obtain⟨W,⟨G,z⟩,turn⟩:=h;ac_rfl;refine wpAny_While (codeAny_whileLoop (λn A=>∃d x,Inv X pins d x A/\W n d x) ?_ G ⟨σ,H,I,z⟩);rintro n J ⟨σ1,r,B,C⟩;refine Fg p (thn (F pins J σ1 r _ B (turn n σ1 r C)) λb E ⟨o,l,q⟩=>?_);cases b with
 | true =>
  obtain⟨N,u,q⟩:=q;rw[if_pos rfl];refine Fg p (thn (y pins E σ1 o _ l q) λf K g=>?_);cases f with
  | next =>
   nofun;obtain⟨a,e,i,k⟩:=g;obtain⟨m,j,w⟩:=u a e k;ac_rfl;exact⟨m,j,a,e,i,w⟩
  | cont =>
   nofun;obtain⟨a,e,i,k⟩:=g;obtain⟨m,j,w⟩:=u a e k;ac_rfl;exact⟨m,j,a,e,i,w⟩
  |brk=>exact g
  |ret v=>exact g
 | false =>
  rw[if_neg As];exact wpAny_execs_nil ⟨σ1,o,l,q⟩
end
structure It where
 go:Nat->Hp->Prop
 yld:Nat->Hp->V->Hp->Prop
 stop:Nat->Hp->Prop
noncomputable def FpOk (X:Cx) (pins:List (Zh×Obj)) (H:Hp) (b:Zh):Prop :=
 H b=Zb/\b≠X.env.locals/\b ∉ X.fs/\(b∈X.ex\/X.s₀.heap.objs.size<=b)/\(∀x c,X.env.cells.lookup x=Za c->c≠b)/\∀p∈X.pn++pins,p.1≠b
theorem Inv.fpOk {pins:List (Zh×Obj)}{σ:St}{s:Zf}(I:Inv X pins σ H s)(h:s.heap.objs.size<=b)(d:H' b=Zb):FpOk X pins H' b:=by
 refine⟨d,Fu (Bc I.lt h),I.nofs h,.inr (Bu I.sz h),λx c e z=>?_,λp a z=>?_⟩
 ·obtain⟨v,q⟩:=I.cell x c e;exact absurd (Bc q.lt (by rw[z];exact h)) (Bp _)
 ·exact absurd (Bc (Am (I.pin p a).1) (by rw[z];exact h)) (Bp _)
structure Turn (P:Program) (w:World) (K:Zg) (tg:Zi) (J:It) (fp:List Zh) (it:Zh) (tn:Nat->Heap->Prop):Prop where
 mem:it∈fp
 obj:∀i h,tn i h->∀b∈fp,∃o,h.get? b=Za o/\∀v,o.data≠.cell v
 keep:∀i h h',tn i h->(∀b∈fp,∀o,h.get? b=Za o->h'.get? b=Za o)->tn i h'
 item:∀(X:Cx),X.prog=P->X.w=w->X.K=K->X.calm=Zd->∀(i:Nat) (pins:List (Zh×Obj)) (s:Zf) (σ:St) (H:Hp) (E:Ze->Zf->Prop),Inv X pins σ H s->(∀b∈fp,FpOk X pins H b)->tn i s.heap->J.go i H ->
  wpAny (model P w) X.A (pyNext (.ref it)) (λr s1=>∃u,r=Za u /\
   wpAny (model P w) X.A (letOwnedTupleGo tg (.ref it) u) (λ_ s2=>∃x H',Inv X pins σ H' s2/\RelV x u/\J.yld i H x H'/\tn (i+1) s2.heap/\∀b∈fp,H' b=Zb) E s1) E s
 done:∀(X:Cx),X.prog=P->X.w=w->X.K=K->X.calm=Zd->∀(i:Nat) (pins:List (Zh×Obj)) (s:Zf) (σ:St) (H:Hp) (E:Ze->Zf->Prop),Inv X pins σ H s->(∀b∈fp,FpOk X pins H b)->tn i s.heap->J.stop i H ->
  wpAny (model P w) X.A (pyNext (.ref it)) (λr s1=>r=Zb/\Inv X pins σ H s1) E s
 self:∀(A:Around) (i:Nat) (s:Zf) (Q:Ze->Zf->Prop) (E:Ze->Zf->Prop),tn i s.heap->Q (.ref it) s->wpAny (model P w) A (pyIter (.ref it)) Q E s
noncomputable abbrev TI:=St->Hp->(It->Hp->Prop)->Prop
noncomputable def PIE (X:Cx) (pins:List (Zh×Obj)) (σ:St) (c:Zi) (R:It->Hp->Prop) (i:Ze) (s:Zf):Prop :=
 ∃(a:Zh) (fp:List Zh) (t:Nat->Heap->Prop) (J:It) (H:Hp),i=.ref a/\Inv X pins σ H s/\Turn X.prog X.w X.K c J fp a t/\t 0 s.heap/\(∀b∈fp,FpOk X pins H b)/\R J H
noncomputable def PI (X:Cx) (t iter:Zi) (w:TI):Prop :=
 ∀(pins:List (Zh×Obj)) (s:Zf) (σ:St) (H:Hp) (R:It->Hp->Prop),Inv X pins σ H s->w σ H R ->
  wpAny #v[1,7] X.A (eval iter X.env) (λv a=>wpAny #v[1,7] X.A (pyIter v) (PIE X pins σ t R) X.xe a) X.xe s
theorem zz6 {s:Zf}{t:Zi}{u:Ze}{vs:Array Ze} (b:s.heap.get? it=Za o) (c:o.cls=.type n) (e:o.data=.fields vs)
    (d:["enumerate","zip","dict_itemiterator","dict_reverseitemiterator","odict_iterator","itertools.zip_longest","itertools.pairwise"].contains n=Zc) (a:Q () s):wpAny M A (letOwnedTupleGo t (.ref it) u) Q E s:=by
  unfold letOwnedTupleGo;cases t<;>first
    |exact Ae a
    | (cases u<;>first
        |exact Ae a
        | (refine Aa (wpAny_load b ?_)
           rw[c,e];show wpAny M A (if (["enumerate","zip","dict_itemiterator","dict_reverseitemiterator","odict_iterator","itertools.zip_longest","itertools.pairwise"].contains n&&vs[0]? == Za (rawInt _))=Zd then _ else _) Q E s;rw[if_neg (by intro h;rw[d,Fp] at h;cases h)];exact Ae a))
noncomputable def Itl (K:Zg) (a:Zh):It :=
 ⟨λi H=>∃b x,SqL K H a b/\b[i]?=Za x,λi H x c=>c=H/\∀b,SqL K H a b->b[i]?=Za x,λi H=>∃b,SqL K H a b/\b.length<=i⟩
noncomputable def Itt (K:Zg) (a:Zh):It :=
 ⟨λi H=>∃b x,SqT K H a b/\b[i]?=Za x,λi H x c=>c=H/\∀b,SqT K H a b->b[i]?=Za x,λi H=>∃b,SqT K H a b/\b.length<=i⟩
noncomputable def Itr (l:Int) (n:Nat):It:=⟨λi _=>i<n,λi H x a=>a=H/\x=.int (l+i),λi _=>n<=i⟩
theorem zw5 {w:World}{K:Zg}{T:Zi}(a it:Zh):Turn P w K T (Itl K a) [it] it (λi h=>h.IsListIter it a i) where
 mem:=by simp
 obj:=λi h f b g=>by
  have e:b=it:=by simpa using g
  subst e;nofun;obtain⟨o,e,c,d⟩:=f;ac_rfl;exact⟨o,e,λv z=>by rw[d] at z;cases z⟩
 keep:=λi h m f k=>f.at λo e=>k it (by simp) o e
 item:=by
  intro X A B hK J i pins s σ H E I l f r;subst A B hK;nofun;obtain⟨O,x,n,D⟩:=r;obtain⟨C,F,p,V⟩:=I.list n;obtain⟨u,R,S⟩:=F.get D;obtain⟨t,y,L,f3,G,q⟩:=l it (by simp);ac_rfl;refine wpAny_pyNext_list_item f p.isList (x:=u) (by simpa using R) λm j M=>?_;have N:Inv X pins σ H { s with heap:=m }:=I.turned (t':=s.toks) (λb o g e=>(M.2 b g).trans e) t y f3 G q;nofun;obtain⟨o,e,c,d⟩:=id j;ac_rfl;exact⟨u,rfl,zz6 (s:={ s with heap:=m }) e c d #v[0,9] ⟨x,H,N,S,⟨rfl,λW Q=>by rw[I.list_inj Q n];exact D⟩,j,λb g=>(l b g).1⟩⟩
 done:=by
  intro X A B hK J i pins s σ H E I l f r;subst A B hK;nofun;obtain⟨O,n,D⟩:=r;obtain⟨C,F,p,V⟩:=I.list n;obtain⟨t,y,L,f3,G,q⟩:=l it (by simp);ac_rfl;have Y:=F.length;exact wpAny_pyNext_list_end (I.ok.hd J) f p.isList (by simp;symm) λm U=>⟨rfl,I.turned (t':=s.toks) (λb o g e=>U b o g e) t y f3 G q⟩
 self:=λ_ _ _ _ _ f h=>wpAny_pyIter_listiter f h
theorem zqt {w:World}{K:Zg}{T:Zi}(a it:Zh):Turn P w K T (Itt K a) [it] it (λi h=>h.IsTupleIter it a i) where
 mem:=by simp
 obj:=λi h f b g=>by
  have e:b=it:=by simpa using g
  subst e;nofun;obtain⟨o,e,c,d⟩:=f;ac_rfl;exact⟨o,e,λv z=>by rw[d] at z;cases z⟩
 keep:=λi h n f k=>f.at λo e=>k it (by simp) o e
 item:=by
  intro X B C hK J i pins s σ H E I m f t;subst B C hK;nofun;obtain⟨O,x,q,D⟩:=t;obtain⟨j,F,p,V⟩:=I.tuple q;obtain⟨u,R,S⟩:=F.get D;obtain⟨y,A,L,f3,G,r⟩:=m it (by simp);ac_rfl;refine wpAny_pyNext_tuple_item f (show s.heap.IsTuple a j.toArray from p) (x:=u) (by simpa using R) λn l M=>?_;have N:Inv X pins σ H { s with heap:=n }:=I.turned (t':=s.toks) (λb o g e=>(M.2 b g).trans e) y A f3 G r;nofun;obtain⟨o,e,c,d⟩:=id l;ac_rfl;exact⟨u,rfl,zz6 (s:={ s with heap:=n }) e c d #v[0,9] ⟨x,H,N,S,⟨rfl,λW Q=>by rw[I.tuple_inj Q q];exact D⟩,l,λb g=>(m b g).1⟩⟩
 done:=by
  intro X B C hK J i pins s σ H E I m f t;subst B C hK;nofun;obtain⟨O,q,D⟩:=t;obtain⟨j,F,p,V⟩:=I.tuple q;obtain⟨y,A,L,f3,G,r⟩:=m it (by simp);ac_rfl;have Y:=F.length;exact wpAny_pyNext_tuple_end (I.ok.hd J) f (show s.heap.IsTuple a j.toArray from p) (by simp;symm) λn U=>⟨rfl,I.turned (t':=s.toks) (λb o g e=>U b o g e) y A f3 G r⟩
 self:=λ_ _ _ _ _ f h=>wpAny_pyIter_tupleiter f h
theorem zqu {w:World}{K:Zg}{J:Zi}(it:Zh)(l:Int)(n:Nat):Turn P w K J (Itr l n) [it] it (λi h=>IsRangeIter h it (l+(i:Nat)*1) ((n:Int)-(i:Nat)) 1) where
 mem:=by simp
 obj:=λi h a b c=>by
  have e:b=it:=by simpa using c
  subst e;exact⟨_,a,λv z=>by
   have C:Data.fields _=Data.cell v:=z;cases C⟩
 keep:=λi h g a k=>k it (by simp) _ a
 item:=by
  intro X u x hK p i pins s σ H E I f a m;subst u x hK;nofun;obtain⟨q,r,D,f3,y,j⟩:=f it (by simp);ac_rfl;have W:=Walks.range (prog:=X.prog) (w:=X.w) (I.ok.hd p) it l 1 n;refine W.item i s _ _ m a λv g A B d F=>?_;obtain⟨t,rfl⟩:=B;have G:Inv X pins σ H { s with heap:=g,toks:=A }:=I.turned (λb o c e=>F b o (by simpa using c) e) q r f3 y j;refine⟨_,rfl,zz6 (s:={ s with heap:=g,toks:=A }) (n := "range_iterator") d rfl rfl #v[0,9] ⟨.int (l+i),H,G,⟨t,?_⟩,⟨rfl,rfl⟩,d,λb c=>(f b c).1⟩⟩;rw[Int.mul_one]
 done:=by
  intro X u x hK p i pins s σ H E I f a m;subst u x hK;nofun;obtain⟨q,r,D,f3,y,j⟩:=f it (by simp);ac_rfl;exact wpAny_pyNext_range_end (I.ok.hd p) a (by have:n<=i:=m;symm) λg L=>⟨rfl,I.turned (t':=s.toks) (λb o c e=>L b o c e) q r f3 y j⟩
 self:=λ_ _ _ _ _ a h=>wpAny_pyIter_rangeiter a h
section
variable {tg:Zi}
theorem zof {pins:List (Zh×Obj)}{σ:St}{s:Zf}{l h:Int}{t u v:Tok}{tk:Nat} (I:Inv X pins σ H s) (k:-(2^62)<=l) (i:l<2^62) (d:-(2^62)<=h) (g:h<2^62)
  (q:R (Itr l (h-l).toNat) H):wpAny #v[1,7] X.A (pyIter (.ref s.heap.objs.size)) (PIE X pins σ tg R) E { s with heap:=s.heap.push { cls:=.type "range",data:=.fields #[.int l t,.int h u,.int 1 v] },toks:=tk }:=by
 refine wpAny_pyIter_range (IsRange.new ..) (small_one k i d g) ?_;have a:Inv X pins σ H { s with heap:=s.heap.push { cls:=.type "range",data:=.fields #[.int l t,.int h u,.int 1 v] },toks:=tk }:=I.kept λb o e=>Ab _ e;refine⟨(s.heap.push { cls:=.type "range",data:=.fields #[.int l t,.int h u,.int 1 v] }).objs.size,[(s.heap.push { cls:=.type "range",data:=.fields #[.int l t,.int h u,.int 1 v] }).objs.size],_,_,H,rfl,
  a.kept (t':=tk) λb o e=>Ab _ e,zqu _ l (h-l).toNat,?_,λb c=>?_,q⟩
 ·have j:l+((0:Nat):Int)*1=l:=by simp
  have f:(((h-l).toNat:Nat):Int)-((0:Nat):Int)=Builtin.Range.rangeSize l h 1:=by rw[rangeSize_one];split<;>symm
  show IsRangeIter _ _ (l+((0:Nat):Int)*1) ((((h-l).toNat:Nat):Int)-((0:Nat):Int)) 1;rw[j,f];exact An _ rfl
 ·have e:b=(s.heap.push { cls:=.type "range", data:=.fields #[.int l t,.int h u,.int 1 v] }).objs.size:=by simpa using c
  subst e;exact a.fpOk (Ag _) (a.hok.fresh (Ag _))
noncomputable def z9l (t:TA):TI:=λσ H R=>t σ H λv a=>∃j:Int,v=[.int j]/\-(2^62)<=j/\j<2^62/\R (Itr 0 j.toNat) a
noncomputable def z8y (t:TA):TI:=λσ H R=>t σ H λa b=>∃i j:Int,a=#v[9,15]/\(-(2^62)<=i/\i<2^62/\-(2^62)<=j/\j<2^62)/\R (Itr i (j-i).toNat) b
theorem zv5 {c:TA}{p pos:Pos} (d:Gl X "range") (f:X.mg "range" = Zb) (l:PA X [a] c) (k:starEach [a] X.env=[(Zc,eval a X.env)]:=by rfl):PI X tg (.Call (.Name "range" p) [a] [] pos) (z9l c):=by
 intro pins s σ H R I h;refine Call_ (zc5 I d f boot_range (Bt (thn (l pos pins s σ H _ I h) λu x ⟨o,w,n,g,b⟩=>?_) k rfl));nofun;obtain⟨j,e,b,m,q⟩:=b;ac_rfl;subst e;cases g with
 | cons r i =>
  cases i;obtain⟨t,rfl⟩:=r;exact call_range_1 (zof n #v[] #v[] b m (by simpa using q))
theorem zwn {g:TA}{p pos:Pos} (n:Gl X "range") (v:X.mg "range" = Zb) (y:PA X [a,b] g) (w:starEach [a,b] X.env=[(Zc,eval a X.env),(Zc,eval b X.env)]:=by rfl) (c:starEach [b] X.env=[(Zc,eval b X.env)]:=by rfl) :
  PI X tg (.Call (.Name "range" p) [a,b] [] pos) (z8y g):=by
 intro pins s σ H R I h;refine Call_ (zc5 I n v boot_range (Bt (thn (y pos pins s σ H _ I h) λD C ⟨A,B,m,o,d⟩=>?_) (by rw[w,c]) (by rw[c];rfl)));nofun;obtain⟨i,j,e,⟨d,l,x,k⟩,q⟩:=d;ac_rfl;subst e;cases o with
 | cons r f =>
  cases f with
  | cons u f =>
   cases f;obtain⟨t,rfl⟩:=r;obtain⟨z,rfl⟩:=u;exact call_range_2 (zof m d l x k q)
noncomputable def tFor (w:TI) (g:TG) (t:TS):TS:=λD σ H=>w σ H λJ d=>∃W:Nat->Nat->St->Hp->Prop,(∃m,W 0 m σ d)/\∀i m σ H,W i m σ H ->
 (J.stop i H/\D.nx σ H)\/(J.go i H/\∃N:St->Hp->Prop,(∀b a,N b a->∃c,c<m/\W (i+1) c b a)/\∀x a,J.yld i H x a->g x σ a λσ2 e=>t { D with nx:=N,ct:=N,bk:=D.nx } σ2 e)
noncomputable def zkc (fp:List Zh) (h:Heap):List (Zh×Obj):=fp.filterMap λb=>(h.get? b).map λo=>(b,o)
theorem zcc (a:b∈fp)(e:h.get? b=Za o):(b,o)∈zkc fp h:=List.mem_filterMap.mpr ⟨b,a,by rw[e];rfl⟩
theorem zxj {p:Zh×Obj} (d:p∈zkc fp h):p.1∈fp/\h.get? p.1=Za p.2:=by
 obtain⟨b,a,e⟩:=List.mem_filterMap.mp d;cases q:h.get? b with
 |none=>rw[q] at e;cases e
 | some o =>
  rw[q] at e;have c:(b,o)=p:=sI e;subst c;exact⟨a,q⟩
theorem Inv.pinned {pins:List (Zh×Obj)}{σ:St}{s:Zf}(I:Inv X pins σ H s)(j:∀b∈fp,FpOk X pins H b)(c:∀b∈fp,∃o,s.heap.get? b=Za o/\∀v,o.data≠.cell v):Inv X (pins++zkc fp s.heap) σ H s :=
 I.pins_of λp g=>(Cb.mp g).elim (λz=>I.pin p (Ay _ z)) λz=>by
  nofun;obtain⟨h,e⟩:=zxj z;obtain⟨i,k,f,_⟩:=j p.1 h;obtain⟨o,a,d⟩:=c p.1 h;ac_rfl;rw[e] at a;obtain rfl:=sI a;exact⟨e,i,k,f,d⟩
theorem Inv.unpinned {pins a:List (Zh×Obj)}{σ:St}{s:Zf}(I:Inv X (pins++a) σ H s):Inv X pins σ H s:=I.pins_of λp h=>I.pin p (Ay _ (List.mem_append_left _ h))
theorem z9g {iter:Zi}{body:List Stmt}{S:TI}{g:TG}{Y:TS}{pos:Pos} (A:PassesOwn #v[1,7] X.A X.env X.xe) (V:X.calm=Zd) (hi:PI X tg iter S) (hg:PG X tg g) (c:PSs X body Y)
  (hs:∀x,foldedSetIterable iter X.env x=pure x:=by intro _;rfl):PS X (.For tg iter body [] pos) (tFor S g Y):=by
 intro pins s σ H D I h;refine wpAny_For (thn (hi pins s σ H _ I h) λv s1 h1=>thn h1 λitv s2 h2=>?_) hs;nofun;obtain⟨it,fp,Z,J,H2,e,I2,T,G,P,W,⟨m0,w0⟩,turn⟩:=h2;ac_rfl;subst e;have p:∀{t:Hp},(∀b∈fp,t b=Zb)->∀b∈fp,FpOk X pins t b:=λhn b c=>⟨hn b c,(P b c).2⟩;refine codeAny_forLoop_any (λn Q=>∃i k t,Inv X pins k t Q/\Z i Q.heap/\(∀b∈fp,t b=Zb)/\W i n k t) ?_ m0 ⟨0,σ,H2,I2,G,λb c=>(P b c).1,w0⟩;rintro n s3 ⟨i,q,E,R,C,B,w3⟩;rcases turn i n q E w3 with⟨stop,qn⟩|⟨go,N,hN,step⟩
 ·refine Fg A (thn (T.done X rfl rfl rfl V i pins s3 q E X.xe R (p B) C stop) λr s4 ⟨F,I4⟩ => ?_);subst F;exact wpAny_execs_nil ⟨q,E,I4,qn⟩
 ·refine Fg A (thn (T.item X rfl rfl rfl V i pins s3 q E X.xe R (p B) C go) λr s4 ⟨u,F,h4⟩ => ?_);subst F;refine Fg A (thn h4 λ_ s5 ⟨x,U,I5,r5,y5,y,M⟩=>?_);have L:=I5.pinned (p M) (T.obj _ _ y);refine Fg A (thn (hg _ s5 q U x u _ L r5 (step x U y5)) λ_ s6 ⟨K,H6,I6,q6⟩=>?_);refine Fg A (thn (c _ s6 K H6 _ I6 q6) λf O w=>?_);have again:∀{a:St}{j:Hp},Inv X (pins++zkc fp s5.heap) a j O->N a j->∃m,m<n/\∃i k t,Inv X pins k t O/\Z i O.heap/\(∀b∈fp,t b=Zb)/\W i m k t:=λ{a j} l z=>by
   obtain⟨m',hm,w7⟩:=hN a j z;refine⟨m',hm,i+1,a,j,l.unpinned,T.keep _ _ _ y λb c o e=>(l.pin (b,o) (Ay _ (Ay _ (zcc c e)))).1,λb c=>?_,w7⟩;obtain⟨o,e,d⟩:=T.obj _ _ y b c;exact (l.pin (b,o) (Ay _ (Ay _ (zcc c e)))).2.1
  cases f with
  |next=>obtain⟨a,j,l,z⟩:=w;exact again l z
  |cont=>obtain⟨a,j,l,z⟩:=w;exact again l z
  |brk=>obtain⟨a,j,l,w⟩:=w;exact⟨a,j,l.unpinned,w⟩
  |ret v=>obtain⟨x7,a,j,l,r7,w⟩:=w;exact⟨x7,a,j,l.unpinned,r7,w⟩
end
noncomputable abbrev R2:=V->V->Hp->VK->Prop
noncomputable def OpR (X:Cx) (f:Ze->Ze->Sem Ze) (r:R2):Prop :=
 ∀(pins:List (Zh×Obj)) (s:Zf) (σ:St) (H:Hp) (x y:V) (v u:Ze) (Q:VK),Inv X pins σ H s->RelV x v->RelV y u->r x y H Q ->
  wpAny #v[1,7] X.A (f v u) (EP X pins σ Q) X.xe s
noncomputable def UnR (X:Cx) (f:Ze->Sem Ze) (r:V->Hp->VK->Prop):Prop :=
 ∀(pins:List (Zh×Obj)) (s:Zf) (σ:St) (H:Hp) (x:V) (v:Ze) (Q:VK),Inv X pins σ H s->RelV x v->r x H Q ->
  wpAny #v[1,7] X.A (f v) (EP X pins σ Q) X.xe s
noncomputable def zek (X:Cx) (f:Ze) (r:List V->Hp->VK->Prop):Prop :=
 ∀(pins:List (Zh×Obj)) (s:Zf) (σ:St) (H:Hp) (x:List V) (u:List Ze) (Q:VK),Inv X pins σ H s->Vals x u->r x H Q ->
  wpAny #v[1,7] X.A (call f u) (EP X pins σ Q) X.xe s
noncomputable def tOp (r:R2) (t b:TE):TE:=λσ H Q=>t σ H λx a=>b σ a λy c=>r x y c Q
noncomputable def tUn (r:V->Hp->VK->Prop) (t:TE):TE:=λσ H Q=>t σ H λx a=>r x a Q
noncomputable def rI (C:Int->Int->Prop) (g:Int->Int->V):R2:=λx y H Q=>∃i j,x=.int i/\y=.int j/\C i j/\Q (g i j) H
noncomputable def rI0 (g:Int->Int->V):R2:=λx y H Q=>∃i j,x=.int i/\y=.int j/\Q (g i j) H
noncomputable def rU (g:Int->V):V->Hp->VK->Prop:=λx H Q=>∃i,x=.int i/\Q (g i) H
section
variable {X:Cx}{a b c:Zi}{ta tb tc:TE}{pos:Pos}
theorem binT (l:PE X a ta) (i:PE X b tb) {pins:List (Zh×Obj)}{s:Zf}{σ:St}{H:Hp}{R:V->V->Hp->Prop} (I:Inv X pins σ H s)
  (h:ta σ H λx g=>tb σ g λy c=>R x y c) {Q:Ze->Zf->Prop}{f:Ze->Ze->Sem Ze}
  (n:∀v u e x y c,Inv X pins σ c e->RelV x v->RelV y u->R x y c->wpAny #v[1,7] X.A (f v u) Q X.xe e) :
  wpAny #v[1,7] X.A (eval a X.env) (λv s₁=>wpAny #v[1,7] X.A (eval b X.env) (λu d=>wpAny #v[1,7] X.A (f v u) Q X.xe d) X.xe s₁) X.xe s:=by
 refine thn (l pins s σ H _ I h) λv o ⟨x,g,p,r,k⟩=>?_;refine thn (i pins o σ g _ p k) λu e ⟨y,c,j,m,q⟩=>?_;exact n v u e x y c j r m q
theorem ycw {op:Operator}{r:R2}(d:OpR X (binaryOp op) r)(j:PE X a ta)(c:PE X b tb):PE X (.BinOp a op b pos) (tOp r ta tb):=by
 intro pins s σ H Q I h;exact wpAny_BinOp (binT j c I h λv u i x y k e g f q=>d pins i σ k x y v u Q e g f q)
theorem yce {op:UnaryOp}{r:V->Hp->VK->Prop}(b:UnR X (unaryOp op) r)(d:PE X a ta):PE X (.UnaryOp op a pos) (tUn r ta):=by
 intro pins s σ H Q I h;exact UnaryOp_ (thn (d pins s σ H _ I h) λv f ⟨x,e,g,c,q⟩=>b pins f σ e x v Q g c q)
theorem opI {C:Int->Int->Prop}{g:Int->Int->Int}
  (rule:∀(i j:Int) (t u:Tok) (s:Zf) (Q:Ze->Zf->Prop) (E:Ze->Zf->Prop),C i j->Q (.int (g i j) s.toks) { s with toks:=s.toks+1 }->wpAny #v[1,7] X.A (f (.int i t) (.int j u)) Q E s) :
  OpR X f (rI C λi j=>.int (g i j)):=by
 intro pins s σ H x y v u Q I a r h;obtain⟨i,j,rfl,rfl,b,q⟩:=h;obtain⟨t,rfl⟩:=a;obtain⟨c,rfl⟩:=r;exact rule i j t c s _ _ b ⟨.int (g i j),H,I.tok _,⟨_,rfl⟩,q⟩
theorem opI0 {f:Ze->Ze->Sem Ze}{g:Int->Int->Int}
  (rule:∀(i j:Int) (t u:Tok) (s:Zf) (Q:Ze->Zf->Prop) (E:Ze->Zf->Prop),Q (.int (g i j) s.toks) { s with toks:=s.toks+1 }->wpAny #v[1,7] X.A (f (.int i t) (.int j u)) Q E s) :
  OpR X f (rI0 λi j=>.int (g i j)):=by
 intro pins s σ H x y v u Q I a r h;obtain⟨i,j,rfl,rfl,q⟩:=h;obtain⟨t,rfl⟩:=a;obtain⟨b,rfl⟩:=r;exact rule i j t b s _ _ ⟨.int (g i j),H,I.tok _,⟨_,rfl⟩,q⟩
theorem opB0 {f:Ze->Ze->Sem Ze}{g:Int->Int->Bool}
  (rule:∀(i j:Int) (t u:Tok) (s:Zf) (Q:Ze->Zf->Prop) (E:Ze->Zf->Prop),Q (.bool (g i j)) s->wpAny #v[1,7] X.A (f (.int i t) (.int j u)) Q E s) :
  OpR X f (rI0 λi j=>.bl (g i j)):=by
 intro pins s σ H x y v u Q I a r h;obtain⟨i,j,rfl,rfl,q⟩:=h;obtain⟨t,rfl⟩:=a;obtain⟨b,rfl⟩:=r;exact rule i j t b s _ _ ⟨.bl (g i j),H,I,rfl,q⟩
noncomputable def CPow (i j:Int):Prop:=0<=j/\j<=1000000/\i.natAbs<2^64
noncomputable def CMul (i j:Int):Prop:=(-(2^64)<i/\i<2^64)\/(-(2^64)<j/\j<2^64)
theorem CMul.ok (h:CMul i j):IntMulOk i j:=by
 rcases h with⟨a,b⟩|⟨a,b⟩
 ·exact .of_left (intBits_le_64 a b)
 ·exact .of_right (intBits_le_64 a b)
theorem zro (k:Nat):(0:Int)<=2^k:=by
 rw[two_pow_cast];exact Ea _
theorem z9b:OpR X (binaryOp .Add) (rI0 λi j=>.int (i+j)):=opI0 λ_ _ _ _ _ _ _ q=>add_int q
theorem z8f:OpR X (binaryOp .Sub) (rI0 λi j=>.int (i-j)):=opI0 λ_ _ _ _ _ _ _ q=>sub_int q
theorem ybl:OpR X (binaryOp .Mult) (rI CMul λi j=>.int (i*j)):=opI λ_ _ _ _ _ _ _ h q=>mul_int q h.ok
theorem z8e:OpR X (binaryOp .Mod) (rI (λ_ j=>0<j) λi j=>.int (i%j)):=opI λi j _ _ _ _ _ h q=>by
 have a:(0:Int)<j:=h;exact mod_int' #v[] (by rw[Int.fmod_eq_emod_of_nonneg i #v[]];exact q)
theorem z84:OpR X (binaryOp .Pow) (rI CPow λi j=>.int (i^j.toNat)):=opI λ_ _ _ _ _ _ _ h q=>pow_int_small h.1 h.2.1 h.2.2 q
theorem yav:OpR X (binaryOp .LShift) (rI CPow λi j=>.int (i*2^j.toNat)):=opI λ_ _ _ _ _ _ _ h q=>lshift_int_small h.1 h.2.1 h.2.2 q
theorem z80:OpR X (binaryOp .RShift) (rI (λ_ j=>0<=j) λi j=>.int (i/2^j.toNat)):=opI λi j _ _ _ _ _ h q =>
 rshift_int h (by rw[Int.fdiv_eq_ediv_of_nonneg i (zro _)];exact q)
theorem z83:OpR X (binaryOp .BitAnd) (rI0 λi j=>.int (Builtin.bitAnd i j)):=opI0 λ_ _ _ _ _ _ _ q=>and_int q
theorem yb3:OpR X (binaryOp .BitOr) (rI0 λi j=>.int (Builtin.bitOr i j)):=opI0 λ_ _ _ _ _ _ _ q=>or_int q
theorem z91:OpR X (binaryOp .BitXor) (rI0 λi j=>.int (Builtin.bitXor i j)):=opI0 λ_ _ _ _ _ _ _ q=>xor_int q
theorem zs8:OpR X (inplaceOp .Add) (rI0 λi j=>.int (i+j)):=opI0 λ_ _ _ _ _ _ _ q=>iadd_int q
theorem z3z:OpR X (inplaceOp .Sub) (rI0 λi j=>.int (i-j)):=opI0 λ_ _ _ _ _ _ _ q=>isub_int q
theorem z68:OpR X (inplaceOp .Mult) (rI CMul λi j=>.int (i*j)):=opI λ_ _ _ _ _ _ _ h q=>imul_int q h.ok
theorem z3e:OpR X (inplaceOp .BitAnd) (rI0 λi j=>.int (Builtin.bitAnd i j)):=opI0 λ_ _ _ _ _ _ _ q=>iand_int q
theorem z9h:OpR X (inplaceOp .BitOr) (rI0 λi j=>.int (Builtin.bitOr i j)):=opI0 λ_ _ _ _ _ _ _ q=>ior_int q
theorem z7k:OpR X (inplaceOp .BitXor) (rI0 λi j=>.int (Builtin.bitXor i j)):=opI0 λ_ _ _ _ _ _ _ q=>ixor_int q
theorem unI {f:Ze->Sem Ze}{g:Int->Int}
  (rule:∀(i:Int) (t:Tok) (s:Zf) (Q:Ze->Zf->Prop) (E:Ze->Zf->Prop),Q (.int (g i) s.toks) { s with toks:=s.toks+1 }->wpAny #v[1,7] X.A (f (.int i t)) Q E s) :
  UnR X f (rU λi=>.int (g i)):=by
 intro pins s σ H x v Q I r h;obtain⟨i,rfl,q⟩:=h;obtain⟨t,rfl⟩:=r;exact rule i t s _ _ ⟨.int (g i),H,I.tok _,⟨_,rfl⟩,q⟩
theorem z9i:UnR X (unaryOp .USub) (rU λi=>.int (-i)):=unI λ_ _ _ _ _ q=>neg_int q
end
noncomputable def scal:V->V->Bool
 |.non,.non=>Zd|.non,.int _=>Zd|.int _,.non=>Zd|.non,.bl _=>Zd|.bl _,.non=>Zd|.non,.str _=>Zd|.str _,.non=>Zd
 |.int _,.int _=>Zd|.bl _,.bl _=>Zd|.str _,.str _=>Zd|.byt _,.byt _=>Zd
 |.int _,.str _=>Zd|.str _,.int _=>Zd|.bl _,.str _=>Zd|.str _,.bl _=>Zd
 |_,_=>Zc
noncomputable def rEq:R2:=λx y H Q=>scal x y=Zd/\Q (.bl (decide (x=y))) H
noncomputable def rNe:R2:=λx y H Q=>scal x y=Zd/\Q (.bl (!decide (x=y))) H
theorem zu6:decide (V.int i=V.int j)=(i==j):=by
 rw[Du];simp
theorem z2b:decide (V.bl i=V.bl j)=(i==j):=by
 rw[Du];simp
theorem zu1:decide (V.str i=V.str j)=(i==j):=by
 rw[Du];simp
theorem ztq:decide (V.byt i=V.byt j)=(i.toList==j.toList):=by
 rw[Du];cases i;cases j;simp
section
variable {X:Cx}{a b c:Zi}{ta tb tc:TE}{pos:Pos}
theorem zaj {pins:List (Zh×Obj)}{σ:St}{s:Zf}(I:Inv X pins σ H s)(q:Q (.bl k) H)(e:k=k'):EP X pins σ Q (.bool k') s:=by
 subst e;exact⟨.bl k,H,I,rfl,q⟩
theorem ycl:OpR X (compareOp .Eq) rEq:=by
 intro pins s σ H x y v u Q I c r h;obtain⟨b,q⟩:=h;cases x with
 | non =>
  cases c;cases y with
  |non=>cases r;exact PySem.EqNone.eq_none_none (zaj I q (by simp))
  |bl j=>cases r;exact PySem.EqNone.eq_none_bool (zaj I q (by simp))
  |int j=>obtain⟨a,rfl⟩:=r;exact PySem.EqNone.eq_none_int (zaj I q (by simp))
  |str j=>obtain⟨a,rfl⟩:=r;exact PySem.EqNone.eq_none_str (zaj I q (by simp))
  |_=>exact absurd (show Zc=Zd from b) As
 | bl i =>
  cases c;cases y with
  |non=>cases r;exact PySem.EqNone.eq_bool_none (zaj I q (by simp))
  |bl j=>cases r;exact eq_bool (zaj I q z2b)
  |str j=>obtain⟨a,rfl⟩:=r;exact PySem.EqMixed.eq_bool_str (zaj I q (by simp))
  |_=>exact absurd (show Zc=Zd from b) As
 | int i =>
  obtain⟨t,rfl⟩:=c;cases y with
  |non=>cases r;exact PySem.EqNone.eq_int_none (zaj I q (by simp))
  |int j=>obtain⟨a,rfl⟩:=r;exact eq_int (zaj I q zu6)
  |str j=>obtain⟨a,rfl⟩:=r;exact PySem.EqMixed.eq_int_str (zaj I q (by simp))
  |_=>exact absurd (show Zc=Zd from b) As
 | str i =>
  obtain⟨t,rfl⟩:=c;cases y with
  |non=>cases r;exact PySem.EqNone.eq_str_none (zaj I q (by simp))
  |bl j=>cases r;exact PySem.EqMixed.eq_str_bool (zaj I q (by simp))
  |int j=>obtain⟨a,rfl⟩:=r;exact PySem.EqMixed.eq_str_int (zaj I q (by simp))
  |str j=>obtain⟨a,rfl⟩:=r;exact eq_str (zaj I q zu1)
  |_=>exact absurd (show Zc=Zd from b) As
 | byt i =>
  obtain⟨t,rfl⟩:=c;cases y with
  |byt j=>obtain⟨a,rfl⟩:=r;exact PySem.W.eq_bytes (zaj I q ztq)
  |_=>exact absurd (show Zc=Zd from b) As
 |_=>cases y<;>exact absurd (show Zc=Zd from b) As
theorem yc1:OpR X (compareOp .NotEq) rNe:=by
 intro pins s σ H x y v u Q I c r h;obtain⟨b,q⟩:=h;cases x with
 | non =>
  cases c;cases y with
  |non=>cases r;exact PySem.EqNone.ne_none_none (zaj I q (by simp))
  |bl j=>cases r;exact PySem.EqNone.ne_none_bool (zaj I q (by simp))
  |int j=>obtain⟨a,rfl⟩:=r;exact PySem.EqNone.ne_none_int (zaj I q (by simp))
  |str j=>obtain⟨a,rfl⟩:=r;exact PySem.EqNone.ne_none_str (zaj I q (by simp))
  |_=>exact absurd (show Zc=Zd from b) As
 | bl i =>
  cases c;cases y with
  |non=>cases r;exact PySem.EqNone.ne_bool_none (zaj I q (by simp))
  |bl j=>cases r;exact ne_bool (zaj I q (congrArg not z2b))
  |str j=>obtain⟨a,rfl⟩:=r;exact PySem.EqMixed.ne_bool_str (zaj I q (by simp))
  |_=>exact absurd (show Zc=Zd from b) As
 | int i =>
  obtain⟨t,rfl⟩:=c;cases y with
  |non=>cases r;exact PySem.EqNone.ne_int_none (zaj I q (by simp))
  |int j=>obtain⟨a,rfl⟩:=r;exact ne_int (zaj I q (congrArg not zu6))
  |str j=>obtain⟨a,rfl⟩:=r;exact PySem.EqMixed.ne_int_str (zaj I q (by simp))
  |_=>exact absurd (show Zc=Zd from b) As
 | str i =>
  obtain⟨t,rfl⟩:=c;cases y with
  |non=>cases r;exact PySem.EqNone.ne_str_none (zaj I q (by simp))
  |bl j=>cases r;exact PySem.EqMixed.ne_str_bool (zaj I q (by simp))
  |int j=>obtain⟨a,rfl⟩:=r;exact PySem.EqMixed.ne_str_int (zaj I q (by simp))
  |str j=>obtain⟨a,rfl⟩:=r;exact ne_str (zaj I q (congrArg not zu1))
  |_=>exact absurd (show Zc=Zd from b) As
 | byt i =>
  obtain⟨t,rfl⟩:=c;cases y with
  |byt j=>obtain⟨a,rfl⟩:=r;exact PySem.W.ne_bytes (zaj I q (congrArg not ztq))
  |_=>exact absurd (show Zc=Zd from b) As
 |_=>cases y<;>exact absurd (show Zc=Zd from b) As
theorem z8t:OpR X (compareOp .Lt) (rI0 λi j=>.bl (decide (i<j))):=opB0 λ_ _ _ _ _ _ _ q=>lt_int q
theorem yde:OpR X (compareOp .LtE) (rI0 λi j=>.bl (decide (i<=j))):=opB0 λ_ _ _ _ _ _ _ q=>le_int q
theorem ydb:OpR X (compareOp .Gt) (rI0 λi j=>.bl (decide (j<i))):=opB0 λ_ _ _ _ _ _ _ q=>gt_int q
theorem ycc:OpR X (compareOp .GtE) (rI0 λi j=>.bl (decide (j<=i))):=opB0 λ_ _ _ _ _ _ _ q=>ge_int q
theorem OpR.or {r a:R2}(h:OpR X f r)(h':OpR X f a):OpR X f (λx y H Q=>r x y H Q\/a x y H Q):=by
 intro pins s σ H x y v u Q I c b q;rcases q with q|q
 ·exact h pins s σ H x y v u Q I c b q
 ·exact h' pins s σ H x y v u Q I c b q
theorem z1z (b:Zi){op:CmpOp}(h:op≠.In:=by decide)(a:op≠.NotIn:=by decide):behindInMarks op b=Zc:=by
 have c:(op==CmpOp.In)=Zc:=by cases op<;>first|rfl|exact absurd rfl h
 have e:(op==CmpOp.NotIn)=Zc:=by cases op<;>first|rfl|exact absurd rfl a
 cases b<;>simp [behindInMarks,c,e]
theorem zuv {op:CmpOp}{r:R2}(d:OpR X (compareOp op) r)(k:PE X a ta)(c:PE X b tb)(j:behindInMarks op b=Zc):PE X (.Compare a [op] [b] pos) (tOp r ta tb):=by
 intro pins s σ H Q I h;exact wpAny_Compare1 (binT k c I h λv u i x y l e g f q=>d pins i σ l x y v u Q e g f q) j
noncomputable def z7y (t:TE):TT:=λσ H Q=>t σ H λx a=>∃k,x=.bl k/\Q k a
theorem zub {op:CmpOp}{r:R2}(f:OpR X (compareOp op) r)(D:PE X a ta)(d:PE X b tb)(B:behindInMarks op b=Zc):PT X (.Compare a [op] [b] pos) (z7y (tOp r ta tb)):=by
 intro pins s σ H Q I h;refine wpAny_isTrue_Compare1 (thn (D pins s σ H _ I h) λv A ⟨x,w,m,t,p⟩=>thn (d pins A σ w _ m p) λu o ⟨y,n,g,j,q⟩ =>
  thn (f pins o σ n x y v u _ g t j q) λc F ⟨z,E,i,l,k,e,C⟩=>?_) B
 subst e;cases l;exact Fx ⟨E,i,C⟩
theorem zpn:(sizeLine:Nat)<2^63:=by rw[sizeLine_eq];decide
theorem zq4:OpR X (binaryOp .Add) (λx y H Q=>∃i j,x=.str i/\y=.str j/\i.length+j.length<=sizeLine/\Q (.str (i++j)) H):=by
 intro pins s σ H x y v u Q I a r h;obtain⟨i,j,rfl,rfl,c,q⟩:=h;obtain⟨t,rfl⟩:=a;obtain⟨b,rfl⟩:=r;exact add_str (λb d=>⟨.str (i++j),H,I.tok _,⟨_,rfl⟩,q⟩) c
theorem vals1 {x:V}{a:List Ze}(r:Vals [x] a):∃u,a=[u]/\RelV x u:=by
 cases r with
 |cons b c=>cases c;exact⟨_,rfl,b⟩
theorem yao {x y:V}{a:List Ze} (r:Vals [x,y] a):∃u w,a=[u,w]/\RelV x u/\RelV y w:=by
 cases r with
 | cons b d =>
  cases d with
  |cons e c=>cases c;exact⟨_,_,rfl,b,e⟩
theorem z1a:zek X (.builtin "abs") (λxs H Q=>∃i,xs=[.int i]/\Q (.int (if i<0 then -i else i)) H):=by
 intro pins s σ H xs b Q I r h;obtain⟨i,rfl,q⟩:=h;obtain⟨u,rfl,t,rfl⟩:=vals1 r;exact call_abs_int λu a=>⟨.int (if i<0 then -i else i),H,I.tok _,⟨_,rfl⟩,q⟩
theorem zv8 (b:X.calm=Zd):zek X (.builtin "max") (λxs H Q=>∃i j,xs=#v[9,15]/\Q (.int (if j > i then j else i)) H):=by
 intro pins s σ H xs e Q I r h;nofun;obtain⟨i,j,rfl,q⟩:=h;obtain⟨u,w,rfl,⟨t,rfl⟩,⟨f,rfl⟩⟩:=yao r;ac_rfl;refine max_two_ints (I.ok.hd b) λd c k=>⟨_,H,I.kept k,?_,q⟩;by_cases a:j > i
 ·rw[if_pos a,if_pos a];exact⟨_,rfl⟩
 ·rw[if_neg a,if_neg a];exact⟨_,rfl⟩
theorem zw3 (b:X.calm=Zd):zek X (.builtin "min") (λxs H Q=>∃i j,xs=#v[9,15]/\Q (.int (if j<i then j else i)) H):=by
 intro pins s σ H xs e Q I r h;obtain⟨i,j,rfl,q⟩:=h;obtain⟨u,w,rfl,⟨t,rfl⟩,⟨f,rfl⟩⟩:=yao r;refine min_two_ints (I.ok.hd b) λd c k=>⟨_,H,I.kept k,?_,q⟩;by_cases a:j<i
 ·rw[if_pos a,if_pos a];exact⟨_,rfl⟩
 ·rw[if_neg a,if_neg a];exact⟨_,rfl⟩
theorem zxa:zek X (.type "int") (λxs H Q=>(∃i,xs=[.int i]/\Q (.int i) H)\/∃k,xs=[.bl k]/\Q (.int (if k then 1 else 0)) H):=by
 intro pins s σ H xs b Q I r h;rcases h with⟨i,rfl,q⟩|⟨k,rfl,q⟩
 ·obtain⟨u,rfl,t,rfl⟩:=vals1 r;exact call_int_int ⟨.int i,H,I,⟨_,rfl⟩,q⟩
 ·obtain⟨u,rfl,a⟩:=vals1 r;cases a;exact call_int_bool ⟨.int (if k then 1 else 0),H,I.tok _,⟨_,rfl⟩,q⟩
end
section
variable {prog:Program}{w:World}{s:Zf}{K:Zg}{x dx C f:Zh}{v:Ze}
end
theorem RelO.some_of {v:V}(r:RelO (Za v) o):∃u,o=Za u/\RelV v u:=by
 cases o with
 |none=>exact (show False from r).elim
 |some u=>exact⟨u,rfl,r⟩
section
variable {w:World}
end
section
variable {pins:List (Zh × Obj)}{σ:St}{s:Zf}{v:V}
end
section
variable {o e value:Zi}{pos pos' tpos:Pos}{ta tv:TE}
end
section
variable {pins:List (Zh × Obj)}{σ:St}{s:Zf}
end
structure Room (k:Nat) (A:Around):Prop where
 hd:A.handled=Zb
 dp:A.depth+3*k+5<recursionLimit
 un:A.units+16*k+200<cLine
 gd:A.guards=Za []
theorem Room.mono (r:Room k A)(h:j<=k):Room j A:=⟨r.hd,by have:=r.dp;symm,by have:=r.un;symm,r.gd⟩
theorem Room.deeper (r:Room (k+1) A)(env:Env):Room k (A.deeper env) :=
 ⟨r.hd,by have:=r.dp;show A.depth+1+3*k+5<_;symm,by have:=r.un;show A.units+3+16*k+200<_;symm,r.gd⟩
theorem Room.depth (r:Room k A):A.depth<recursionLimit:=by have:=r.dp;symm
theorem Room.units0 (r:Room k A):A.units<cLine:=by have:=r.un;symm
noncomputable def tNil:TA:=λ_ H Q=>Q [] H
noncomputable def ze8 (a:TE) (t:TA):TA:=λσ H Q=>a σ H λx b=>t σ b λc d=>Q (x::c) d
section
variable {te:TE}{t:TA}{pos:Pos}
theorem zda:PA X [] tNil:=λ_ _ _ _ H Q I h=>Calls.spliced_nil ⟨[],H,I,.nil,h⟩
theorem zjq (d:PE X e te)(f:PA X es t)(c:starEach (e::es) X.env=(Zc,eval e X.env)::starEach es X.env:=by rfl):PA X (e::es) (ze8 te t):=by
 intro pos pins s σ H Q I h;rw[c];show wpAny _ _ (spliced ((Zc,eval e X.env)::backTo pos (starEach es X.env))) _ _ s;refine Calls.spliced_cons (thn (d pins s σ H _ I h) λu k ⟨x,a,l,r,q⟩=>?_);exact thn (f pos pins k σ a _ l q) λn o ⟨i,m,b,g,j⟩=>⟨x::i,m,b,.cons r g,j⟩
noncomputable def tTup (t:TA):TE:=λσ H Q=>t σ H λx a=>x.length<=sizeLine/\∀p,a p=Zb->Q (.ref p) (upd a p (.tup x))
noncomputable def tLst (t:TA):TE:=λσ H Q=>t σ H λx a=>x.length<=sizeLine/\∀p,a p=Zb->Q (.ref p) (upd a p (.lst x))
theorem z8w {i}(h:PA X es t):PE X (.Tuple es i pos) (tTup t):=by
 intro pins s σ H Q I g;refine wpAny_Tuple_spliced (thn (h pos pins s σ H _ I g) λf a ⟨x,c,d,r,z,q⟩=>⟨by rw[<-r.length];exact z,?_⟩);have j:c a.heap.objs.size=Zb:=d.hok.fresh (Ag _);refine⟨.ref a.heap.objs.size,upd c a.heap.objs.size (.tup x),d.laid (t':=a.toks) (λb u e=>Ab _ e) (Ag _) ?_,rfl,q _ j⟩;exact⟨z,f,r,⟨_,An _ rfl,⟨rfl,_,rfl⟩,rfl⟩⟩
theorem z79 (h:PA X es t):PE X (.List es pos) (tLst t):=by
 intro pins s σ H Q I g;refine wpAny_List_spliced (thn (h pos pins s σ H _ I g) λf a ⟨x,c,d,r,z,q⟩=>⟨by rw[<-r.length];exact z,?_⟩);have i:c a.heap.objs.size=Zb:=d.hok.fresh (Ag _);refine⟨.ref a.heap.objs.size,upd c a.heap.objs.size (.lst x),d.laid (t':=a.toks) (λb u e=>Ab _ e) (Ag _) ?_,rfl,q _ i⟩;exact⟨z,f,0,r,An _ rfl⟩
end
noncomputable abbrev Sp:=List V->Hp->VK->XK->Prop
noncomputable abbrev CXT:=List Env->Hp->Zf->XK->Ze->Zf->Prop
structure Env0 (P:Program) (w:World) (K:Zg) (mg:Str->Option Ze) (base:Heap) (A:Around) (outer:List Env) (s:Zf) (H:Hp):Prop where
 frames:A.frames=Za outer
 mod:Mod K mg base
 bs:∀b o,base.get? b=Za o->s.heap.get? b=Za o/\H b=Zb
 bsz:base.objs.size<=s.heap.objs.size
 funs:s.heap.FunFrames base outer
 frf:∀b∈frs outer,H b=Zb
 hok:HOk P w H s.heap
 bare:AllBare s.gens
noncomputable def CE (outer:List Env) (P:Program) (w:World) (H:Hp) (s:Zf) (Q:VK) (u:Ze) (s':Zf):Prop :=
 ∃v a,s'.os=s.os/\AllBare s'.gens/\Un (frs outer) [] H a s.heap s'.heap/\HOk P w a s'.heap/\RelV v u/\Q v a
noncomputable def CR (CX:CXT) (outer:List Env) (P:Program) (w:World) (H:Hp) (s:Zf) (Q:VK) (E:XK) (r:Result) (s':Zf):Prop :=
 match r with
 |.ok (.ret u)=>CE outer P w H s Q u s'
 |.ok _=>False
 |.error e=>CX outer H s E e s'
structure FnOk (P:Program) (w:World) (K:Zg) (mg:Str->Option Ze) (base:Heap) (CX:CXT) (k:Nat) (f:Zh) (fd:FuncData) (ps:List Str) (sp:Sp):Prop where
 len:∀vs H Q E,sp vs H Q E->vs.length=ps.length
 run:∀(A:Around) (outer:List Env) (s:Zf) (H:Hp) (args:Args) (us:List Ze) (vs:List V) (Q:VK) (E:XK),Room k A->Env0 P w K mg base A outer s H->BindsTo s fd args (ps.zip us)->Vals vs us->sp vs H Q E ->
  codeAny (model P w) A (.call (.ref f) args) (CR CX outer P w H s Q E) s
section
variable {pins:List (Zh × Obj)}{σ:St}{s s' : Zf}
theorem Inv.env0 (I:Inv X pins σ H s):Env0 X.prog X.w X.K X.mg X.base X.A X.stack s H :=
 ⟨I.ok.frames,I.ok.mod,I.bs,Bu I.ok.bsz I.sz,I.stack,I.stkFree,I.hok,I.bare⟩
theorem Inv.after {u:Ze}(I:Inv X pins σ H s)(h:CE X.stack X.prog X.w H s Q u s'):EP X pins σ Q u s':=by
 nofun;obtain⟨v,e,c,bare,un,a,r,q⟩:=h;obtain⟨f,g,d,t,o⟩:=s';ac_rfl;obtain rfl:o=s.os:=c;exact⟨v,e,I.call (h':=f) (g':=g) (d':=d) (t':=t) (ch:=[]) un a bare (λb z=>absurd z (by simp)),r,q⟩
end
noncomputable def z6m (sp:Sp) (dvs:List V) (E:XK) (t:TA):TE:=λσ H Q=>t σ H λv a=>sp (v++dvs) a Q E
noncomputable def znt (K:Zg) (f:FuncData) (p:List Str) (d:List Ze):Prop :=
 ∀(s:Zf) (u:List Ze),K.In s.heap->(u++d).length=p.length->BindsTo s f ⟨u,[]⟩ (p.zip (u++d))
theorem znt.all {K:Zg}{p:List Str}(h:∀u:List Ze,u.length=p.length->bindArgs fd ⟨u,[]⟩=pure (p.zip u)):znt K fd p []:=λs u _ a=>by
 rw[Cf] at a ⊢;exact .of_eq (h u a)
noncomputable def zva (CX:CXT) (X:Cx) (E:XK):Prop:=∀(pins:List (Zh×Obj)) (σ:St) (H:Hp) (s:Zf) (e:Ze) (a:Zf),Inv X pins σ H s->CX X.stack H s E e a->X.xe e a
section
variable {ps:List Str}{sp:Sp}{x m:Str}{p pos apos:Pos}{ta:TE}{t:TA}
theorem ya9 {pins:List (Zh×Obj)}{σ:St}{s:Zf}{a:List Ze}{vs:List V} (F:FnOk X.prog X.w X.K X.mg X.base CX k f fd ps sp) (j:Room k X.A) (d:znt X.K fd ps ds) (m:Vals dvs ds) (g:zva CX X E)
  (I:Inv X pins σ H s) (r:Vals vs a) (h:sp (vs++dvs) H Q E):wpAny #v[1,7] X.A (call (.ref f) a) (EP X pins σ Q) X.xe s:=by
 have c:Vals (vs++dvs) (a++ds):=r.append m;have l:(a++ds).length=ps.length:=by rw[<-c.length];exact F.len _ _ _ _ h
 refine wpAny_call (Gx (F.run X.A X.stack s H ⟨a,[]⟩ (a++ds) (vs++dvs) Q E j I.env0 (d s a I.kIn l) c h) λr i b=>?_);cases r with
 |error e=>exact g pins σ H s e i I b
 | ok fl =>
  cases fl with
  |ret u=>exact I.after b
  |next=>exact False.elim b
  |brk=>exact False.elim b
  |cont=>exact False.elim b
theorem z4s (F:FnOk X.prog X.w X.K X.mg X.base CX k f fd ps sp) (n:Room k X.A) (g:Gl X x) (j:X.mg x=Za (.ref f)) (m:PySem.W.keepIn X.K (.ref f)=Zd) (d:znt X.K fd ps ds) (u:Vals dvs ds) (i:zva CX X E)
  (l:PA X (e::es) t) (b:(x==("__debug__" : Str))=Zc:=by decide) (o:starEach (e::es) X.env=(Zc,eval e X.env)::starEach es X.env:=by rfl) (a:(backTo pos (starEach es X.env)).any (·.1)=Zc:=by rfl) :
  PE X (.Call (.Name x p) (e::es) [] pos) (z6m sp dvs E t):=by
 intro pins s σ H Q I h;refine Gq (z7h I g j ?_ b);refine PySem.W.callWith_K (h₀:=X.base) I.ok.mod.kin m (thn (l pos pins s σ H _ I h) λv z ⟨w,y,c,r,q⟩=>⟨c.kIn,?_⟩) o a;exact ya9 F n d u i c r q
end
section
variable {ps ks:List Str}{sp:Sp}{x m:Str}{p pos apos kpos:Pos}{te ta:TE}{t tk:TA}
end
structure FnScope (N P:List Str) (sc:Scope):Prop where
 kind:sc.kind=.function
 co:sc.isCoroutine=Zc
 gen:sc.isGenerator=Zc
 nd:N.Nodup
 pre:N.take P.length=P
 par:∀x∈P,sc.names.lookup x=Za .local\/sc.names.lookup x=Za .cell
 nofree:∀y∈sc.names,y.2≠.free
theorem zl2 {kindOf:Str->Option NameKind}{x:Str}:∀{binds:List (Str×Ze)}{m:Str->Option Ze},(∀v,(x,v) ∉ binds)->bindL kindOf binds m x=m x
 |[],_,_=>rfl
 | (n,v)::r,m,h=>by
  unfold bindL;rw[zl2 λw a=>h w (Ap _ a)];split
  ·have:x≠n:=by rintro rfl;exact h v Au
   simp [this]
  ·rfl
theorem zlr {kindOf:Str->Option NameKind}{x:Str}:∀{binds:List (Str×Ze)}{m:Str->Option Ze},(∀v,(x,v) ∉ binds)->bindC kindOf binds m x=m x
 |[],_,_=>rfl
 | (n,v)::r,m,h=>by
  unfold bindC;rw[zlr λw a=>h w (Ap _ a)];split
  ·rfl
  ·have:x≠n:=by rintro rfl;exact h v Au
   simp [this]
theorem zkt {kindOf:Str->Option NameKind}{x:Str}{v:Ze}:∀{P:List Str}{vs:List Ze}{i:Nat}{m:Str->Option Ze},P.Nodup->P[i]?=Za x->vs[i]?=Za v->kindOf x=Za .local ->
  bindL kindOf (P.zip vs) m x=Za v
 |[],_,_,_,_,h,_,_=>by simp at h
 |_::_,[],_,_,_,_,h,_=>by simp at h
 | p::P,w::vs,0,m,nd,b,a,c=>by
  simp at b a;subst b;subst a;show bindL kindOf ((p,w)::P.zip vs) m p=_;unfold bindL;rw[zl2 λv d=>(Bl.mp nd).1 (Ed d).1,if_pos c];simp
 | p::P,w::vs,i+1,m,nd,b,a,c=>by
  show bindL kindOf ((p,w)::P.zip vs) m x=_;unfold bindL;exact zkt (i:=i) (Bl.mp nd).2 (by simpa using b) (by simpa using a) c
theorem zlm {kindOf:Str->Option NameKind}{x:Str}{v:Ze}:∀{P:List Str}{vs:List Ze}{i:Nat}{m:Str->Option Ze},P.Nodup->P[i]?=Za x->vs[i]?=Za v->kindOf x≠Za .local ->
  bindC kindOf (P.zip vs) m x=Za v
 |[],_,_,_,_,h,_,_=>by simp at h
 |_::_,[],_,_,_,_,h,_=>by simp at h
 | p::P,w::vs,0,m,nd,b,a,c=>by
  simp at b a;subst b;subst a;show bindC kindOf ((p,w)::P.zip vs) m p=_;unfold bindC;rw[zlr λv d=>(Bl.mp nd).1 (Ed d).1,if_neg c];simp
 | p::P,w::vs,i+1,m,nd,b,a,c=>by
  show bindC kindOf ((p,w)::P.zip vs) m x=_;unfold bindC;exact zlm (i:=i) (Bl.mp nd).2 (by simpa using b) (by simpa using a) c
noncomputable def start (N:List Str) (vs:List V):St:=vs.map Za++List.replicate (N.length-vs.length) Zb
noncomputable def cxOf (CX:CXT) (P:Program) (w:World) (K:Zg) (mg:Str->Option Ze) (base:Heap) (N:List Str) (qual:Str) (scope:Scope) (f:Zh) (c:Ze) (A:Around) (outer:List Env) (s:Zf) (H:Hp) (E:XK):Cx where
 prog:=P
 w:=w
 K:=K
 mg:=mg
 base:=base
 A:=A.deeper (envOfC qual scope s.heap.objs.size f c)
 N:=N
 s₀:=s
 H₀:=H
 env:=envOfC qual scope s.heap.objs.size f c
 outer:=outer
 stack:=envOfC qual scope s.heap.objs.size f c::outer
 ex:=[]
 calm:=Zd
 fn:=λ_=>Zd
 pn:=[]
 xe:=λe d=>wpAny (model P w) (A.deeper (envOfC qual scope s.heap.objs.size f c)) (leaving (envOfC qual scope s.heap.objs.size f c) e) (λ_ a=>CX outer H s E e a) (λb a=>CX outer H s E b a) d
theorem cell_has {s:Scope}{x:Str}(h:s.names.lookup x=Za .cell):∃c,(cellsFrom n s.names []).lookup x=Za c:=by
 have q:=Gh s.names n [] (.inl h);exact Ej.mp q
theorem zkq {w:World}{K:Zg}{N l:List Str}{qual:Str}{scope:Scope}{outer:List Env}{s D:Zf}{C:List Ze}{vs:List V}
  (S:FnScope N l scope) (I:A.handled=Zb) (e0:Env0 P w K mg base A outer s H) (O:vs.length=l.length) (r:Vals vs C)
  (x:InCallC s s.heap.objs.size (bindL (envOfC qual scope s.heap.objs.size f cd).kindOf (l.zip C) λ_=>Zb) (cellsFrom #v[5,10] scope.names []) (bindC (envOfC qual scope s.heap.objs.size f cd).kindOf (l.zip C) λ_=>Zb) D) :
  Inv (cxOf CX P w K mg base N qual scope f cd A outer s H E) [] (start N vs) H D:=by
 have J:l.length<=N.length:=by have:=congrArg List.length S.pre;rw[Cu] at this;symm
 obtain⟨B,R,rfl,F⟩:=x.done;have g:∀b:Zh,b ∉ (cxOf CX P w K mg base N qual scope f cd A outer s H E).ex:=λb z=>absurd (show b∈([]:List Zh) from z) (by simp);refine⟨⟨e0.mod,S.kind,rfl,rfl,Ag _,λy z c B d=>?_,λy j=>?_,λy c _ h=>?_,λ_=>I,Around.frames_deeper e0.frames,.inr ⟨rfl,rfl⟩,λb z=>absurd z (g b),e0.bs,e0.bsz,λb _ _=>g b,λb z=>absurd z (g b),e0.funs,e0.frf⟩,
  rfl,e0.bare,Un.kept F,⟨_,x.toInCall.ns,λi y v B d Q=>?_⟩,λy c h=>⟨_,x.cell y c h⟩,e0.hok.fresh (Ag _),λy c h=>?_,λp m=>absurd (show p∈([]:List (Zh×Obj)) from m) (by simp),e0.hok.kept F,?_⟩
 ·exact name_of_addr x.apart (Br B) (Br d)
 ·have j:scope.names.lookup y=Za .cell \/ scope.names.lookup y=Za .free:=j;rcases j with j|j
  ·exact cell_has j
  ·exact absurd rfl (S.nofree _ (Br j))
 ·exact Gk (x.above y c (Br h))
 ·have t:i<vs.length:=by
   unfold start at d;by_cases t:i<vs.length
   ·exact t
   ·rw[Fm (by simpa using t)] at d;rw[List.getElem?_replicate] at d;split at d<;>cases d
  have L:vs[i]?=Za v:=by
   unfold start at d;rw[Do (by simpa using t),Ar] at d;cases e:vs[i]? with
   |none=>rw[e] at d;cases d
   |some a=>rw[e] at d;cases d;rfl
  obtain⟨u,G,M⟩:=r.get L;have m:l[i]?=Za y:=by
   rw[<-S.pre,List.getElem?_take_of_lt #v[]];exact B
  have o:l.Nodup:=by rw[<-S.pre];exact S.nd.sublist (Eh _ _)
  refine⟨u,M,?_⟩;rcases S.par y (Bm m) with k|k
  ·exact .inl ⟨k,zkt o m G k⟩
  ·obtain⟨c,e⟩:=cell_has (n:=s.heap.objs.size+1) k;refine .inr ⟨.inl k,c,e,?_⟩;have q:=x.cell y c e;rw[zlm o m G (by show scope.names.lookup y≠_;rw[k];decide)] at q;exact q
 ·exact e0.hok.fresh (Gk (x.above y c (Br h)))
 ·unfold start;show _=N.length;rw[Be,Af,Da];symm
theorem ybt {w:World}{K:Zg}{name qual:Str}{params:Arguments}{scope:Scope}{G kV doc C cdv F Z:Ze}{M od:Option Zh}
  {osl:Array (Option Ze)}{N p:List Str}{sp:Sp} (R:K.lookup f=Za ⟨Z,od,.func (PySem.W.fnOf name qual params body scope G kV doc C M cdv F),osl⟩) (z:PySem.W.codeIn K cdv qual=Zd) (S:FnScope N p scope)
  (len:∀vs H Q E,sp vs H Q E->vs.length=p.length)
  (h:∀(A:Around) (outer:List Env) (s:Zf) (H:Hp) (vs:List V) (Q:VK) (E:XK),(Room k (A.deeper (envOfC qual scope s.heap.objs.size f cdv))/\Room (k+1) A)->sp vs H Q E ->
   ∃t,PSs (cxOf CX P w K mg base N qual scope f cdv A outer s H E) body t/\t { nx:=λ_ H'=>Q .non H',rt:=Q } (start N vs) H) :
  FnOk P w K mg base CX (k+1) f (PySem.W.fnOf name qual params body scope G kV doc C M cdv F) p sp:=by
 refine ⟨len,λA outer s H args X vs Q E j i O r g=>?_⟩;have U:=len _ _ _ _ g;have D:K.In s.heap:=i.mod.kin.keeps λb o e=>(i.bs b o e).1;have m:s.heap.NoLimit:=i.mod.nolimit.keeps λb o e=>(i.bs b o e).1;have c:∀y∈p.zip X,scope.names.lookup y.1=Za .local\/(scope.names.lookup y.1=some .cell/\((cellsFrom #v[5,10] scope.names []).lookup y.1).isSome=true):=λ⟨n,v⟩ W=>by
  rcases S.par n (Ed W).1 with q|q
  ·exact .inl q
  ·exact .inr ⟨q,Gh _ _ _ (.inl q)⟩
 refine codeAny_call_function j.depth (D _ _ R) rfl S.co S.gen rfl (PySem.W.codeRec_of D z) (O _ _ _ _ ?_);refine wpAny_newFunctionEnv_cells S.kind c λenv T L x=>?_;subst T;refine ⟨m.keeps x.toInCall.keep,codeAny_func ?_⟩;obtain ⟨t,ht,Y⟩:=h A outer s H vs Q E ⟨j.deeper _,j⟩ g;have I:Inv (cxOf CX P w K mg base N qual scope f cdv A outer s H E) [] (start N vs) H L:=zkq S j.hd i U r x;refine Cv (ht [] L (start N vs) H _ I Y) (λfl l d=>?_) λe l d=>d;have fin:∀{a:St}{H':Hp}{v:V}{u:Ze},Inv (cxOf CX P w K mg base N qual scope f cdv A outer s H E) [] a H' l->RelV v u->Q v H'->CE outer P w H s Q u l :=
  λ{a H' v u} J B q=>⟨v,H',J.os,J.bare,J.base,J.hok,B,q⟩
 cases fl with
 | ret u =>
  obtain⟨v,a,H',J,B,q⟩:=d;exact fin J B q
 | next =>
  obtain⟨a,H',J,q⟩:=d;exact fin (v:=V.non) (u:=Ze.none) J rfl q
 | brk =>
  obtain⟨_,_,_,q⟩:=d;exact False.elim q
 | cont =>
  obtain⟨_,_,_,q⟩:=d;exact False.elim q
section
variable {x:Str}{p pos:Pos}{t:TA}{id T:String}{r:List V->Hp->VK->Prop}
noncomputable def tCB (r:List V->Hp->VK->Prop) (t:TA):TE:=λσ H Q=>t σ H λv a=>r v a Q
theorem zc2 (g:zek X (.builtin id) r) (d:Gl X x) (i:X.mg x=Zb) (c:bootBuiltins x=Za (.builtin id)) (k:PA X (e::es) t) (j:x≠"__name__" := by decide) (b:(x==("__debug__" : Str))=Zc:=by decide)
  (m:starEach (e::es) X.env=(Zc,eval e X.env)::starEach es X.env:=by rfl) (a:(backTo pos (starEach es X.env)).any (·.1)=Zc:=by rfl):PE X (.Call (.Name x p) (e::es) [] pos) (tCB r t):=by
 intro pins s σ H Q I h;refine Gq (zc5 I d i c ?_ j b);exact PyProof.Rows.callWith_builtin1 (thn (k pos pins s σ H _ I h) λu n ⟨v,l,o,f,q⟩=>g pins n σ l v u Q o f q) m a
theorem zgv (g:zek X (.type T) r) (d:Gl X x) (i:X.mg x=Zb) (c:bootBuiltins x=Za (.type T)) (k:PA X (e::es) t) (j:x≠"__name__" := by decide) (b:(x==("__debug__" : Str))=Zc:=by decide)
  (m:starEach (e::es) X.env=(Zc,eval e X.env)::starEach es X.env:=by rfl) (a:(backTo pos (starEach es X.env)).any (·.1)=Zc:=by rfl):PE X (.Call (.Name x p) (e::es) [] pos) (tCB r t):=by
 intro pins s σ H Q I h;refine Gq (zc5 I d i c ?_ j b);exact Bt (thn (k pos pins s σ H _ I h) λu n ⟨v,l,o,f,q⟩=>g pins n σ l v u Q o f q) m a
end
end L2
namespace HT
open PySem PyProof.Rows
section
open PySem.SeqAt
open PySem.AutoSeq1 (wpAny_loadPart')
open PySem.MeetsSeq PySem.MeetsSeq2 PySem.MeetsSeq3
end
section
variable {prog:Program}{w:World}{s:Zf}
theorem cat_tup {t b:Zh}{vs ws:List Ze} (z:IsTup s.heap t vs.toArray) (v:IsTup s.heap b ws.toArray) (l:vs≠[])
  (y:ws=[]->Q (.ref t) s) (x:ws≠[]->Q (.ref s.heap.objs.size) { s with heap:=s.heap.push { cls:=.type "tuple",data:=.seq (vs++ws).toArray } })
  (k:vs.length+ws.length<=sizeLine):wpAny (model prog w) A (binaryOp .Add (.ref t) (.ref b)) Q E s:=by
 obtain⟨⟨cls,r,data,u⟩,g,o,n,m⟩:=id z;obtain⟨⟨p,d,j,f⟩,h,c,q,a⟩:=id v;simp only at o m c a;subst o m c a;have e:vs.toArray++ws.toArray=(vs++ws).toArray:=by simp
 by_cases i:ws=[]
 ·exact concat_meets ⟨_,g,rfl⟩ ⟨_,h,rfl⟩ noFill_tuple_add seq_tuple_add PySem.F.slot_tuple_add PySem.F.entry_tuple_add (Hq _ _)
   (tuple_addW1 t b vs.toArray ws.toArray n q r d u f (by simpa using l) (by simp [i])) ⟨g,h,y i⟩
 ·refine concat_meets ⟨_,g,rfl⟩ ⟨_,h,rfl⟩ noFill_tuple_add seq_tuple_add PySem.F.slot_tuple_add PySem.F.entry_tuple_add (Hq _ _)
   (tuple_addW2 t b vs.toArray ws.toArray n q r d u f (by simpa using l) (by simpa using i) (by rw[Ai,Ai];exact k)) ⟨g,h,?_⟩
  rw[e];exact x i
noncomputable def sIx (n d:Nat):Option Int->Nat
 |none=>d
 |some v=>if v<0 then (v+(n:Int)).toNat else min v.toNat n
theorem sIx_nat (n d k:Nat):sIx n d (Za (k:Int))=min k n:=by
 show (if (k:Int)<0 then ((k:Int)+(n:Int)).toNat else min (k:Int).toNat n)=min k n;rw[if_neg #v[],Fe]
theorem z74 (n d:Nat) (a:d<=n) (o:Option Int):sIx n d o<=n:=by
 cases o with
 |none=>exact a
 | some v =>
  show (if v<0 then (v+(n:Int)).toNat else min v.toNat n)<=n;by_cases h:v<0
  ·rw[if_pos h];symm
  ·rw[if_neg h];exact Nat.min_le_right _ _
theorem zu2 (v:Int)(n d:Nat):(if v<0 then max (v+(n:Int)) 0 else min v (n:Int))=((sIx n d (Za v):Nat):Int):=by
 show (if v<0 then max (v+(n:Int)) 0 else min v (n:Int))=(((if v<0 then (v+(n:Int)).toNat else min v.toNat n):Nat):Int);by_cases h:v<0
 ·simp only [if_pos h];symm
 ·simp only [if_neg h];symm
theorem zrb (l h:Option Int)(n:Nat):Builtin.Slice.sliceAdjust l h 1 (n:Int)=(((sIx n 0 l:Nat):Int),((sIx n n h:Nat):Int)):=by
 have a:¬ ((1:Int)<0):=by symm
 unfold Builtin.Slice.sliceAdjust;simp only [a,if_false];refine Prod.ext ?_ ?_
 ·cases l with
  |none=>rfl
  |some v=>exact zu2 v n 0
 ·cases h with
  |none=>rfl
  |some v=>exact zu2 v n n
theorem zrp (i j:Nat):Builtin.Slice.slicePlaces (i:Int) (j:Int) 1=j-i:=by
 unfold Builtin.Slice.slicePlaces;have h:(1:Int) > 0:=by symm
 simp only [h,Gf,Int.ediv_one];split<;>symm
theorem zh3 {v:Ze}(p:IsPart v o)(h:Q o s):wpAny (model prog w) A (Builtin.Slice.slicePartIndex v) Q E s:=by
 cases p with
 |none=>exact slicePart_none h
 |int i t=>exact slicePart_int h
theorem zc4 {f:Zh}{d e:Ze}{l b:Option Int}{n:Nat}{Q:Int×Int×Nat->Zf->Prop} (g:s.heap.IsSliceOf f d e .none) (p:IsPart d l) (i:IsPart e b)
  (h:Q (((sIx n 0 l:Nat):Int),1,sIx n n b-sIx n 0 l) s):wpAny (model prog w) A (Builtin.Slice.sliceApplied (.ref f) (pure (n:Int))) Q E s:=by
 obtain⟨o,c,j,a⟩:=id g;unfold Builtin.Slice.sliceApplied Builtin.Slice.sliceFields;refine Aa (Aa (Ca c a (x:=d) rfl (Aa (Ca c a (x:=e) rfl (Aa (Ca c a (x:=.none) rfl (Ae ?_)))))));refine Aa (slicePart_none ?_);show wpAny _ _ (if ((1:Int)==0)=Zd then _ else _) _ _ s;rw[if_neg #v[0,9]];refine Aa (zh3 p (Aa (zh3 i (Aa (Ae ?_)))));show wpAny _ _ (match Builtin.Slice.sliceAdjust l b 1 (n:Int) with|(l,b)=>pure (l,(1:Int),Builtin.Slice.slicePlaces l b 1)) _ _ s;rw[zrb l b n];show wpAny _ _ (pure (((sIx n 0 l:Nat):Int),(1:Int),Builtin.Slice.slicePlaces ((sIx n 0 l:Nat):Int) ((sIx n n b:Nat):Int) 1)) _ _ s;rw[zrp];exact Ae h
theorem zzz (xs:Array Ze)(i k:Nat):((List.range k).filterMap λ(m:Nat)=>xs[((i:Int)+(m:Int)*1).toNat]?).toArray=((xs.toList.drop i).take k).toArray:=by
 have e:(λ(m:Nat)=>xs[((i:Int)+(m:Int)*1).toNat]?)=λm=>xs[i+m]?:=by
  funext m
  have:((i:Int)+(m:Int)*1).toNat=i+m:=by symm
  rw[this]
 rw[e];have:=pick_run xs i k;rw[List.filterMap_map] at this;have a:((λx=>xs[x]?) ∘ λx=>i+x)=λm=>xs[i+m]?:=rfl;rw[a] at this;rw[this]
theorem getItem_tuple_cut {t i:Zh}{n j:Ze}{l b:Option Int} (c:IsTup s.heap t items) (k:s.heap.IsSliceOf i n j .none) (o:IsPart n l) (p:IsPart j b)
  (u:¬ (sIx items.size 0 l=0/\sIx items.size items.size b=items.size))
  (h:Q (.ref s.heap.objs.size) { s with heap:=s.heap.push { cls:=.type "tuple",data:=.seq ((items.toList.drop (sIx items.size 0 l)).take (sIx items.size items.size b-sIx items.size 0 l)).toArray } })
  (y:items.size<=sizeLine):wpAny (model prog w) A (getItem (.ref t) (.ref i)) Q E s:=by
 have a:sizeOk (.seq ((items.toList.drop (sIx items.size 0 l)).take (sIx items.size items.size b-sIx items.size 0 l)).toArray):=by
  show ((items.toList.drop (sIx items.size 0 l)).take (sIx items.size items.size b-sIx items.size 0 l)).toArray.size<=sizeLine;rw[Ai,Cu,Gu,Bg];symm
 have C:sIx items.size items.size b<=items.size:=z74 _ _ (Ag _) b;obtain⟨x,d,g,r⟩:=id k;have f:s.TypeIs (.ref i) "slice" := ⟨x,d,g⟩;unfold getItem
 try with_reducible refine Bh ?_
 first|refine Aa (Ae ?_)|skip
 refine Aa (wpAny_sequenceKey c.typeIs #v[0,9] ?_);refine Aa (Ch (name:=Str.ofString "__getitem__") c.typeIs Ek
  (Cz Ek c.typeIs entry_tuple_getitem ?_ (args_tuple_getitem _ _)))
 show wpAny _ _ (Builtin.Tuple.tupleItemsOf (.ref t)>>=_) _ _ s;refine Aa (tupleItemsOf_ c ?_);refine Aa (wpAny_typeOf f ?_);rw[if_pos #v[0,9]];refine Aa (zc4 k o p ?_);have e:¬ ((((sIx items.size 0 l:Nat):Int)==0&&(1:Int)==1&&(sIx items.size items.size b-sIx items.size 0 l)==items.size)=Zd):=by
  intro q;rw[Ac,Ac] at q;have B:((sIx items.size 0 l:Nat):Int)=0:=Bn q.1.1;have z:sIx items.size items.size b-sIx items.size 0 l=items.size:=Bn q.2;exact u ⟨by symm,by symm⟩
 show wpAny _ _ (if (((sIx items.size 0 l:Nat):Int)==0&&(1:Int)==1&&(sIx items.size items.size b-sIx items.size 0 l)==items.size)=Zd then _ else _) _ _ s;rw[if_neg e,zzz]
 first
  |exact Aa (m:=Builtin.Tuple.tupleExact _) (Dp (Ae ⟨_,rfl,Ae h⟩) a)
  |exact Aa (m:=Builtin.Tuple.tupleExact _) (Dp (Aa (Ae (Ae ⟨_,rfl,Ae h⟩))) a)
  |exact Aa (Aa (m:=Builtin.Tuple.tupleExact _) (Dp (Ae (Ae ⟨_,rfl,Ae h⟩)) a))
  |exact Aa (Aa (m:=Builtin.Tuple.tupleExact _) (Dp (Ae ⟨_,rfl,Ae h⟩) a))
end
end HT
namespace L2
open PySem PySem.Spec PyProof.Rows
noncomputable abbrev TO:=St->Hp->(Option Int->Hp->Prop)->Prop
noncomputable def PO (X:Cx) (e:Option Zi) (t:TO):Prop :=
 ∀(pins:List (Zh×Obj)) (s:Zf) (σ:St) (H:Hp) (Q:Option Int->Hp->Prop),Inv X pins σ H s->t σ H Q ->
  wpAny #v[1,7] X.A (evalPart e X.env) (λu b=>∃o a,Inv X pins σ a b/\IsPart u o/\Q o a) X.xe s
noncomputable def zwx:TO:=λ_ H Q=>Q Zb H
noncomputable def z9w (t:TE):TO:=λσ H Q=>t σ H λx a=>∃i,x=.int i/\Q (Za i) a
theorem zch:∀{u:List Ze},Vals (a.map V.int) u->IntsAre u a:=by
 induction a with
 |nil=>intro u r;rw[Gn] at r;cases r;exact .nil
 | cons n a i =>
  intro u r;rw[Ax] at r;cases r with
  | cons b c =>
   obtain⟨t,e⟩:=b;subst e;exact .cons n t (i c)
section
variable {te:TE}{lo hi:Option Zi}{tl th:TO}{pos p2:Pos}
theorem z3v:PO X Zb zwx:=by
 intro pins s σ H Q I h;rw[evalPart_none];exact Ae ⟨Zb,H,I,.none,h⟩
theorem z3b (h:PE X e te):PO X (Za e) (z9w te):=by
 intro pins s σ H Q I c;rw[evalPart_some];refine thn (h pins s σ H _ I c) λu f ⟨x,b,d,r,a⟩=>?_;obtain⟨i,rfl,q⟩:=a;obtain⟨t,rfl⟩:=r;exact⟨Za i,b,d,.int i t,q⟩
noncomputable def SlR (X:Cx) (r:V->Option Int->Option Int->Hp->VK->Prop):Prop :=
 ∀(pins:List (Zh×Obj)) (s:Zf) (σ:St) (H:Hp) (x:V) (v a c:Ze) (lo hi:Option Int) (b:Zh) (Q:VK),Inv X pins σ H s->RelV x v->s.heap.IsSliceOf b a c .none->IsPart a lo->IsPart c hi->r x lo hi H Q ->
  ∃T id,typeLookup (.type T) "__getitem__" = pure (Za (.builtin id))/\s.TypeIs v T/\wpAny #v[1,7] X.A (getItem v (.ref b)) (EP X pins σ Q) X.xe s
theorem SlR.or {r a:V->Option Int->Option Int->Hp->VK->Prop}(h:SlR X r)(h':SlR X a):SlR X (λx lo hi H Q=>r x lo hi H Q\/a x lo hi H Q):=by
 intro pins s σ H x v e g lo hi f Q I b c p d q;rcases q with q|q
 ·exact h pins s σ H x v e g lo hi f Q I b c p d q
 ·exact h' pins s σ H x v e g lo hi f Q I b c p d q
noncomputable def tSl (r:V->Option Int->Option Int->Hp->VK->Prop) (te:TE) (tl th:TO):TE:=λσ H Q=>te σ H λx a=>tl σ a λl c=>th σ c λu b=>r x l u b Q
theorem zy9 {r:V->Option Int->Option Int->Hp->VK->Prop}(j:SlR X r)(C:PE X e te)(E:PO X lo tl)(J:PO X hi th):PE X (.Subscript e (.Slice lo hi Zb p2) pos) (tSl r te tl th):=by
 intro pins s σ H Q I h;refine Subscript_ (thn (C pins s σ H _ I h) λv D ⟨x,B,m,A,y⟩=>?_);refine wpAny_Slice (thn (E pins D σ B _ m y) λd w ⟨l,n,g,o,k⟩=>thn (J pins w σ n _ g k) λc a ⟨u,f,i,p,F⟩=>?_);rw[evalPart_none];refine Ae ?_;have z:Inv X pins σ f { a with heap:=a.heap.push { cls:=.type "slice",data:=.fields #[d,c,.none] } }:=i.kept (t':=a.toks) λb K q=>Ab _ q;obtain⟨T,id,hT,G,t⟩:=j pins { a with heap:=a.heap.push { cls:=.type "slice",data:=.fields #[d,c,.none] } } σ f x v d c l u a.heap.objs.size Q z A (Heap.IsSliceOf.new ..) o p F;show wpAny #v[1,7] X.A (subscriptTail e (.Slice lo hi Zb p2) v (.ref a.heap.objs.size)) (EP X pins σ Q) X.xe { a with heap:=a.heap.push { cls:=.type "slice",data:=.fields #[d,c,.none] } };exact tail_any (ops:=[.ref a.heap.objs.size,v]) G hT t (by with_unfolding_all rfl)
noncomputable def cutV (xs:List V) (lo hi:Option Int):List V:=(xs.drop (HT.sIx xs.length 0 lo)).take (HT.sIx xs.length xs.length hi-HT.sIx xs.length 0 lo)
theorem zgr (xs:List V)(lo hi:Option Int):(cutV xs lo hi).length<=xs.length:=by
 unfold cutV;rw[Cu,Gu];symm
noncomputable def rSlT (K:Zg):V->Option Int->Option Int->Hp->VK->Prop:=λx lo hi H Q=>∃a b,x=.ref a/\SqT K H a b /\
 ¬ (HT.sIx b.length 0 lo=0/\HT.sIx b.length b.length hi=b.length)/\∀p,H p=Zb->Q (.ref p) (upd H p (.tup (cutV b lo hi)))
theorem ybd:SlR X (rSlT X.K):=by
 intro pins s σ H x v w n lo hi u Q I g k j p h;obtain⟨a,d,rfl,m,l,q⟩:=h;cases g;obtain⟨i,r,e,f⟩:=I.tuple m;have c:i.toArray.size=d.length:=by rw[Ai];exact r.length.symm
 refine⟨"tuple",_,PyProof.Rows.slot_tuple_getitem.lookup,e.typeIs,?_⟩;refine HT.getItem_tuple_cut e k j p (by rw[c];exact l) ?_ (by rw[c];exact f);rw[c];refine⟨.ref s.heap.objs.size,_,I.laid (t':=s.toks) (o:=.tup (cutV d lo hi)) (λb t q=>Ab _ q) (Ag _) ?_,rfl,q _ (I.hok.fresh (Ag _))⟩;exact⟨Bu (zgr d lo hi) f,_,(r.drop (HT.sIx d.length 0 lo)).take (HT.sIx d.length d.length hi-HT.sIx d.length 0 lo),zkz.new _ _⟩
noncomputable def z8r (K:Zg):R2:=λx y H Q=>∃a b d c,x=.ref a/\y=.ref b/\SqT K H a d/\SqT K H b c/\d≠[]/\d.length+c.length<=sizeLine /\
 (c=[]->Q (.ref a) H)/\(c≠[]->∀p,H p=Zb->Q (.ref p) (upd H p (.tup (d++c))))
theorem Vals.nil_iff {xs:List V}{u:List Ze}(r:Vals xs u):u=[]↔xs=[]:=by
 cases r with
 |nil=>simp
 |cons _ _=>simp
theorem z3n:OpR X (binaryOp .Add) (z8r X.K):=by
 intro pins s σ H x y v u Q I g f h;obtain⟨a,b,m,k,rfl,rfl,A,e,t,d,l,j⟩:=h;cases g;cases f;obtain⟨n,c,p,_⟩:=I.tuple A;obtain⟨i,r,p2,_⟩:=I.tuple e;refine HT.cat_tup p p2 (λz=>t (c.nil_iff.mp z)) (λz=>⟨.ref a,H,I,rfl,l (r.nil_iff.mp z)⟩) (λz=>?_) (by rw[<-c.length,<-r.length];exact d);refine⟨.ref s.heap.objs.size,_,I.laid (t':=s.toks) (o:=.tup (m++k)) (λb B q=>Ab _ q) (Ag _) ?_,rfl,j (λw=>z (r.nil_iff.mpr w)) _ (I.hok.fresh (Ag _))⟩;exact⟨by rw[Be];exact d,_,c.append r,zkz.new _ _⟩
end
noncomputable def ixN (n:Nat) (i:Int):Option Nat:=if 0<=i then (if i<n then Za i.toNat else Zb) else if -(n:Int)<=i then Za (i+n).toNat else Zb
noncomputable def atI {α:Type} (xs:List α) (i:Int):Option α:=(ixN xs.length i).bind λj=>xs[j]?
theorem zxr (h:ixN n i=Za j):seqIndex? i n=Za j/\j<n/\-(n:Int)<=i/\i<n:=by
 unfold ixN at h;by_cases b:0<=i
 ·rw[if_pos b] at h;by_cases a:i<n
  ·rw[if_pos a] at h;have e:i.toNat=j:=sI h;exact⟨by rw[seqIndex_of b a,e],by symm,by symm,a⟩
  ·rw[if_neg a] at h;cases h
 ·rw[if_neg b] at h;by_cases a:-(n:Int)<=i
  ·rw[if_pos a] at h;have e:(i+n).toNat=j:=sI h;exact⟨by rw[seqIndex_neg #v[] a,e],by symm,a,by symm⟩
  ·rw[if_neg a] at h;cases h
theorem zvn {α:Type}{xs:List α}{v:α} (h:atI xs i=Za v):∃j,seqIndex? i xs.length=Za j/\xs[j]?=Za v/\j<xs.length/\-(xs.length:Int)<=i/\i<xs.length:=by
 unfold atI at h;cases e:ixN xs.length i with
 |none=>rw[e] at h;cases h
 | some j =>
  rw[e] at h;obtain⟨d,c,a,b⟩:=zxr e;exact⟨j,d,h,c,a,b⟩
theorem z6k {α:Type}{xs:List α}{j:Nat}{v:α}(h:xs[j]?=Za v):atI xs (j:Int)=Za v:=by
 have a:j<xs.length:=(Ah.mp h).1;have e:ixN xs.length (j:Int)=Za j:=by
  unfold ixN;rw[if_pos #v[],if_pos #v[]];simp
 unfold atI;rw[e];exact h
noncomputable def zvu (b:Zi):Prop:=∀o i,subscripted b Zc o i=operate [o,i] (getItem o i)
noncomputable def IxR (X:Cx) (r:R2):Prop :=
 ∀(value a:Zi) (pins:List (Zh×Obj)) (s:Zf) (σ:St) (H:Hp) (x y:V) (v u:Ze) (Q:VK),Inv X pins σ H s->RelV x v->RelV y u->r x y H Q ->
  subscripted a Zc v u=operate [v,u] (getItem v u)->wpAny #v[1,7] X.A (subscriptTail value a v u) (EP X pins σ Q) X.xe s
noncomputable def MtR (X:Cx) (id:String) (r:V->List V->Hp->VK->Prop):Prop :=
 ∀(pins:List (Zh×Obj)) (s:Zf) (σ:St) (H:Hp) (x:V) (a:List V) (v:Ze) (u:List Ze) (Q:VK),Inv X pins σ H s->RelV x v->Vals a u->r x a H Q ->
  wpAny #v[1,7] X.A (call (.builtin id) (v::u)) (EP X pins σ Q) X.xe s
section
variable {ta tb:TE}{pos:Pos}
theorem IxR.or {r b:R2}(h:IxR X r)(h':IxR X b):IxR X (λx y H Q=>r x y H Q\/b x y H Q):=by
 intro value a pins s σ H x y v u Q I d c q e;rcases q with q|q
 ·exact h value a pins s σ H x y v u Q I d c q e
 ·exact h' value a pins s σ H x y v u Q I d c q e
theorem z9k {r:R2}(k:IxR X r)(j:PE X a ta)(c:PE X b tb)(i:zvu b):PE X (.Subscript a b pos) (tOp r ta tb):=by
 intro pins s σ H Q I h;exact Subscript_ (binT j c I h λv u g x y l d f e q=>k a b pins g σ l x y v u Q d f e q (i _ _))
noncomputable def rIxL (K:Zg):R2:=λx y H Q=>∃p a i v,x=.ref p/\y=.int i/\SqL K H p a/\atI a i=Za v/\Q v H
noncomputable def rIxT (K:Zg):R2:=λx y H Q=>∃p a i v,x=.ref p/\y=.int i/\SqT K H p a/\atI a i=Za v/\Q v H
theorem zwy:IxR X (rIxL X.K):=by
 intro value c pins s σ H x y v u Q I n m h k;nofun;obtain⟨p,J,i,z,rfl,rfl,E,C,q⟩:=h;ac_rfl;cases n;nofun;obtain⟨t,rfl⟩:=m;obtain⟨e,r,b,L⟩:=I.list E;obtain⟨j,a,o,K,B,F⟩:=zvn C;obtain⟨w,g,d⟩:=r.get o;ac_rfl;have D:=r.length;have G:=zpn;have fin:EP X pins σ Q w s:=⟨z,H,I,d,q⟩;by_cases l:0<=i
 ·have f:i.toNat=j:=by
   rw[seqIndex_of l F] at a;exact sI a
  exact item_listR b.isList l #v[] (by rw[f];simpa using g) fin k
 ·have f:(i+(e.toArray.size:Int)).toNat=j:=by
   rw[seqIndex_neg #v[] B] at a;rw[Ai,<-D];exact sI a
  exact subscriptTail_builtinR (x:=w) b.isList.typeIs slot_list_getitem.lookup
   (wpAny_getItem_list_neg (Q:=λr A=>r=w/\EP X pins σ Q r A) b.isList #v[] (by rw[Ai]<;>symm) #v[] (by rw[f];simpa using g) ⟨rfl,fin⟩) k
theorem z2e:IxR X (rIxT X.K):=by
 intro value a pins s σ H x y v u Q I e d h A;obtain⟨p,E,i,z,rfl,rfl,o,m,q⟩:=h;cases e;obtain⟨t,rfl⟩:=d;obtain⟨B,r,c,J⟩:=I.tuple o;obtain⟨j,l,f,F,D,G⟩:=zvn m;obtain⟨w,k,b⟩:=r.get f;have n:=r.length;have C:=zpn;have fin:EP X pins σ Q w s:=⟨z,H,I,b,q⟩;exact subscriptTail_builtinR (x:=w) c.typeIs slot_tuple_getitem.lookup
  (getItem_tuple (j:=j) (Q:=λr g=>r=w/\EP X pins σ Q r g) c #v[] #v[] (by rw[Ai,<-n];exact l) (by simpa using k) ⟨rfl,fin⟩) A
theorem zqq (i:List Ze)(n j:Nat)(u:Ze):Obj.mapSeq (·.setIfInBounds j u) { cls:=.type "list",data:=.seq i.toArray n }={ cls:=.type "list",data:=.seq (i.set j u).toArray n }:=by
 simp [Obj.mapSeq]
theorem Inv.lst {pins:List (Zh×Obj)}{σ:St}{H:Hp}{s:Zf}{p:Zh}{xs:List V} (I:Inv X pins σ H s) (h:H p=Za (.lst xs)) :
  ∃(i:List Ze) (n:Nat),Vals xs i/\s.heap.get? p=Za { cls:=.type "list",data:=.seq i.toArray n }/\xs.length<=sizeLine:=by
 nofun;obtain⟨z,i,n,r,e⟩:=I.hok p _ h;ac_rfl;exact⟨i,n,r,e,z⟩
theorem Inv.lstUpd {pins:List (Zh×Obj)}{σ:St}{H:Hp}{s:Zf}{p:Zh}{xs ys:List V}{i its':List Ze}{n a:Nat}{f:Obj->Obj} (I:Inv X pins σ H s) (h:H p=Za (.lst xs))
  (g:s.heap.get? p=Za { cls:=.type "list",data:=.seq i.toArray n }) (c:f { cls:=.type "list",data:=.seq i.toArray n }={ cls:=.type "list",data:=.seq its'.toArray a }) (r:Vals ys its') (j:ys.length<=sizeLine) (t:Nat) :
  Inv X pins σ (upd H p (.lst ys)) { s with heap:=s.heap.update p f,toks:=t }:=by
 have e:(s.heap.update p f).get? p=Za { cls:=.type "list",data:=.seq its'.toArray a }:=by
  rw[Hg f g (by rw[c]<;>rfl),c]
 refine I.write (x:=p) (e:=p) (by rw[h];trivial) (.inl rfl) (λb u d q=>(Dq _ _ (Ne.symm d)).trans q) ⟨_,e⟩ ?_;exact⟨j,its',a,r,e⟩
noncomputable def yaj:V->V->V->Hp->(Hp->Prop)->Prop:=λo i v H Q=>∃p x k j,o=.ref p/\i=.int k/\H p=Za (.lst x)/\ixN x.length k=Za j/\Q (upd H p (.lst (x.set j v)))
theorem z0q:PSet X yaj:=by
 intro pins s σ H o i v G F u Q I y x C h;nofun;obtain⟨p,z,k,j,rfl,rfl,l,B,q⟩:=h;ac_rfl;cases y;nofun;obtain⟨t,rfl⟩:=x;obtain⟨a,n,r,c,A⟩:=I.lst l;obtain⟨b,D,m,g⟩:=zxr B;ac_rfl;have d:=r.length;have E:=zpn;have f:Inv X pins σ (upd H p (.lst (z.set j v))) { s with heap:=s.heap.update p (Obj.mapSeq (·.setIfInBounds j u)) } :=
  I.lstUpd l c (zqq a n j u) (r.set C j) (by rw[Ee];exact A) s.toks
 by_cases w:0<=k
 ·have e:k.toNat=j:=by
   rw[seqIndex_of w g] at b;exact sI b
  exact PySem.W.ki_setAt c w #v[] (by rw[Ai,<-d];exact g) (by rw[e];exact⟨_,f,q⟩)
 ·have e:(k+(a.toArray.size:Int)).toNat=j:=by
   rw[seqIndex_neg #v[] m] at b;rw[Ai,<-d];exact sI b
  exact PySem.W.ki_setBack c #v[] (by rw[Ai,<-d];exact m) #v[] (by rw[e];exact⟨_,f,q⟩)
theorem zmd (l a:Option Int) (n:Nat):(sliceBounds l a Zb n).1=((HT.sIx n 0 l:Nat):Int)/\(sliceBounds l a Zb n).2.1=((HT.sIx n n a:Nat):Int)/\(sliceBounds l a Zb n).2.2=1:=by
 refine⟨?_,?_,rfl⟩
 ·cases l with
  |none=>simp [sliceBounds,HT.sIx]
  | some i =>
   simp only [sliceBounds,HT.sIx,Option.getD_none,show (1:Int) > 0 by decide,Gf];by_cases h:i<0
   ·simp only [h,Gf]<;>symm
   ·simp only [h,if_false]<;>symm
 ·cases a with
  |none=>simp [sliceBounds,HT.sIx]
  | some i =>
   simp only [sliceBounds,HT.sIx,Option.getD_none,show (1:Int) > 0 by decide,Gf];by_cases h:i<0
   ·simp only [h,Gf]<;>symm
   ·simp only [h,if_false]<;>symm
theorem zjs (i:List Ze)(l h:Option Int):slicePick i.toArray l h Zb=((i.drop (HT.sIx i.length 0 l)).take (HT.sIx i.length i.length h-HT.sIx i.length 0 l)).toArray:=by
 obtain⟨c,b,a⟩:=zmd l h i.toArray.size;unfold slicePick;rw[c,b,a];simp only [sliceRange_one,pick_run,Ai]<;>rfl
noncomputable def rSlL (K:Zg):V->Option Int->Option Int->Hp->VK->Prop:=λx l h H Q=>∃a b,x=.ref a/\SqL K H a b/\∀p,H p=Zb->Q (.ref p) (upd H p (.lst (cutV b l h)))
theorem z43:SlR X (rSlL X.K):=by
 intro pins s σ H x v u y l e w Q I j k p m h;obtain⟨a,c,rfl,g,q⟩:=h;cases j;obtain⟨i,r,f,n⟩:=I.list g;have d:=r.length;refine⟨"list",_,slot_list_getitem.lookup,f.isList.typeIs,?_⟩;refine wpAny_getItem_list_slice f.isList k p m .none (by simp) ?_ (by rw[Ai]<;>symm);rw[zjs,<-d];refine⟨.ref s.heap.objs.size,_,I.laid (t':=s.toks) (o:=.lst (cutV c l e)) (λb t q=>Ab _ q) (Ag _) ?_,rfl,q _ (I.hok.fresh (Ag _))⟩;exact⟨Bu (zgr c l e) n,_,0,(r.drop (HT.sIx c.length 0 l)).take (HT.sIx c.length c.length e-HT.sIx c.length 0 l),An _ rfl⟩
noncomputable def zht:V->Bool
 |.non=>Zd
 |.bl _=>Zd
 |.int _=>Zd
 |.str _=>Zd
 |_=>Zc
noncomputable def eqV:V->V->Bool
 |.non,.non=>Zd
 |.bl a,.bl b=>a==b
 |.bl a,.int b=>(if a then 1 else 0)==b
 |.int a,.bl b=>a==(if b then 1 else 0)
 |.int a,.int b=>a==b
 |.str a,.str b=>a==b
 |_,_=>Zc
theorem z9d {s:Zf}{y x:V}{u v:Ze} (d:RelV y u) (r:RelV x v) (e:zht y=Zd) (f:zht x=Zd):SeqAt.EqAt A s u v (eqV y x):=by
 cases y with
 | non =>
  cases d;cases x with
  |non=>cases r;exact SeqAt.EqAt.same _
  |bl b=>cases r;exact SeqAt.EqAt.none_bool b
  |int b=>obtain⟨t,rfl⟩:=r;exact SeqAt.EqAt.none_int b t
  |str b=>obtain⟨t,rfl⟩:=r;exact SeqAt.EqAt.none_str b t
  |_=>exact absurd (show Zc=Zd from f) As
 | bl a =>
  cases d;cases x with
  |non=>cases r;exact SeqAt.EqAt.bool_none a
  |bl b=>cases r;exact SeqAt.EqAt.bool_bool a b
  |int b=>obtain⟨t,rfl⟩:=r;exact SeqAt.EqAt.bool_int a b t
  |str b=>obtain⟨t,rfl⟩:=r;exact SeqAt.EqAt.bool_str a b t
  |_=>exact absurd (show Zc=Zd from f) As
 | int a =>
  obtain⟨c,rfl⟩:=d;cases x with
  |non=>cases r;exact SeqAt.EqAt.int_none a c
  |bl b=>cases r;exact SeqAt.EqAt.int_bool a c b
  |int b=>obtain⟨t,rfl⟩:=r;exact SeqAt.EqAt.int_int a c b t
  |str b=>obtain⟨t,rfl⟩:=r;exact SeqAt.EqAt.int_str a c b t
  |_=>exact absurd (show Zc=Zd from f) As
 | str a =>
  obtain⟨c,rfl⟩:=d;cases x with
  |non=>cases r;exact SeqAt.EqAt.str_none a c
  |bl b=>cases r;exact SeqAt.EqAt.str_bool a c b
  |int b=>obtain⟨t,rfl⟩:=r;exact SeqAt.EqAt.str_int a c b t
  |str b=>obtain⟨t,rfl⟩:=r;exact SeqAt.EqAt.str_str a c b t
  |_=>exact absurd (show Zc=Zd from f) As
 |_=>exact absurd (show Zc=Zd from e) As
noncomputable def eqU (x:V) (u:Ze):Bool:=match u with
 |.none=>eqV .non x
 |.bool b=>eqV (.bl b) x
 |.int i _=>eqV (.int i) x
 |.str z _=>eqV (.str z) x
 |_=>Zc
theorem z1u {x y:V}{u:Ze}(r:RelV y u)(f:zht y=Zd):eqU x u=eqV y x:=by
 cases y with
 |non=>cases r;rfl
 |bl b=>cases r;rfl
 |int i=>obtain⟨t,rfl⟩:=r;rfl
 |str z=>obtain⟨t,rfl⟩:=r;rfl
 |_=>exact absurd (show Zc=Zd from f) As
theorem zg0 {x:V}:∀{xs:List V}{a:List Ze},Vals xs a->xs.all zht=Zd->a.any (eqU x)=xs.any λy=>eqV y x
 |_,_,.nil,_=>rfl
 | y::xs,u::a,.cons r t,f=>by
  rw[Bv,Ac] at f;rw[Dy,Dy,z1u r f.1,zg0 t f.2]
theorem zed {s:Zf}{x:V}{v:Ze} (b:RelV x v) (c:zht x=Zd):∀{xs:List V}{a:List Ze},Vals xs a->xs.all zht=Zd->∀u∈a,SeqAt.EqAt A s u v (eqU x u)
 |_,_,.nil,_=>λu h=>by cases h
 | y::xs,u::a,.cons r t,f=>λd h=>by
  rw[Bv,Ac] at f;rcases Ak.mp h with rfl|h
  ·rw[z1u r f.1];exact z9d r b f.1 c
  ·exact zed b c t f.2 d h
noncomputable def inV (x:V) (xs:List V):Bool:=xs.any λy=>eqV y x
noncomputable def rIn (K:Zg) (n:Bool):R2:=λx y H Q=>∃p a,y=.ref p/\(SqL K H p a\/SqT K H p a)/\zht x=Zd/\a.all zht=Zd/\Q (.bl (if n then !inV x a else inV x a)) H
theorem zse:OpR X (compareOp .In) (rIn X.K Zc):=by
 intro pins s σ H x y v u Q I d e h;obtain⟨p,j,rfl,a,f,fs,q⟩:=h;cases e;rcases a with a|a
 ·obtain⟨i,r,b,g⟩:=I.list a;refine SeqAt.in_listAt (eqU x) b.isList (λw c=>zed d f r fs w (by simpa using c)) ⟨.bl _,H,I,rfl,?_⟩;rw[show i.toArray.any (eqU x)=i.any (eqU x) by simp,zg0 r fs];exact q
 ·obtain⟨i,r,b,g⟩:=I.tuple a;refine SeqAt.in_tupleAt (eqU x) b (λw c=>zed d f r fs w (by simpa using c)) ⟨.bl _,H,I,rfl,?_⟩;rw[show i.toArray.any (eqU x)=i.any (eqU x) by simp,zg0 r fs];exact q
theorem zk2:OpR X (compareOp .NotIn) (rIn X.K Zd):=by
 intro pins s σ H x y v u Q I d e h;obtain⟨p,j,rfl,a,f,fs,q⟩:=h;cases e;rcases a with a|a
 ·obtain⟨i,r,b,g⟩:=I.list a;refine SeqAt.notIn_listAt (eqU x) b.isList (λw c=>zed d f r fs w (by simpa using c)) ⟨.bl _,H,I,rfl,?_⟩;rw[show i.toArray.any (eqU x)=i.any (eqU x) by simp,zg0 r fs];exact q
 ·obtain⟨i,r,b,g⟩:=I.tuple a;refine SeqAt.notIn_tupleAt (eqU x) b (λw c=>zed d f r fs w (by simpa using c)) ⟨.bl _,H,I,rfl,?_⟩;rw[show i.toArray.any (eqU x)=i.any (eqU x) by simp,zg0 r fs];exact q
theorem zl8:zek X (.builtin "len") (λxs H Q=>∃p ys,xs=[.ref p]/\(SqL X.K H p ys\/SqT X.K H p ys)/\Q (.int ys.length) H):=by
 intro pins s σ H xs g Q I r h;obtain⟨p,ys,rfl,b,q⟩:=h;obtain⟨u,rfl,e⟩:=vals1 r;cases e;have j:=zpn;rcases b with b|b
 ·obtain⟨i,d, c,f⟩:=I.list b;have a:=d.length;exact Calls.call_len_list c.isList (by simp only [Ai]<;>symm) ⟨.int ys.length,H,I.tok _,⟨s.toks+1,by rw[Ai,a]⟩,q⟩
 ·obtain⟨i,d, c,f⟩:=I.tuple b;have a:=d.length;exact len_tuple c (by simp only [Ai]<;>symm) ⟨.int ys.length,H,I.tok _,⟨s.toks+1,by rw[Ai,a]⟩,q⟩
theorem zlu:zek X (.type "list") (λxs H Q=>∃p ys,xs=[.ref p]/\(SqL X.K H p ys\/SqT X.K H p ys)/\∀l,H l=Zb->Q (.ref l) (upd H l (.lst ys))):=by
 intro pins s σ H xs z Q I r h;obtain ⟨p,ys,rfl,g,q⟩:=h;obtain ⟨u,rfl,y⟩:=vals1 r;cases y;have fin:∀(i:List Ze),Vals ys i->ys.length<=sizeLine->∀(a:Heap) (c:Nat),(∀b x,s.heap.get? b=Za x->a.get? b=Za x) ->
   a.get? s.heap.objs.size=Za { cls:=.type "list",dict:=Zb,data:=.seq i.toArray c,slots:=#[] }->EP X pins σ Q (.ref s.heap.objs.size) { s with heap:=a }:=λi d j a c k e =>
  ⟨.ref s.heap.objs.size,_,I.laid (t':=s.toks) k (Ag _) (show zbm X.prog X.w _ a _ (.lst ys) from ⟨j,i,c,d,e⟩),rfl,q _ (I.hok.fresh (Ag _))⟩
 rcases g with g|g
 ·obtain⟨i,d, v,j⟩:=I.list g;have f:=d.length;obtain⟨o,m,w,n,t⟩:=v.isList;exact call_list_seq p (.inl rfl) m w t (λa c k e=>fin i d j a c k e) (by simp only [Ai]<;>symm)
 ·obtain⟨i,d, v,j⟩:=I.tuple g;have f:=d.length;obtain⟨o,m,w,n,t⟩:=v;exact call_list_seq p (.inr rfl) m w t (λa c k e=>fin i d j a c k e) (by simp only [Ai]<;>symm)
theorem zja:zek X (.type "tuple") (λxs H Q=>∃p ys,xs=[.ref p]/\((SqL X.K H p ys/\∀l,H l=Zb->Q (.ref l) (upd H l (.tup ys)))\/(SqT X.K H p ys/\Q (.ref p) H))):=by
 intro pins s σ H xs v Q I r h;obtain⟨p,ys,rfl,h⟩:=h;obtain⟨u,rfl,n⟩:=vals1 r;cases n;rcases h with⟨f,q⟩|⟨f,q⟩
 ·obtain ⟨i,d, c,j⟩:=I.list f;have g:=d.length;refine call_tuple_list c.isList (λa t=>?_) (by simp only [Ai]<;>symm);have k:Inv X pins σ H { s with heap:=a }:=I.kept (t':=s.toks) t;have m:Inv X pins σ (upd H a.objs.size (.tup ys)) { s with heap:=a.push { cls:=.type "tuple",data:=.seq i.toArray } } :=
   k.laid (t':=s.toks) (λb o e=>Ab _ e) (Ag _) (show zbm X.prog X.w _ _ _ (.tup ys) from ⟨j,i,d,zkz.new _ _⟩)
  exact⟨.ref a.objs.size,_,m,rfl,q _ (k.hok.fresh (Ag _))⟩
 ·obtain⟨i,d, c,j⟩:=I.tuple f;exact call_tuple_same c ⟨.ref p,H,I,rfl,q⟩
noncomputable def tyV (K:Zg) (T:String) (x:V) (H:Hp):Prop:=match x with
 |.str _=>T = "str"
 |.int _=>T = "int"
 | .ref p=>(T = "list"/\∃a,SqL K H p a)\/(T = "tuple"/\∃o,K.lookup p=Za o/\o.cls=.type "tuple"/\o.dict=Zb) \/
  (T = "dict"/\((∃kvs,H p=Za (.dK kvs))\/∃kvs,H p=Za (.dT kvs)))\/(T = "set"/\∃S n,H p=Za (.set S n))
 |_=>False
theorem yay {pins:List (Zh×Obj)}{σ:St}{s:Zf}{x:V}{v:Ze} (I:Inv X pins σ H s) (r:RelV x v) (ty:tyV X.K T x H) :
  s.TypeIs v T/\∀a,v=.ref a->∃j,s.heap.get? a=Za j/\j.dict=Zb:=by
 cases x with
 | str z =>
  obtain⟨t,rfl⟩:=r;cases (show T = "str" from ty);exact⟨typeIs_str s z t,λ_ e=>nomatch e⟩
 | int i =>
  obtain⟨t,rfl⟩:=r;cases (show T = "int" from ty);exact⟨typeIs_int s i t,λ_ e=>nomatch e⟩
 | ref p =>
  cases r;rcases ty with⟨rfl,q,l⟩|⟨rfl,o,h,m,f⟩|⟨rfl,h⟩|⟨rfl,S,n,h⟩
  ·obtain ⟨k,_,g,_⟩:=I.list l
   refine⟨g.isList.typeIs,λa e=>?_⟩;cases e;obtain⟨o,n,e,c,f,_⟩:=g;exact⟨o,e,f⟩
  ·refine ⟨⟨o,I.kIn p o h,m⟩,λa e => ?_⟩
   cases e;exact⟨o,I.kIn _ o h,f⟩
  ·have z:∃o,s.heap.get? p=Za o/\o.ExactDict:=by
    rcases h with⟨kvs,h⟩|⟨kvs,h⟩
    ·obtain ⟨_,_,_,_,o,_,_,e,b,_⟩:=I.hok p _ h
     exact⟨o,e,b⟩
    ·obtain ⟨_,_,_,_,o,_,_,e,b,_⟩:=I.hok p _ h
     exact⟨o,e,b⟩
   obtain⟨o,e,b⟩:=z;refine⟨⟨o,e,b.1⟩,λa d=>?_⟩;cases d;exact⟨o,e,b.2.1⟩
  ·obtain ⟨o,_,_,_,e,b,_⟩:=I.hok p _ h
   refine⟨⟨o,e,b.1⟩,λa d=>?_⟩;cases d;exact⟨o,e,b.2.1⟩
 |_=>exact False.elim ty
noncomputable def tBM (K:Zg) (T:String) (r:V->List V->Hp->VK->Prop) (c:TE) (t:TA):TE:=λσ H Q=>c σ H λx a=>tyV K T x a/\t σ a λb d=>r x b d Q
variable {to:TE}{t:TA}{T id:String}{r:V->List V->Hp->VK->Prop}
theorem ydf (C:PlainAttrs T) (slot:Slot T name id) (f:typeOf (.builtin id)=pure (.type "method_descriptor")) (E:MtR X id r) (k:PE X o to) (G:PA X (e::es) t)
  (b:attributeBase o name X.env (eval o X.env)=eval o X.env:=by rfl)
  (d:((backTo cpos (starEach (e::es) X.env)).all (λx=>!x.1)&&(backToKw cpos (keywordEach [] X.env)).all (λx=>x.1.isSome)
   && decide ((e::es).length+([]:List Keyword).length+(if ([]:List Keyword).isEmpty then 0 else 1)<30))=Zd:=by rfl)
  (c:(apos.endLine==cpos.line)=Zd:=by rfl) (F:starEach (e::es) X.env=(Zc,eval e X.env)::starEach es X.env:=by rfl) (a:(backTo cpos (starEach es X.env)).any (·.1)=Zc:=by rfl) :
  PE X (.Call (.Attribute o name apos) (e::es) [] cpos) (tBM X.K T r to t):=by
 intro pins s σ H Q I h;refine wpAny_Call_method_late b d c rfl (thn (k pins s σ H _ I h) λv B ⟨x,z,g,i,ty,y⟩=>?_);obtain⟨A,m⟩:=yay g i ty;refine⟨T,id,C,slot,f,A,m,?_⟩;have j:=G cpos pins B σ z _ g y;rw[F] at j ⊢;refine Calls.callWith_builtin (by show (Zc||(backTo cpos (starEach es X.env)).any (·.1))=Zc;rw[a]<;>rfl) (Calls.evalArgs_plain ?_);exact thn j λD w ⟨n,u,l,p,q⟩=>E pins w σ u x n v D Q l i p q
end
noncomputable def MtM (X:Cx) (id:String) (r:V->List V->Hp->VK->Prop):Prop :=
 ∀(pins:List (Zh×Obj)) (s:Zf) (σ:St) (H:Hp) (x:V) (a:List V) (v:Ze) (u:List Ze) (Q:VK),Inv X pins σ H s->RelV x v->Vals a u->r x a H Q ->
  wpAny #v[1,7] X.A (call (.builtin id) (v::u)) (EP X pins σ Q) X.xe s
theorem Vals.one:∀{x:V}{a:List Ze},Vals [x] a->∃u,a=[u]/\RelV x u
 |_,_,.cons r .nil=>⟨_,rfl,r⟩
theorem Vals.two:∀{x y:V}{a:List Ze},Vals [x,y] a->∃u v,a=[u,v]/\RelV x u/\RelV y v
 |_,_,_,.cons r (.cons q .nil)=>⟨_,_,rfl,r,q⟩
theorem Vals.rep {xs:List V}{u:List Ze} (h:Vals xs u):∀k:Nat,Vals (List.replicate k xs).flatten (List.replicate k u).flatten
 |0=>.nil
 | k+1=>by
  rw[Cy,Cy,Go,Go];exact Vals.append h (Vals.rep h k)
theorem zlo (i:List Ze):∀(k:Nat) (a:List Ze),
  List.foldl (λx c=>x++c) a.toArray (List.replicate k i.toArray)=(a++(List.replicate k i).flatten).toArray
 |0,a=>by simp
 | k+1,a=>by
  have e:a.toArray++i.toArray=(a++i).toArray:=by simp
  have b:(a++i)++(List.replicate k i).flatten=a++(List.replicate (k+1) i).flatten:=by
   rw[Cy,Go,Bd]
  rw[<-b,<-zlo i k (a++i),<-e,Cy,List.foldl_cons]
section
variable {pins:List (Zh × Obj)}{σ:St}{s:Zf}{xs ys zs:List V}
theorem Inv.lset {i its':List Ze}{n:Nat}{f:Array Ze->Array Ze}{t':Nat} (I:Inv X pins σ H s) (g:H l=Za (.lst xs))
  (e:s.heap.get? l=Za { cls:=.type "list",data:=.seq i.toArray n }) (c:f i.toArray=its'.toArray) (h:Vals ys its') (d:ys.length<=sizeLine) :
  Inv X pins σ (upd H l (.lst ys)) { s with heap:=s.heap.update l (Obj.mapSeq f),toks:=t' }:=by
 have q:=PySem.IsL.update e f;rw[c] at q;refine I.write (x:=l) (e:=l) (by rw[g];exact trivial) (.inl rfl) (λj u a b=>(Dq s.heap (Obj.mapSeq f) (Ne.symm a)).trans b) ⟨_,q⟩ ?_;exact⟨d,its',_,h,q⟩
theorem Inv.lnew {t':Nat} (I:Inv X pins σ H s) (h:Vals ys its) (a:ys.length<=sizeLine) :
  Inv X pins σ (upd H s.heap.objs.size (.lst ys)) { s with heap:=s.heap.push { cls:=.type "list",data:=.seq its.toArray },toks:=t' } :=
 I.laid (λ_ _ q=>Ab _ q) (Ag _) ⟨a,its,0,h,An _ rfl⟩
theorem Inv.fresh (I:Inv X pins σ H s):H s.heap.objs.size=Zb:=I.hok.fresh (Ag _)
theorem Inv.lstM (I:Inv X pins σ H s)(h:H l=Za (.lst xs)):xs.length<=sizeLine/\∃(i:List Ze) (n:Nat),Vals xs i/\xs.length=i.length/\s.heap.get? l=Za { cls:=.type "list",data:=.seq i.toArray n }:=by
 nofun;obtain⟨z,i,n,r,e⟩:=I.hok l _ h;ac_rfl;exact⟨z,i,n,r,r.length,e⟩
theorem zje (h:n<=sizeLine):Builtin.List.listTooLong n=Zc:=by
 unfold Builtin.List.listTooLong;exact At #v[]
end
section
variable {X:Cx}
noncomputable def zsg:V->List V->Hp->VK->Prop:=λx v H Q=>∃l a y,x=.ref l/\v=[y]/\H l=Za (.lst a)/\a.length<sizeLine/\Q .non (upd H l (.lst (a++[y])))
theorem zk3:MtM X "list.append" zsg:=by
 intro pins s σ H x g v f Q I b c h;obtain⟨l,j,y,rfl,rfl,a,k,q⟩:=h;cases b;obtain⟨u,rfl,d⟩:=c.one;obtain⟨z,i,n,r,m,e⟩:=I.lstM a;refine Hr F.slot_list_append ⟨_,e,rfl⟩ F.entry_list_append (F.args_list_append_2 _ _) (PySem.list_append l i.toArray n u (by rw[Ai];symm)) ⟨e,?_⟩;refine⟨.non,_,I.lset (its':=i++[u]) a e (by simp) (r.append (.cons d .nil)) ?_,rfl,q⟩;rw[Be,List.length_singleton];symm
noncomputable def z3g:V->List V->Hp->VK->Prop:=λx v H Q=>∃l b a z,x=.ref l/\v=[.ref b]/\H l=Za (.lst a)/\H b=Za (.lst z)/\a.length+z.length<=sizeLine/\Q .non (upd H l (.lst (a++z)))
theorem z87:MtM X "list.extend" z3g:=by
 intro pins s σ H x w v C Q I g t h;nofun;obtain⟨l,b,A,y,rfl,rfl,f,hB,E,q⟩:=h;ac_rfl;cases g;obtain⟨u,rfl,o⟩:=t.one;cases o;nofun;obtain⟨z,a,n,r,B,e⟩:=I.lstM f;obtain⟨D,i,m,j,p,k⟩:=I.lstM hB;ac_rfl;have d:a.toArray.size+i.toArray.size<=sizeLine:=by rw[Ai,Ai];symm
 have c:¬ (!a.toArray.isEmpty&&Builtin.List.listTooLong (a.toArray.size+i.toArray.size))=Zd:=by
  rw[zje d,Hl];exact As
 refine Hr F.slot_list_extend ⟨_,e,rfl⟩ F.entry_list_extend (F.args_list_extend_2 _ _)
  (AutoSeq1.list_extend_list_list_0 l a.toArray n b i.toArray m c (by rw[Ai];symm) #v[]) ⟨e,k,?_⟩
 refine⟨.non,_,I.lset (its':=a++i) f e (by simp) (r.append j) ?_,rfl,q⟩;rw[Be];symm
noncomputable def rCat:R2:=λx y H Q=>∃l b a z,x=.ref l/\y=.ref b/\H l=Za (.lst a)/\H b=Za (.lst z)/\a.length+z.length<=sizeLine/\∀p,H p=Zb->Q (.ref p) (upd H p (.lst (a++z)))
theorem z8u:OpR X (binaryOp .Add) rCat:=by
 intro pins s σ H x y v u Q I g d h;nofun;obtain⟨l,b,w,t,rfl,rfl,m,hB,A,q⟩:=h;ac_rfl;cases g;cases d;nofun;obtain⟨z,a,n,r,B,e⟩:=I.lstM m;obtain⟨o,i,p,k,c,f⟩:=I.lstM hB;ac_rfl;refine PySem.P.add_list e f ?_ (by rw[Ai,Ai];symm);have j:a.toArray++i.toArray=(a++i).toArray:=by simp
 rw[j];exact⟨.ref _,_,I.lnew (t':=s.toks) (r.append k) (by rw[Be];symm),rfl,q _ I.fresh⟩
noncomputable def rRep:R2:=λx y H Q=>∃l k a,x=.ref l/\y=.int k/\H l=Za (.lst a)/\-(2^63)<=k/\k<2^63/\a.length*k.toNat<=sizeLine /\
 ∀p,H p=Zb->Q (.ref p) (upd H p (.lst (List.replicate k.toNat a).flatten))
theorem z4p {α:Type}(xs:List α)(k:Nat):(List.replicate k xs).flatten.length=k*xs.length:=by
 induction k with
 |zero=>simp
 |succ k i=>rw[Cy,Go,Be,i,Nat.succ_mul,Nat.add_comm]
theorem yba:OpR X (binaryOp .Mult) rRep:=by
 intro pins s σ H x y v u Q I A w h;nofun;obtain⟨l,k,K,rfl,rfl,J,E,B,p,q⟩:=h;ac_rfl;cases A;nofun;obtain⟨t,rfl⟩:=w;obtain⟨z,i,n,r,G,e⟩:=I.lstM J;ac_rfl;have c:i.toArray.size*k.toNat<=sizeLine:=by rw[Ai,<-G];exact p
 have f:¬ i.toArray.size*k.toNat > (2^63-1)/8:=by
  have:(sizeLine:Nat)<=(2^63-1)/8:=by decide
  symm
 have d:¬ (!Builtin.List.listFitsIndex k)=Zd:=by
  rw[fitsIndex_both E B];exact As
 have b:¬ Builtin.List.listTooLong (i.toArray.size*k.toNat)=Zd:=by
  rw[zje c];exact As
 have g:List.foldl (λj o=>j++o) #[] (List.replicate (if i.toArray.isEmpty=Zd then 0 else k.toNat) i.toArray)=(List.replicate k.toNat i).flatten.toArray:=by
  have D:∀m:Nat,List.foldl (λj o=>j++o) #[] (List.replicate m i.toArray)=(List.replicate m i).flatten.toArray:=λm=>by
   have:=zlo i m [];rw[List.nil_append] at this;exact this
  rw[D];cases i with
  |nil=>simp
  |cons a L=>rw[if_neg (by simp)]
 refine wpAny_binaryOp_repeat_ref (T := "list") (U := "int") #v[0,9] ⟨_,e,rfl⟩ (λC=>typeIs_int C k t) noFill_list_mul F.fills_int_mul F.slot_int_rmul repeat_list F.slot_int_index.lookup
  (Hr F.slot_int_rmul (typeIs_int s k t) F.entry_int_rmul (F.args_int_rmul_2 _ _) (int___rmul___int_list k t l i.toArray n)
   ⟨e,rfl,⟨_,e,rfl⟩,Hr F.slot_list_mul ⟨_,e,rfl⟩ F.entry_list_mul (F.args_list_mul_2 _ _) (AutoListH.list___mul___list_int_3 l i.toArray n k t d f b) ⟨e,?_⟩⟩)
 rw[g];exact⟨.ref _,_,I.lnew (t':=s.toks) (r.rep k.toNat) (by rw[z4p,Nat.mul_comm];exact p),rfl,q _ I.fresh⟩
end
section
variable {prog:Program}{w:World}{s:Zf}
end
section
end
end L2
namespace Att
open PySem PySem.W PySem.Calls PyProof.Rows
theorem zgb:∀(c:List Int) (vs:List Ze),WellAll P h vs (c.map WData.int)->IntsAre vs c:=by
 intro c
 induction c with
 | nil =>
  intro vs w;rw[Gn] at w;cases w;exact .nil
 | cons n c i =>
  intro vs w;rw[Ax] at w;cases w with
  | cons a b =>
   cases a;exact .cons _ _ (i _ b)
theorem zw9 {l:OpenLaw}{n:Nat} (t:l.most=Za n) {P:Params}{h:Heap}{args:List WData}{e:List Ze}
  (c:l.row.toRowW.claim.pre args=Zd) (k:WellAll P h e args) :
  ∃a vs b,e=[Ze.ref a]/\args=[WData.list (b.map WData.int)]/\h.get? a=Za { cls:=.type "list",data:=.seq vs.toArray }/\IntsAre vs b/\b.length<=n:=by
 have m:WShape.hasAll [] args [.list .int]=Zd:=(pre_splitW c).1;have o:l.pre.holds [] { args:=args }=Zd:=(pre_splitW c).2;obtain ⟨d,r,rfl,x,s⟩:=hasAllW_cons m;obtain rfl:=hasAllW_nil s;obtain ⟨A,rfl,y⟩:=hasW_list x;obtain ⟨b,rfl⟩:=items_int y;have f:b.length<=n:=by
  unfold OpenLaw.pre at o;have i:(WTm.not (.lt (.lit (.int (n:Int))) (.len (.arg 0)))).holds [] { args:=[.list (b.map .int)] }=Zd:=by
   have i:=(holds_andW o).1;rw[t] at i;exact i
  have j:=condW_of i (w_not (w_lt w_lit (w_len_list (w_arg rfl))));rw[Af] at j;refine Nat.le_of_not_lt λq=>?_;have z:(n:Int)<((b.length:Nat):Int):=by symm
  first
   |(rw[Aj z] at j;exact absurd j #v[0,9])
   |(simp at j;symm)
 cases k with
 | cons w u =>
  cases u;cases w with
  |list p g=>exact⟨_,_,b,rfl,rfl,p,zgb b _ g,f⟩
theorem zv4 (l:OpenLaw)(args:List WData):l.row.toRowW.claim.post args (.bool Zd) args=Zd :=
 postW_of (r:=l.row.toRowW) (X:=(Zd==Zd))
  (show WShape.has [] (.bool Zd) .bool=Zd by first|rfl|decide|simp [WShape.has,WShape.arms,WShape.armsAll])
  (show (WTm.eq .res (.lit (.bool Zd))).value [] { args:=args,res:=Za (.bool Zd),after:=args }=Za (.bool (Zd==Zd)) from w_eq_bool (w_res rfl) w_lit) rfl
theorem attach_call {l:OpenLaw}{n:Nat}{q:Program}{b:List Str}{X:(Str->Option Ze)->Heap->Prop}{B:World->Heap->Prop}{d:DefRec}
  (F:l.most=Za n) (p:d.params.defaults=[])
  (call:∀(w:World) (s₀ s₁:Zf) (m u:Str->Option Ze) (g:Zh) (o:Obj) (s j doc:Ze) (a:Zh) (vs:List Ze) (k:List Int),
   Ground q b [] X w s₀ m u s₁.heap->B w s₁.heap ->
   s₁.heap.get? g=Za o->o.data=.func (docDef d.name d.params d.body d.scope s j doc)->s₁.heap.CodeRec j d.name->m d.name=Za (.ref g) ->
   s₁.heap.get? a=Za { cls:=.type "list",data:=.seq vs.toArray }->IntsAre vs k->k.length<=n->s₁.gens=#[] ->
   codeAny (model l.prog w) callerA (.call (.ref g) ⟨[.ref a],[]⟩) (λr s'=>r=.ok (.ret (.bool Zd))/\OldK s₁.heap s'.heap/\s'.os=s₁.os/\AllBare s'.gens) s₁) :
  WalkO q b X B l.row.toRowW d [] (λf vs=>PySem.call f vs):=by
 intro w s₀ s₁ m u G Y g o s j doc K kV C H x z v I args y P e A E t O;obtain rfl:K=.none:=Dflts.none z p;obtain rfl:kV=.none:=Dflts.noKw z;obtain⟨a,vs,k,rfl,rfl,i,h,c⟩:=zw9 F e t;refine enter_call (Gx (call w s₀ s₁ m u g o s j doc a vs k G Y C (fd_plain H) x v i h c I) λr s' M=>?_);obtain⟨rfl,D,L,J⟩:=M;exact⟨.inl ⟨.bool Zd,.bool Zd,[],rfl,λ_=>rfl,.bool Zd,zv4 l _,λ_=>⟨List.Pairwise.nil,λ_ N=>(nomatch N)⟩⟩,D,L,J⟩
section
variable {prog:Program}{w:World}{s:Zf}{K:Frag}
end
end Att
namespace L2
open PySem PySem.Spec PyProof.Rows
theorem zmg:∀{vs:List Ze}{a:List Int},IntsAre vs a->Vals (a.map V.int) vs
 |_,_,.nil=>.nil
 |_,_,.cons n t h=>.cons ⟨t,rfl⟩ (zmg h)
noncomputable def zfa (s:Stmt):Arguments:=match s with
 |.FunctionDef _ a _ _ _ _ _ _ _ _=>a
 |_=>{ posonlyargs:=[],args:=[],vararg:=Zb,kwonlyargs:=[],kw_defaults:=[],kwarg:=Zb,defaults:=[] }
noncomputable def zdg (s:Stmt):List Stmt:=match s with
 |.FunctionDef _ _ b _ _ _ _ _ _ _=>b
 |_=>[]
noncomputable def zam (s:Stmt):Scope:=match s with
 |.FunctionDef _ _ _ _ _ _ a _ _ _=>a
 |_=>{ kind:=.function,names:=[],isGenerator:=Zc,isCoroutine:=Zc }
noncomputable abbrev CX0:CXT:=λ_ _ _ _ _ _=>False
noncomputable abbrev E0:XK:=λ_ _ _=>False
theorem ycb:zva CX0 X E0:=λ_ _ _ _ _ _ _ h=>h.elim
structure Fun (K:Zg) (x qual:Str) (st:Stmt) (f:Zh) (fd:FuncData):Prop where
 ex:∃(oc:Ze) (od:Option Zh) (kV doc pm:Ze) (an:Option Zh) (cdv ct:Ze) (osl:Array (Option Ze)),
  fd=PySem.W.fnOf x qual (zfa st) (zdg st) (zam st) .none kV doc pm an cdv ct/\K.lookup f=Za ⟨oc,od,.func fd,osl⟩/\PySem.W.codeIn K cdv qual=Zd
 kp:PySem.W.keepIn K (.ref f)=Zd
section
variable {w:World}{K:Zg}
theorem Fun.binds {x qual:Str}{st:Stmt}{a:List Str} (F:Fun K x qual st f fd)
  (h:∀(kV doc p:Ze) (b:Option Zh) (cdv c:Ze) (u:List Ze),u.length=a.length->bindArgs (PySem.W.fnOf x qual (zfa st) (zdg st) (zam st) .none kV doc p b cdv c) ⟨u,[]⟩=pure (a.zip u)):znt K fd a []:=by
 obtain⟨e,o,kV,doc,p,b,cdv,c,osl,rfl,l,d⟩:=F.ex;exact .all (h kV doc p b cdv c)
theorem z19 {x qual:Str}{st:Stmt}{d:Ze}{o b:Option Zh}{osl:Array (Option Ze)}{kV doc p cdv a:Ze} (l:K.lookup f=Za ⟨d,o,.func (PySem.W.fnOf x qual (zfa st) (zdg st) (zam st) .none kV doc p b cdv a),osl⟩)
 (c:PySem.W.codeIn K cdv qual=Zd) (k:PySem.W.keepIn K (.ref f)=Zd):Fun K x qual st f (PySem.W.fnOf x qual (zfa st) (zdg st) (zam st) .none kV doc p b cdv a):=⟨⟨d,o,kV,doc,p,b,cdv,a,osl,rfl,l,c⟩,k⟩
end
section
end
theorem iteF {A B:Prop}(h:B):if Zc=Zd then A else B:=by
 rw[if_neg As];exact h
theorem iteT {A B:Prop}(h:A):if Zd=Zd then A else B:=by
 rw[if_pos rfl];exact h
noncomputable def Same (H H':Hp):Prop:=∀b o,H b=Za o->H' b=Za o
theorem Same.refl (H:Hp):Same H H:=λ_ _ h=>h
theorem Same.trans (a:Same H H1)(b:Same H1 H2):Same H H2:=λc o h=>b c o (a c o h)
theorem Same.free (e:Same H H') (h:H' l=Option.none):H l=Option.none:=by
 cases q:H l with
 |none=>rfl
 | some o =>
  rw[e l o q] at h;cases h
theorem Same.seq {K:Zg}{xs:List V}(e:Same H H')(h:SqL K H a xs):SqL K H' a xs:=by
 rcases h with (h|⟨o,h⟩)|h
 ·exact .inl (.inl (e _ _ h))
 ·exact .inl (.inr ⟨o,e _ _ h⟩)
 ·exact .inr h
noncomputable def capSt (cap:List (Option Nat)) (σ:St):St:=cap.map λo=>match o with
 |some i=>(σ[i]?).getD Zb
 |none=>Zb
noncomputable def zhm (cap:List (Option Nat)) (a N:List Str) (scope:Scope):Bool :=
 decide (cap.length=a.length)&&(cap.zip a).all λp=>match p.1 with
  |some i=>decide (N[i]?=Za p.2)&&decide (scope.names.lookup p.2=Za NameKind.free)
  |none=>Zd
theorem zs9 {cap a N scope}(h:zhm cap a N scope=Zd):cap.length=a.length:=by
 unfold zhm at h;rw[Ac] at h;exact Ao h.1
theorem zwk {scope:Scope}(h:zhm cap Nc N scope=Zd){j i:Nat}{x:Str}(a:cap[j]?=Za (Za i))(b:Nc[j]?=Za x):N[i]?=Za x/\scope.names.lookup x=Za .free:=by
 unfold zhm at h;rw[Ac] at h;have c:(Za i,x)∈cap.zip Nc:=by
  refine Bm (i:=j) ?_;rw[Hm];exact⟨a,b⟩
 have q:=Az.mp h.2 _ c;simp only [Ac,Cc] at q;exact q
noncomputable def zhe (scope:Scope) (out:Scope):Bool:=scope.names.all λp=>!(p.2==NameKind.free)||decide (out.names.lookup p.1=Za .cell)||decide (out.names.lookup p.1=Za .free)
theorem zfd:∀(names:List (Str × NameKind)) (f:List (Str × Zh)),(∀x,(x,NameKind.free)∈names->∃c,env.cells.lookup x=Za c)->(∀x c,f.lookup x=Za c->env.cells.lookup x=Za c) ->
    ∃g,(forIn names f fun (p:Str × NameKind) q=>if p.2 == NameKind.free then do let c <- cellOf env p.1;pure (ForInStep.yield ((p.1,c)::q)) else pure (ForInStep.yield q):Sem (List (Str × Zh)))=pure g /\
      (∀x c,g.lookup x=Za c->env.cells.lookup x=Za c)/\(∀x,(x,NameKind.free)∈names\/(∃c,f.lookup x=Za c)->∃c,g.lookup x=Za c)
  | [],f,_,l=>⟨f,by rw [List.forIn_nil],l,fun x h=>by
      rcases h with h|h
      · cases h
      · exact h⟩
  | (n,k)::r,f,m,l=>by
    rw[Fa];by_cases t:(k == NameKind.free)=Zd
    · have w : k = .free := by simpa using t
      subst w;obtain ⟨c,s⟩:=m n Au;have o : ∀x d,((n,c)::f).lookup x=Za d->env.cells.lookup x=Za d:=fun x d h=>by
        rw[Bo] at h;cases e:x == n with
        | true => rw [e] at h; obtain rfl := sI h; have : x = n := by simpa using e
                  rw[this];exact s
        |false=>rw[e] at h;exact l x d h
      obtain⟨g,e,a,b⟩:=zfd r ((n,c)::f) (λx h=>m x (Ap _ h)) o;refine⟨g,?_,a,λx h=>b x ?_⟩
      · rw [<- e]
        have i:cellOf env n=pure c:=by unfold cellOf;rw[s]
        simp only [i]
        rfl
      · have gen:∀y d,f.lookup y=Za d->∃v,((n,c)::f).lookup y=Za v:=fun y d u=>by
          rw[Bo];cases e:y == n with
          |true=>exact⟨_,rfl⟩
          |false=>exact⟨d,u⟩
        rcases h with h|⟨d,h⟩
        · rcases Ak.mp h with h | h
          · injection h with h _
            subst h;exact .inr ⟨c,by rw[Bo];simp⟩
          · exact .inl h
        · exact .inr (gen x d h)
    · have j : (k == NameKind.free) = Zc := by simpa using t
      obtain⟨g,e,a,b⟩:=zfd r f (λx h=>m x (Ap _ h)) l;refine⟨g,?_,a,λx h=>b x ?_⟩
      · rw [<- e]
        simp only [j]
        rfl
      · rcases h with h | h
        · rcases Ak.mp h with h | h
          · injection h with _ h
            subst h;simp at j
          · exact .inl h
        · exact .inr h
theorem zdh (h:∀x,(x,NameKind.free)∈scope.names->∃c,env.cells.lookup x=Za c) :
  ∃d,closureFor scope env=pure d/\(∀x c,d.lookup x=Za c->env.cells.lookup x=Za c)/\(∀x,(x,NameKind.free)∈scope.names->∃c,d.lookup x=Za c):=by
 nofun;obtain⟨d,e,a,b⟩:=zfd scope.names [] h (λx c f=>by simp at f);refine qG ?_;refine⟨d,?_,a,λx f=>b x (.inl f)⟩;exact congrArg (λm=>m>>=λr=>pure r) e |>.trans (by rw[pure_bind])
noncomputable def za8 (X:Cx) (a:List Str) (scope:Scope) (c:List (Str×Zh)) (C:Zh) (s:Zf) (H:Hp) (fp:List Zh):Cx where
 prog:=X.prog
 w:=X.w
 K:=X.K
 mg:=X.mg
 base:=X.base
 A:=X.A
 N:=a
 s₀:=s
 H₀:=H
 env:=compEnvC scope c C X.env
 outer:=X.stack
 stack:=X.stack
 ex:=fp
 fn:=λx=>decide (scope.names.lookup x=Za NameKind.cell)
 calm:=X.calm
 pn:=[]
 xe:=λ_ _=>False
noncomputable def z1v:TT:=λσ H Q=>Q Zd H
noncomputable def PTs (X:Cx) (ifs:List Zi) (t:TT):Prop :=
 ∀(pins:List (Zh×Obj)) (s:Zf) (σ:St) (H:Hp) (Q:Bool->Hp->Prop),Inv X pins σ H s->t σ H Q ->
  wpAny #v[1,7] X.A (forIn ifs Zd λc r=>if r=Zd then do let ok <- isTrue c X.env (eval c X.env);pure (ForInStep.yield ok) else pure (ForInStep.yield r)) (TP X pins σ Q) X.xe s
theorem z4t:PTs X [] z1v:=λpins s σ H Q I h=>by
 exact Ae ⟨H,I,h⟩
theorem z6r (h:PT X c t):PTs X [c] t:=λpins s σ H Q I q=>by
 rw[Fa];refine Aa (Aa (thn (h pins s σ H Q I q) λb d a=>?_));refine Ae ?_;exact Ae a
section
theorem zaz {env:Env}:∀{names:List (Str×NameKind)}{x:Str},names.lookup x=Za .free ->
  (names.map λ(n,k)=>if (k == NameKind.free && env.scope.kind == .function && env.kindOf n == some .cell) then (n,NameKind.cell) else (n,k)).lookup x=Za .cell \/
  (names.map λ(n,k)=>if (k == NameKind.free && env.scope.kind == .function && env.kindOf n == some .cell) then (n,NameKind.cell) else (n,k)).lookup x=Za .free
 |[],_,h=>by simp at h
 | (n,k)::r,x,h=>by
  have i:=@zaz env r x;rw[Ax];rw[Bo] at h;cases hx:x==n with
  | true =>
   rw[hx] at h;obtain rfl:=sI h;dsimp only;split
   ·rw[Bo,hx];exact .inl rfl
   ·rw[Bo,hx];exact .inr rfl
  | false =>
   rw[hx] at h;dsimp only;split
   ·rw[Bo,hx];exact i h
   ·rw[Bo,hx];exact i h
theorem zbe {env:Env}:∀{names:List (Str×NameKind)}{x:Str}{k:NameKind},(k=.cell\/k=.free) ->
  (names.map λ(n,k)=>if (k == NameKind.free && env.scope.kind == .function && env.kindOf n == some .cell) then (n,NameKind.cell) else (n,k)).lookup x=Za k->names.lookup x=Za .free\/names.lookup x=Za .cell
 |[],_,_,_,h=>by simp at h
 | (n,c)::r,x,k,a,h=>by
  rw[Ax] at h;rw[Bo];cases hx:x==n with
  | true =>
   dsimp only at h;split at h
   ·rename_i b
    simp only [Ac,beq_iff_eq] at b;rw[b.1.1];exact .inl rfl
   ·rw [Bo,hx] at h
    obtain rfl:=sI h;rcases a with rfl|rfl
    ·exact .inr rfl
    ·exact .inl rfl
  | false =>
   dsimp only at h;split at h
   ·rw[Bo,hx] at h;exact zbe a h
   ·rw[Bo,hx] at h;exact zbe a h
theorem zdk (h:zhe scope out=Zd)(a:(x,NameKind.free)∈scope.names):out.names.lookup x=Za .cell\/out.names.lookup x=Za .free:=by
 have q:=Az.mp h _ a;simpa using q
theorem capSt_get {j:Nat}{v:V} (h:(capSt cap σ)[j]?=Za (Za v)):∃i,cap[j]?=Za (Za i)/\σ[i]?=Za (Za v):=by
 unfold capSt at h;rw[Ar] at h;cases e:cap[j]? with
 |none=>rw[e] at h;cases h
 | some o =>
  rw[e] at h;cases o with
  |none=>cases h
  | some i =>
   refine⟨i,rfl,?_⟩;have a:(σ[i]?).getD Zb=Za v:=sI h;cases e2:σ[i]? with
   |none=>rw[e2] at a;cases a
   |some z=>rw[e2] at a;exact congrArg Za a
theorem za9 {env:Env}:∀{names:List (Str×NameKind)}{x:Str}{k:NameKind},k≠.free->names.lookup x=Za k ->
  (names.map λ(n,k)=>if (k == NameKind.free && env.scope.kind == .function && env.kindOf n == some .cell) then (n,NameKind.cell) else (n,k)).lookup x=Za k
 |[],_,_,_,h=>by simp at h
 | (n,a)::r,x,k,b,h=>by
  have i:=@za9 env r x k b;rw[Ax];rw[Bo] at h;cases hx:x==n with
  | true =>
   rw[hx] at h;obtain rfl:=sI h;have:(a==NameKind.free)=Zc:=by cases a<;>first|rfl|exact absurd rfl b
   dsimp only;rw[this,Fp,Fp,if_neg As,Bo,hx]
  | false =>
   rw[hx] at h;dsimp only;split
   ·rw[Bo,hx];exact i h
   ·rw[Bo,hx];exact i h
noncomputable def zfo (scope:Scope):Bool:=scope.names.all λp=>!(p.2==NameKind.cell)||decide (scope.names.lookup p.1=Za .cell)
theorem zr3 (h:zfo scope=Zd)(a:(x,NameKind.cell)∈scope.names):scope.names.lookup x=Za .cell:=by
 have q:=Az.mp h _ a;simpa using q
theorem zcm:∀(names:List (Str×NameKind)) (n:Nat) (a:List (Str×Zh)),cellsFrom n names a=cellsFrom n names []++a
 |[],_,_=>rfl
 | (x,k)::r,n,a=>by
  unfold cellsFrom;split
  ·rw[zcm r (n+1) ((x,n)::a),zcm r (n+1) [(x,n)],Bd];rfl
  ·exact zcm r n a
theorem zg9:∀(names:List (Str×NameKind)) (n:Nat) {x:Str}{c:Zh},(x,c)∈cellsFrom n names []->(x,NameKind.cell)∈names
 |[],_,_,_,h=>by cases h
 | (y,k)::r,n,x,c,h=>by
  unfold cellsFrom at h;split at h
  ·rename_i a
   rw[zcm] at h;rcases Cb.mp h with h|h
   ·exact Ap _ (zg9 r _ h)
   ·have e:=Aw.mp h
    cases e;have:k=NameKind.cell:=by simpa using a
    rw[this];exact Au
  ·exact Ap _ (zg9 r _ h)
theorem cells_of (h:(cellsFrom n names cl).lookup x=Za c):(cellsFrom n names []).lookup x=Za c\/((cellsFrom n names []).lookup x=Zb/\cl.lookup x=Za c):=by
 rw[zcm,List.lookup_append] at h;cases e:(cellsFrom n names []).lookup x with
 |some d=>rw[e] at h;exact .inl h
 |none=>rw[e] at h;exact .inr ⟨rfl,h⟩
theorem zh7 (h:zfo scope=Zd) (b:scope.names.lookup x=Za .free) (a:cl.lookup x=Za c):(cellsFrom n scope.names cl).lookup x=Za c:=by
 rw[zcm,List.lookup_append];cases e:(cellsFrom n scope.names []).lookup x with
 |none=>exact a
 | some d =>
  have:=zr3 h (zg9 _ _ (Br e));rw[b] at this;cases this
theorem z1s {scope:Scope}{L:List (Str×Zh)}{cap:List (Option Nat)}{fp:List Zh}{D:Heap}{tk:Nat}
  (I:Inv X pins σ H3 s3) (hk:scope.kind=.function) (n:zhm cap Nc X.N scope=Zd) (J:zhe scope X.env.scope=Zd) (M:zfo scope=Zd)
  (w:∀x c,L.lookup x=Za c->X.env.cells.lookup x=Za c) (V:∀x,(x,NameKind.free)∈scope.names->∃c,L.lookup x=Za c)
  (R:∀b∈fp,FpOk X pins H3 b) (U:∀b∈fp,b<s3.heap.objs.size)
  (S:D.Ns s3.heap.objs.size (λ_=>Zb)) (f:∀b o,s3.heap.get? b=Za o->D.get? b=Za o) (F:CellsOk D (s3.heap.objs.size+1) (cellsFrom (s3.heap.objs.size+1) scope.names [])) :
  Inv (za8 X Nc scope (cellsFrom (s3.heap.objs.size+1) scope.names L) s3.heap.objs.size s3 H3 fp) [] (capSt cap σ) H3 { s3 with heap:=D,toks:=tk }:=by
 have t:∀b∈fp,b ∉ frs X.stack:=λb s z=>by
  obtain⟨_,g1,g2,_⟩:=R b s;rcases Ak.mp (I.stkSub b z) with e|e
  ·exact g1 e
  ·exact g2 e
 have own:∀x c,(cellsFrom (s3.heap.objs.size+1) scope.names []).lookup x=Za c->D.IsCell c Zb/\s3.heap.objs.size+1<=c:=λx c h=>F.empty x c (Br h);have G:∀x c,L.lookup x=Za c->c<s3.heap.objs.size:=λx c h=>by
  obtain⟨v,q⟩:=I.cell x c (w x c h);exact q.lt
 refine⟨⟨I.mod,hk,I.ok.glob,I.ok.blt,Ag _,λx y c E N=>?_,λx B=>?_,λx c h h'=>?_,I.ok.hd,I.ok.frames,.inl rfl,λb s=>⟨Ba (U b s),λx c h=>?_⟩,
  λb o e=>I.bs b o e,Bu I.ok.bsz I.sz,λb o e s=>?_,t,I.stack,I.stkFree⟩,rfl,I.bare,Un.kept f,⟨_,S,λj x v E N h3=>?_⟩,λx c h=>?_,I.hok.fresh (Ag _),λx c h=>?_,λp Y=>absurd (show p∈([]:List (Zh×Obj)) from Y) (by simp),I.hok.kept f,?_⟩
 ·rcases cells_of E with K|⟨_,K⟩
  ·rcases cells_of N with C|⟨_,C⟩
   ·exact name_of_addr F.apart (Br K) (Br C)
   ·have a:=(own x c K).2;have b:=G y c C;exact absurd (Bc b (Gj a)) (Bp _)
  ·rcases cells_of N with C|⟨_,C⟩
   ·have a:=(own y c C).2;have b:=G x c K;exact absurd (Bc b (Gj a)) (Bp _)
   ·exact I.ok.inj x y c (w x c K) (w y c C)
 ·have g:scope.names.lookup x=Za .free\/scope.names.lookup x=Za .cell:=by
   rcases B with B|B
   ·exact zbe (.inl rfl) B
   ·exact zbe (env:=X.env) (.inr rfl) B
  rcases g with g|g
  ·obtain⟨c,e⟩:=V x (Br g);exact⟨c,zh7 M g e⟩
  ·exact Ej.mp (Gh scope.names _ L (.inl g))
 ·have B:=Ao h;rcases cells_of h' with z|⟨z,_⟩
  ·exact Gj (own x c z).2
  ·obtain⟨d,e⟩:=cell_has B;rw[z] at e;cases e
 ·rcases cells_of h with z|⟨_,z⟩
  ·have a:=(own x c z).2;have:=U b s;exact Ne.symm (Ba (Bc this (Gj a)))
  ·exact (R b s).2.2.2.2.1 x c (w x c z)
 ·rcases (R b s).2.2.2.1 with z|z
  ·exact I.ok.noex b o e z
  ·have E:=Am e;exact absurd (Bc E (Bu I.ok.bsz z)) (Bp _)
 ·obtain ⟨i,Z,W⟩:=capSt_get N;have Q:=E;obtain ⟨n1,H⟩:=zwk n Z Q;have vis:Vis X.env.scope x:=by
   rcases zdk J (Br H) with z|z
   ·exact .inr (.inl z)
   ·exact .inr (.inr z)
  obtain⟨m,hn,hl⟩:=I.loc;obtain⟨u,r,l⟩:=hl i x v n1 W vis;refine⟨u,r,?_⟩;rcases l with⟨P,_⟩|⟨_,c,e,z⟩
  ·have k:X.env.scope.names.lookup x=Za .local:=P;rcases zdk J (Br H) with z|z
   ·rw[z] at k;cases k
   ·rw[z] at k;cases k
  ·obtain⟨c', T⟩:=V x (Br H);have:=w x c' T;rw[e] at this;obtain rfl:=sI this;refine .inr ⟨zaz H,c,zh7 M H T,?_⟩;obtain⟨o,A,O⟩:=z;exact⟨o,f _ _ A,O⟩
 ·rcases cells_of h with z|⟨_,z⟩
  ·exact⟨Zb,(own x c z).1⟩
  ·obtain⟨v,o,A, O⟩:=I.cell x c (w x c z);exact⟨v,o,f _ _ A,O⟩
 ·rcases cells_of h with z|⟨_,z⟩
  ·exact I.hok.fresh (Gj (own x c z).2)
  ·exact I.freeC x c (w x c z)
 ·show (capSt cap σ).length=Nc.length;rw[<-zs9 n];unfold capSt;rw[Af]
theorem zjp
  (h:∀h',h'.Ns s.heap.objs.size (λ_=>Zb)->(∀b o,s.heap.get? b=Za o->h'.get? b=Za o)->CellsOk h' #v[5,10] (cellsFrom #v[5,10] scope.names []) ->
   Q (newEnv scope s.heap.objs.size globals (cellsFrom #v[5,10] scope.names cl) qual Zb .none (Za outer) builtinsNs) { s with heap:=h' }) :
  wpAny M A (newFunctionEnv scope globals cl [] qual Zb .none (Za outer)) Q E s:=by
 simp only [newFunctionEnv,Option.isSome_some,Gf];refine Aa (wpAny_alloc ?_);refine Aa (wpAny_layCells _ (λname kind c=>by cases hkc:kind==NameKind.cell<;>simp [hkc]) _ _ _ _ ?_);have ok:=cellsFrom_ok scope.names (s.heap.push { cls:=.type "dict",data:=.dict #[] }) #v[5,10] [] ⟨λ_ _ a=>(nomatch a),List.Pairwise.nil⟩ (by rw[Cr];exact Ag _);rw[Cr] at ok;rw[show ({ s with heap:=s.heap.push { cls:=.type "dict",data:=.dict #[] } }:Zf).heap.objs.size=s.heap.objs.size+1 from Cr ..];refine Aa ?_;exact Ae (Ae (h _ ((Heap.Ns.new s.heap (.type "dict")).keeps (pushCells_keeps _ _)) (λb o e=>pushCells_keeps _ _ b o (Ab _ e)) ok))
end
noncomputable abbrev TM:=St->Hp->(St->Hp->Prop)->Prop
noncomputable def PM (X:Cx) (e:Sem Unit) (t:TM):Prop :=
 ∀(pins:List (Zh×Obj)) (s:Zf) (σ:St) (H:Hp) (N:St->Hp->Prop),Inv X pins σ H s->t σ H N ->
  wpAny #v[1,7] X.A e (λ_ c=>∃a b,Inv X pins a b c/\N a b) X.xe s
noncomputable def zoc (e:Zi) (d:Nat) (tg iter:Zi) (ifs:List Zi) (em:Sem Unit) (it acc:Ze) (env:Env):Sem Fin:=do
 standAt iter.pos
 match <- pyNext it with
 |none=>pure (.done .next)
 | some v =>
  letOwnedTupleGo tg it v
  assign tg env v
  let mut ok:=Zd
  for c in ifs do
   if ok then ok <- isTrue c env (eval c env)
  if ok then em
  again (.compLoop e d it acc env)
noncomputable def zmi (J:It) (g:TG) (tc:TT) (t:TM) (σ:St) (H:Hp) (Q:St->Hp->Prop):Prop:=∃W:Nat->Nat->St->Hp->Prop,(∃m,W 0 m σ H) /\
 ∀i m σc d,W i m σc d->(J.stop i d/\Q σc d)\/(J.go i d/\∃N:St->Hp->Prop,(∀c a,N c a->∃e,e<m/\W (i+1) e c a)/\∀x a,J.yld i d x a->g x σc a λσ2 h =>
  tc σ2 h λb f=>if b=Zd then t σ2 f N else N σ2 f)
noncomputable def zst (w:TI) (cap:List (Option Nat)) (g:TG) (tc:TT) (t:Zh->TM):TE:=λσ H Q=>w σ H λJ b=>∀a,b a=Zb->zmi J g tc (t a) (capSt cap σ) (upd b a (.lst [])) λ_ c=>Q (.ref a) c
section
theorem zkk
  (G:∀v s,¬ X.xe v s) (M:X.calm=Zd) (ht:compTurn #v[2,10] d (.ref it) acc X.env=zoc #v[2,10] d tg iter ifs em (.ref it) acc X.env)
  (hg:PG X tg g) (hs:PTs X ifs tc) (E:PM X em tm) (I:Inv X pins σ H s) (T:Turn X.prog X.w X.K tg J fp it tn) (st:tn 0 s.heap) (f:∀b∈fp,FpOk X pins H b)
  (hW:zmi J g tc tm σ H N0)
  (hR:∀a H' s',Inv X pins a H' s'->N0 a H'->R (.ok .next) s'):codeAny #v[1,7] X.A (.compLoop #v[2,10] d (.ref it) acc X.env) R s:=by
 have h:∀{H':Hp},(∀b∈fp,H' b=Zb)->∀b∈fp,FpOk X pins H' b:=λhn b k=>⟨hn b k,(f b k).2⟩;nofun;obtain⟨W,⟨m0,Z⟩,turn⟩:=hW;refine qG ?_;refine codeAny_loop rfl (λn s'=>∃i a H',Inv X pins a H' s'/\tn i s'.heap/\(∀b∈fp,H' b=Zb)/\W i n a H') ?_ m0 ⟨0,σ,H,I,st,λb k=>(f b k).1,Z⟩;rintro n P ⟨i,j,y,K,t,q,w3⟩;refine wpAny_noted ?_;rw[ht];refine Aa (Fs (Aa ?_));rcases turn i n j y w3 with⟨stop,qn⟩|⟨go,N,hN,step⟩
 ·refine Cv (T.done X rfl rfl rfl M i pins P j y (λ_ _=>False) K (h q) t stop) (λr U ⟨C,I4⟩ => ?_) λ_ _ z=>z.elim;subst C;exact Ae (hR j y U I4 qn)
 ·refine Cv (T.item X rfl rfl rfl M i pins P j y (λ_ _=>False) K (h q) t go) (λr U ⟨u,C,h4⟩ => ?_) λ_ _ z=>z.elim;subst C;refine Aa (Cv h4 (λ_ O ⟨x,L,I5,r5,y5,l,F⟩=>?_) λ_ _ z=>z.elim);have D:=I5.pinned (h F) (T.obj _ _ l);refine Aa (Cv (hg _ O j L x u _ D r5 (step x L y5)) (λ_ s6 ⟨p,H6,I6,q6⟩=>?_) λv s z=>(G v s z).elim);refine Aa (Cv (hs _ s6 p H6 _ I6 q6) (λok s7 ⟨Y,S,Q⟩=>?_) λv s z=>(G v s z).elim);have again:∀{A:Zf}{c:St}{w:Hp},Inv X (pins++zkc fp O.heap) c w A->N c w->∃m,m<n/\∃i a H',Inv X pins a H' A/\tn i A.heap/\(∀b∈fp,H' b=Zb)/\W i m a H':=λ{A c w} B nx=>by
   obtain⟨V,E,wx⟩:=hN c w nx;refine⟨V,E,i+1,c,w,B.unpinned,T.keep _ _ _ l λb k o e=>(B.pin (b,o) (Ay _ (Ay _ (zcc k e)))).1,λb k=>?_,wx⟩;obtain⟨o,e,d⟩:=T.obj _ _ l b k;exact (B.pin (b,o) (Ay _ (Ay _ (zcc k e)))).2.1
  cases ok with
  |false=>exact Ae ⟨rfl,again S Q⟩
  |true=>exact Aa (Cv (E _ s7 p Y N S Q) (λ_ s8 ⟨σ8,H8,I8,n8⟩=>Ae ⟨rfl,again I8 n8⟩) λv s z=>(G v s z).elim)
noncomputable def zq9 (a:Zh) (te:TE):TM:=λσ H N=>te σ H λy c=>∃b,c a=Za (.lst b)/\b.length<sizeLine/\N σ (upd c a (.lst (b++[y])))
noncomputable def z8h (elt:Zi) (a:Ze) (env:Env):Sem Unit:=do let _ <- call (.builtin "list.append") [a,<-eval elt env]
theorem z18 (l:PE X elt te):PM X (z8h elt (.ref acc) X.env) (zq9 acc te):=by
 intro pins s σ H N I h;refine Aa (thn (l pins s σ H _ I h) λk c ⟨y,f,a,r,g,j,m,q⟩=>?_);refine Aa (thn (zk3 _ c σ f (.ref acc) [y] _ [k] (λ_ i=>N σ i) a rfl (.cons r .nil) ⟨_,g,y,rfl,rfl,j,m,q⟩) λ_ n ⟨_,b,d,_,e⟩=>?_);exact Ae ⟨σ,b,d,e⟩
noncomputable def tTwo (w:TI) (g:TG) (tc:TT) (t:TM):TM:=λσ H N=>w σ H λJ a=>zmi J g tc t σ a N
noncomputable def zzg (e iter:Zi) (a:Ze) (env:Env):Sem Unit:=do
 let x <- eval iter env
 standAt iter.pos
 let x <- foldedSetIterable iter env x
 let _ <- runOwn (.compStart e 1 (<- holding [x] (pyIter x)) a env) env
theorem zzv :
  compTurn #v[3,7] 0 it acc env=zoc #v[3,7] 0 tg iter ifs (zzg #v[3,7] iter2 acc env) it acc env:=by
 unfold zoc zzg;simp only [bind_assoc]
 rfl
theorem zsq
  (b:codeAny (model prog w) A (.compLoop #v[3,7] 1 it acc env) R s)
  (h:wpAny (model prog w) A (pyIter it) (λi s'=>codeAny (model prog w) A (.compLoop #v[3,7] 1 i acc env) R s')
   (notedBy (model prog w) A env λx s'=>R (.error x) s') s) :
  codeAny (model prog w) A (.compStart #v[3,7] 1 it acc env) R s:=by
 refine codeAny_of_tree ?_;refine wpAny_notedAt ?_;refine Aa (wpAny_askSetting (wpAny_ite ?_));split
 ·first
   |exact Aa (Ae (Ae (And.intro rfl b)))
   |exact Ae (And.intro rfl b)
 ·first
   |exact Aa (Cd (Aa (Fs (Aa (Cv h (λi s' a=>Ae (And.intro rfl a)) λ_ _ x=>x)))))
   |(refine Aa (Cd ?_);show wpAny _ _ (standAt iter2.pos>>=_) _ _ s;exact Aa (Fs (Aa (Cv h (λi s' a=>Ae (And.intro rfl a)) λ_ _ x=>x))))
theorem ybj (z:∀v s,¬ X.xe v s) (q:X.calm=Zd) (o:PI X tg2 iter2 wi) (m:PG X tg2 g) (y:PTs X ifs2 tc) (u:PE X elt te) (w:∀x,foldedSetIterable iter2 X.env x=pure x) :
  PM X (zzg #v[3,7] iter2 (.ref acc) X.env) (tTwo wi g tc (zq9 acc te)):=by
 intro pins s σ H N I h;refine Aa (thn (o pins s σ H _ I h) λv D t=>Aa (Fs (Aa (Gr (w v) (Aa (Bh (thn t λp n k=>?_)))))));nofun;obtain⟨A,fp,E,J,C,e,j,T,c,i,hW⟩:=k;refine qG ?_;subst e;refine Aa (wpAny_runOwn ?_);have loop:codeAny #v[1,7] X.A (.compLoop #v[3,7] 1 (.ref A) (.ref acc) X.env) (λr b=>match r with|.ok f=>(λ_ b=>wpAny #v[1,7] X.A (pure ()) (λ_ b=>∃a d,Inv X pins a d b/\N a d) X.xe b) f b|.error e=>cameBackBy #v[1,7] X.A X.env X.xe e b) n :=
  zkk z q rfl m y (z18 u) j T c i hW λa d b l B=>Ae ⟨a,d,l,B⟩
 exact zsq loop (T.self _ 0 _ _ _ c loop)
end
theorem HOk.but (x:HOk P w H h)(f:H a=Zb)(g:Heap.SameBut a h h'):HOk P w H h':=λb o e=>by
 refine (x b o e).stay (λc i d q=>(g.2 c ?_).trans q) (λ_ q=>q) λ_ _ q=>q;rintro rfl;rcases d with rfl|d
 ·rw[f] at e;cases e
 ·rw[f] at d;cases d
section
theorem zhx {elt tg iter:Zi}{ifs:List Zi}{gs:List Comprehension}{scope:Scope}{pos:Pos}{f:List (Str×Zh)}{N:List Str}{cap:List (Option Nat)}{g:TG}{tc:TT}{em:Ze->Env->Sem Unit}{tm:Zh->TM}{pins:List (Zh×Obj)}{σ:St}{H:Hp}{s:Zf}{it:Zh}{fp:List Zh}{tn:Nat->Heap->Prop}{J:It}{Q:VK}{R:Ze->Zh->Result->Zf->Prop}{E:Ze->Zf->Prop}
  (hc:X.calm=Zd) (hk:scope.kind=.function) (K:zhm cap N X.N scope=Zd) (Z:zhe scope X.env.scope=Zd) (O:zfo scope=Zd)
  (q:∀it a env,compTurn #v[5,7] 0 it a env=zoc #v[5,7] 0 tg iter ifs (em a env) it a env)
  (hg:∀f C t r fp,PG (za8 X N scope f C t r fp) tg g) (ht:∀f C t r fp,PTs (za8 X N scope f C t r fp) ifs tc) (hm:∀f C t r fp a,PM (za8 X N scope f C t r fp) (em (.ref a) (za8 X N scope f C t r fp).env) (tm a))
  (c1:∀x c,f.lookup x=Za c->X.env.cells.lookup x=Za c) (c2:∀x,(x,NameKind.free)∈scope.names->∃c,f.lookup x=Za c)
  (I2:Inv X pins σ H s) (T:Turn X.prog X.w X.K tg J fp it tn) (l:tn 0 s.heap) (f2:∀b∈fp,FpOk X pins H b)
  (hW:∀a,H a=Zb->zmi J g tc (tm a) (capSt cap σ) (upd H a (.lst [])) λ_ Hc=>Q (.ref a) Hc)
  (hR:∀a C s' H',(∃m,s'.heap.Ns C m)->(∀h',Heap.SameBut C s'.heap h'->Inv X pins σ H' { s' with heap:=h' })->FpOk X pins H' C->Q (.ref a) H'->R (.ref a) C (.ok .next) s') :
  wpAny #v[1,7] X.A (newList []) (λa y=>wpAny #v[1,7] X.A (newFunctionEnv scope X.env.globals f [] X.env.qual Zb .none (Za X.env)) (λj A =>
   codeAny #v[1,7] X.A (.compStart #v[5,7] 0 (.ref it) a { j with scope:=relabel scope X.env }) (R a j.locals) A) E y) E s:=by
 refine Dp (zjp λB d k G=>?_);have F:=I2.hok.fresh (Ag _);have M:Inv X pins σ (upd H s.heap.objs.size (.lst [])) { s with heap:=s.heap.push { cls:=.type "list",dict:=Zb,data:=.seq ([]:List Ze).toArray },toks:=s.toks } :=
  I2.laid (t':=s.toks) (λb u e=>Ab _ e) (Ag _) ⟨by simp,[],0,.nil,An _ rfl⟩
 have Y:=hW s.heap.objs.size F;generalize hH:s.heap.push { cls:=.type "list",dict:=Zb,data:=.seq ([]:List Ze).toArray }=hp at d k G M ⊢;have f3:∀b∈fp,FpOk X pins (upd H s.heap.objs.size (.lst [])) b:=λb h=>by
  obtain⟨o,P,_⟩:=T.obj _ _ l b h;exact⟨by rw[upd_ne (Ba (Am P))];exact (f2 b h).1,(f2 b h).2⟩
 have up:∀b o,s.heap.get? b=Za o->hp.get? b=Za o:=λb o e=>hH ▸ Ab _ e;have L:=z1s (tk:=s.toks) M hk K Z O c1 c2 f3 (λb h=>by
  obtain⟨o,P,_⟩:=T.obj _ _ l b h;exact Am (up b o P)) d k G
 have w:=T.keep _ _ _ l λb _ o e=>k b o (up b o e);have loop:codeAny #v[1,7] X.A (.compLoop #v[5,7] 0 (.ref it) (.ref s.heap.objs.size) (compEnvC scope (cellsFrom (hp.objs.size+1) scope.names f) hp.objs.size X.env)) (R (.ref s.heap.objs.size) hp.objs.size) { s with heap:=B,toks:=s.toks }:=by
  refine zkk (X:=za8 X N scope (cellsFrom (hp.objs.size+1) scope.names f) hp.objs.size { s with heap:=hp,toks:=s.toks } (upd H s.heap.objs.size (.lst [])) fp) (λ_ _ z=>z) hc (q _ _ _) (hg _ _ _ _ _) (ht _ _ _ _ _) (hm _ _ _ _ _ _) L T w
   (λb h=>⟨(f3 b h).1,(L.ok.exf b h).1,L.ok.exfs b h,.inl h,(L.ok.exf b h).2,λp S=>absurd (show p∈([]:List (Zh×Obj)) from S) (by simp)⟩) Y λσ5 H5 s6 I qn=>?_
  obtain⟨m6,V,_⟩:=I.loc;have fC:=I.free;refine hR _ _ _ H5 ⟨m6,V⟩ (λh' i=>?_) (M.fpOk (Ag _) fC) qn;refine M.call' (s':={ s6 with heap:=h' }) I.os ?_ (I.hok.but fC i) I.bare λb h=>⟨(f3 b h).2.2.2.1,(f3 b h).2.1,(f3 b h).2.2.2.2.1,(f3 b h).2.2.2.2.2⟩;have U:=I.base;have W:∀b o,hp.get? b=Za o->b≠hp.objs.size:=λb o e=>Ba (Am e);exact⟨λb o e n h D=>(i.2 b (W b o e)).trans (U.keep b o e n h D),λb o e n h D=>let ⟨sl,z⟩:=U.slot b o e n h D;⟨sl,(i.2 b (W b o e)).trans z⟩,U.free,λb o e D=>let ⟨o',z⟩:=U.there b o e D;⟨o',(i.2 b (W b o e)).trans z⟩,U.tups,U.frzs,U.tbls⟩
 exact codeAny_compStart_list loop (T.self _ 0 _ _ _ w loop)
theorem z3o {elt tg iter:Zi}{ifs:List Zi}{gs:List Comprehension}{scope:Scope}{pos:Pos}{N:List Str}{cap:List (Option Nat)}{w:TI}{g:TG}{tc:TT}{A:Ze->Env->Sem Unit}{y:Zh->TM} (K:PI X tg iter w)
  (F:∀f C i j fp,PG (za8 X N scope f C i j fp) tg g) (V:∀f C i j fp,PTs (za8 X N scope f C i j fp) ifs tc) (p:∀f C i j fp a,PM (za8 X N scope f C i j fp) (A (.ref a) (za8 X N scope f C i j fp).env) (y a))
  (c:∀it a env,compTurn #v[5,7] 0 it a env=zoc #v[5,7] 0 tg iter ifs (A a env) it a env)
  (M:X.calm=Zd:=by rfl) (z:scope.kind=.function:=by rfl) (l:zhm cap N X.N scope=Zd:=by rfl) (k:zhe scope X.env.scope=Zd:=by rfl) (u:zfo scope=Zd:=by rfl)
  (o:(scope.names.all λp=>!(p.2 == NameKind.local) || decide (scope.names.lookup p.1=some .local))=Zd:=by rfl)
  (S:∀x,foldedSetIterable iter X.env x=pure x:=by intro _;rfl):PE X #v[5,7] (zst w cap g tc y):=by
 intro pins s σ H Q I h;nofun;obtain⟨f,d,U,P⟩:=zdh λx t=>I.ok.has x (zdk k t);refine qG ?_;have b:∀x∈scope.names,x.2=.local->scope.names.lookup x.1=Za .local:=λx t e=>by
  have q:=Az.mp o _ t;simpa [e] using q
 refine wpAny_comprehension_free rfl S d z b (thn (K pins s σ H _ I h) λv s1 O=>thn O λL s2 E=>?_);nofun;obtain⟨it,fp,tn,J,Z,e,D,T,n,B,hW⟩:=E;ac_rfl;subst e;refine zhx M z l k u c F V p U P D T n B hW ?_;intro a C Y W ⟨m,p⟩ G hC q;exact⟨m,p,λR r=>⟨.ref a,W,G R r,rfl,q⟩⟩
theorem z42 {y:Str}{V:Pos}{f:Pos}{i:Nat}{elt tg iter:Zi}{ifs:List Zi}{gs:List Comprehension}{scope:Scope}{pos:Pos}{N:List Str}{cap:List (Option Nat)}{U:TI}{g:TG}{tc:TT}{Z:Ze->Env->Sem Unit}{W:Zh->TM} (hN:X.N.Nodup) (M:X.N[i]?=Za y) (hy:Loc X.env.scope y) (hi:PI X tg iter U)
  (hg:∀n C p r fp,PG (za8 X N scope n C p r fp) tg g) (ht:∀n C p r fp,PTs (za8 X N scope n C p r fp) ifs tc) (F:∀n C p r fp c,PM (za8 X N scope n C p r fp) (Z (.ref c) (za8 X N scope n C p r fp).env) (W c))
  (j:∀it c env,compTurn #v[5,7] 0 it c env=zoc #v[5,7] 0 tg iter ifs (Z c env) it c env)
  (L:swapsWith #v[5,7] (Za (.Name y V)) f.line X.env=pure Zd:=by rfl)
  (hc:X.calm=Zd:=by rfl) (Y:scope.kind=.function:=by rfl) (w:zhm cap N X.N scope=Zd:=by rfl) (u:zhe scope X.env.scope=Zd:=by rfl) (R:zfo scope=Zd:=by rfl)
  (E:(scope.names.all λp=>!(p.2 == NameKind.local) || decide (scope.names.lookup p.1=some .local))=Zd:=by rfl)
  (hs:∀x,foldedSetIterable iter X.env x=pure x:=by intro _;rfl) (hf:X.fn y=Zd\/X.env.scope.names.lookup y=Za .local:=by first|exact .inl rfl|exact .inr rfl|assumption) :
  PS X (.Assign [.Name y V] #v[5,7] f) (tAsg (zst U cap g tc W) (zm8 i)):=by
 intro pins s σ H D I h;nofun;obtain⟨n,l,c1,c2⟩:=zdh λx O=>I.ok.has x (zdk u O);refine qG ?_;have d:∀x∈scope.names,x.2=.local->scope.names.lookup x.1=Za .local:=λx O e=>by
  have q:=Az.mp E _ O;simpa [e] using q
 rw[exec_Assign_Name_used _ _ _ _ L];refine Aa (Fs (Aa ?_));refine Aa (Cv (wpAny_comprehension_free rfl hs l Y d
  (thn (hi pins s σ H _ I h) λv s1 h1=>thn h1 λitv s2 h2=>?_)) (λ_ S hq=>Ae (Ae hq)) λ_ _ e=>e)
 nofun;obtain⟨it,fp,tn,J,H2,e,I2,T,B,f2,hW⟩:=h2;ac_rfl;subst e;refine zhx (Q:=λx H1=>D.nx (σ.set i (Za x)) H1) hc Y w u R j hg ht F c1 c2 I2 T B f2 hW ?_;intro c C S H' ⟨m,F⟩ hI k q;have I':=hI S.heap (.refl ..);refine wpAny_assign_Name (zj8 I' hN M hy (v:=.ref c) rfl (λK A ⟨a,G,P⟩=>?_) hf);have ne:C≠a:=by
  rcases P with rfl|P
  ·exact k.2.1
  ·exact λz=>k.2.2.2.2.1 y a P z.symm
 refine⟨m,F.sameBut G ne,λh' t=>⟨_,H',?_,q⟩⟩;exact A.turned (t':=K.toks) (λb o hb e=>(t.2 b hb).trans e) k.1 k.2.1 k.2.2.2.1 k.2.2.2.2.1 k.2.2.2.2.2
end
section
theorem Inv.turnLay {ch:List Zh}{T:Zh}{o:HO} (I:Inv X pins σ H s) (k:∀b o,b ∉ ch->s.heap.get? b=Za o->h'.get? b=Za o) (A:∀b∈ch,∃j,h'.get? b=Za j) (h:∀b∈ch,FpOk X pins H b) (hT:s.heap.objs.size<=T)
  (new:zbm X.prog X.w (upd H T o) h' T o):Inv X pins σ (upd H T o) { s with heap:=h',toks:=t' }:=by
 have g:=I.hok.fresh hT;have w:∀b u,s.heap.get? b=Za u->b≠T:=λb u e=>Ba (Bc (Am e) hT);have f:∀b u,H b=Za u->b ∉ ch:=λb u e a=>by rw[(h b a).1] at e;cases e
 refine I.step (g':=s.gens) (d':=s.drawn) (λb a=>⟨(h b a).2.2.2.1,(h b a).2.1,(h b a).2.2.2.2.1,(h b a).2.2.2.2.2⟩) (λb o _ _ d e _=>k b o d e) (λb o _ _ d e _=>⟨o.slots,k b o d e⟩) (λb u _ e n=>by rw[upd_ne (w b u e)];exact n)
  (λb u d e=>⟨u,k b u d e⟩) (λb x e=>by rw[upd_ne (zac e g)];exact e) (λb u x e=>by rw[upd_ne (zac e g)];exact e) (λb y e=>⟨#[],by rw[upd_ne (zac e g),e];simp⟩) (λm p=>?_) (λb u e=>?_) I.bare
 ·obtain⟨o,t,l,i,r⟩:=p;exact⟨o,t,l,k _ o (λz=>(h _ z).2.1 rfl) i,r⟩
 ·by_cases a:b=T
  ·subst a;rw[upd_same] at e;obtain rfl:=sI e;exact new
  ·rw[upd_ne a] at e;refine (I.hok b u e).stay (λc v d q=>k c v ?_ q) (λc q=>by rw[upd_ne (zac q g)];exact q) λc x q=>by rw[upd_ne (zac q g)];exact q
   rcases d with z|z
   ·rw[z];exact f b u e
   ·exact f c _ z
theorem Inv.turnL {h':Heap}{t':Nat}{ch:List Zh}(I:Inv X pins σ H s)(k:∀b o,b ∉ ch->s.heap.get? b=Za o->h'.get? b=Za o)(h:∀b∈ch,FpOk X pins H b):Inv X pins σ H { s with heap:=h',toks:=t' }:=by
 have f:∀b u,H b=Za u->b ∉ ch:=λb u e d=>by rw[(h b d).1] at e;cases e
 refine I.step (g':=s.gens) (d':=s.drawn) (λb d=>⟨(h b d).2.2.2.1,(h b d).2.1,(h b d).2.2.2.2.1,(h b d).2.2.2.2.2⟩) (λb o _ _ a e _=>k b o a e) (λb o _ _ a e _=>⟨o.slots,k b o a e⟩) (λb u _ e n=>n)
  (λb u a e=>⟨u,k b u a e⟩) (λb x e=>e) (λb u x e=>e) (λb p e=>⟨#[],by rw[e];simp⟩) (λm i=>?_) (λb u e=>?_) I.bare
 ·obtain⟨o,j,l,g,r⟩:=i;exact⟨o,j,l,k _ o (λz=>(h _ z).2.1 rfl) g,r⟩
 ·refine (I.hok b u e).stay (λc v a q=>k c v ?_ q) (λc q=>q) λc x q=>q;rcases a with z|z
  ·rw[z];exact f b u e
  ·exact f c _ z
end
noncomputable def Ite (K:Zg) (a:Zh):It :=
 ⟨λi H=>∃b x,SqL K H a b/\b[i]?=Za x,λi H x c=>∃p v,x=.ref p/\H p=Zb/\c=upd H p (.tup [.int i,v])/\∀b,SqL K H a b->b[i]?=Za v,λi H=>∃b,SqL K H a b/\b.length<=i⟩
theorem zu4 {K:Zg}{es:List Zi}{Z}{U:Pos}(a e it:Zh)(A:e≠it):Turn P w K (.Tuple es Z U) (Ite K a) [e,it] e (λi h=>(∃g,IsEnum h e it i g)/\h.IsListIter it a i) where
 mem:=by simp
 obj:=λi h n b f=>by
  nofun;obtain⟨⟨g,m⟩,o,hi,c,d⟩:=n;refine qG ?_;rcases Ak.mp f with rfl|f
  ·exact⟨_,m,λv z=>by cases z⟩
  ·have:b=it:=by simpa using f
   subst this;exact⟨o,hi,λv z=>by rw[d] at z;cases z⟩
 keep:=λi h T n k=>⟨let ⟨g,m⟩:=n.1;⟨g,k e (by simp) _ m⟩,n.2.at λo z=>k it (by simp) o z⟩
 item:=by
  intro X L M hK R i pins s σ H E I D n G;subst L M hK;nofun;obtain⟨xs,x,F,O⟩:=G;obtain⟨N,Q,p,hz⟩:=I.list F;obtain⟨u,hu,ru⟩:=Q.get O;obtain⟨⟨g,m⟩,r⟩:=n;ac_rfl;refine wpAny_pyNext_enum_item m r p.isList (by simpa using hu) A λT V B hT hsz hk=>⟨_,rfl,?_⟩;refine wpAny_letOwnedTupleGo_enum V λJ t j=>?_;have kk:∀b o,b ∉ [e,it]->s.heap.get? b=Za o->J.get? b=Za o:=λb o f q=>by
   have S:b≠e:=λz=>f (by simp [z]);have W:b≠it:=λz=>f (by simp [z]);exact (j.2 b S).trans (hk b o S W q)
  have C:s.heap.objs.size≠e:=λz=>absurd (Am m) (by rw[z];exact Bp _);have l:=B.at λo y=>(j.2 it A.symm).trans y;refine⟨.ref s.heap.objs.size,upd H s.heap.objs.size (.tup [.int i,x]),I.turnLay kk (λb f=>?_) D (Ag _) ⟨by show 2<=sizeLine;decide,[.int i s.toks,u],.cons ⟨_,rfl⟩ (.cons ru .nil),?_⟩,rfl,⟨_,x,rfl,I.hok.fresh (Ag _),rfl,λys hy=>by rw[I.list_inj hy F];exact O⟩,⟨⟨_,by simpa using t⟩,l⟩,λb f=>?_⟩
  ·rcases Ak.mp f with rfl|f
   ·exact⟨_,t⟩
   ·have:b=it:=by simpa using f
    subst this;obtain⟨o,z,_⟩:=l;exact⟨o,z⟩
  ·exact⟨_,(j.2 _ C).trans hT,⟨rfl,_,rfl⟩,rfl⟩
  ·have:b≠s.heap.objs.size:=by
    rcases Ak.mp f with rfl|f
    ·exact C.symm
    ·have e2:b=it:=by simpa using f
     subst e2;obtain⟨o,z,_⟩:=r;exact Ba (Am z)
   rw[upd_ne this];exact (D b f).1
 done:=by
  intro X L M hK R i pins s σ H E I D n G;subst L M hK;nofun;obtain⟨xs,F,O⟩:=G;obtain⟨N,Q,p,hz⟩:=I.list F;obtain⟨⟨g,m⟩,r⟩:=n;obtain⟨f0,f1,f2,f3,f4,Y⟩:=D it (by simp);ac_rfl;have hl:=Q.length;exact wpAny_pyNext_enum_end (I.ok.hd R) m r p.isList (Dn (by simp;symm)) λT eb=>⟨rfl,I.turned (t':=s.toks) (λb o f e=>eb b o f e) f0 f1 f3 f4 Y⟩
 self:=λ_ _ _ _ _ n h=>let ⟨_,m⟩:=n.1;Hs m h
section
end
noncomputable def Itv (K:Zg) (a:Zh) (n:Nat):It :=
 ⟨λi H=>i<n/\∃b,SqL K H a b/\b.length=n,λi H x c=>c=H/\∀b,SqL K H a b->b[n-1-i]?=Za x,λi H=>i=n⟩
theorem zy3 {K:Zg}(a it:Zh)(n:Nat):Turn P w K tg (Itv K a n) [it] it (λi h=>h.IsRevIter it a ((n:Int)-1-(i:Int))) where
 mem:=by simp
 obj:=λi h g b j=>by
  have e:b=it:=by simpa using j
  subst e;nofun;obtain⟨o,e,c,d⟩:=g;refine qG ?_;exact⟨o,e,λv z=>by rw[d] at z;cases z⟩
 keep:=λi h F g k=>g.at λo e=>k it (by simp) o e
 item:=by
  intro X A B hK D i pins s σ H E I m g r;subst A B hK;nofun;obtain⟨hi,Q,G,Y⟩:=r;ac_rfl;have l:n-1-i<Q.length:=by symm
  nofun;obtain⟨V,W,p,hz⟩:=I.list G;obtain⟨u,S,T⟩:=W.get (Ad l);obtain⟨t,x,J,f3,C,q⟩:=m it (by simp);ac_rfl;have e:(n:Int)-1-(i:Int)=((n-1-i:Nat):Int):=by symm
  have f:=g;rw[e] at f;refine wpAny_pyNext_rev_item f p.isList (by simpa using S) λF f M=>?_;have N:=I.turned (t':=s.toks) (λb o j e=>(M.2 b j).trans e) t x f3 C q;nofun;obtain⟨o,O,c,d⟩:=id f;ac_rfl;have L:((n-1-i:Nat):Int)-1=(n:Int)-1-((i+1:Nat):Int):=by symm
  rw[L] at f;exact⟨u,rfl,zz6 O c d #v[0,9] ⟨_,H,N,T,⟨rfl,λZ R=>by rw[I.list_inj R G];exact Ad l⟩,f,λb j=>(m b j).1⟩⟩
 done:=by
  intro X A B hK D i pins s σ H E I m g r;subst A B hK;have y:i=n:=r;subst y;nofun;obtain⟨t,x,J,f3,C,q⟩:=m it (by simp);ac_rfl;have e:(i:Int)-1-(i:Int)=-1:=by symm
  rw[e] at g;exact wpAny_pyNext_rev_end (I.ok.hd D) g λF U=>⟨rfl,I.turned (t':=s.toks) (λb o j e=>U b o j e) t x f3 C q⟩
 self:=λ_ _ _ _ _ g h=>wpAny_pyIter_revIter g h
section
noncomputable def iRev (K:Zg) (t:TA):TI:=λσ H R=>t σ H λv b=>∃a x,v=[.ref a]/\SqL K b a x/\R (Itv K a x.length) b
theorem z76 (m:Gl X "reversed") (y:X.mg "reversed" = Zb) (v:PA X [l] tl) (z:starEach [l] X.env=[(Zc,eval l X.env)]:=by rfl) :
  PI X tg (.Call (.Name "reversed" p) [l] [] pos) (iRev X.K tl):=by
 intro pins s σ H R I h;refine Call_ (zc5 I m y boot_reversed (Bt (thn (v pos pins s σ H _ I h) λD c ⟨C,u,d,t,n⟩=>?_) z rfl));nofun;obtain⟨a,x,e,w,q⟩:=n;refine qG ?_;subst e;cases t with
 | cons r A =>
  cases A;cases r;nofun;obtain⟨i,B,j,E⟩:=d.list w;refine qG ?_;refine call_reversed_list j.isList ?_;have f:(c.heap.push (revObj a ((i.toArray.size:Int)-1))).IsRevIter c.heap.objs.size a ((i.toArray.size:Int)-1):=⟨_,An _ rfl,rfl,rfl⟩;refine wpAny_pyIter_revIter f ?_;refine⟨c.heap.objs.size,[c.heap.objs.size],_,_,u,rfl,d.kept (t':=c.toks) λb o e=>Ab _ e,zy3 a _ x.length,?_,λb g=>?_,q⟩
  ·have e:((i.toArray.size:Int)-1)=(x.length:Int)-1-((0:Nat):Int):=by have:=B.length;simp;symm
   have k:=e;rw[<-k];exact⟨_,An _ rfl,rfl,rfl⟩
  ·have e:b=c.heap.objs.size:=by simpa using g
   subst e;exact d.fpOk (Ag _) (d.hok.fresh (Ag _))
end
section
variable {κ:Type} [DecidableEq κ]
noncomputable def valV (kvs:List (κ×V)) (k:κ):Option V:=(kvs.find? λa=>decide (a.1=k)).map (·.2)
noncomputable def putK (kvs:List (κ×V)) (k:κ) (v:V):List (κ×V) :=
 if (kvs.any λa=>decide (a.1=k))=Zd then kvs.map (λa=>if a.1=k then (a.1,v) else a) else kvs++[(k,v)]
theorem ziw {r:List (κ×V)}{k:κ}(e:p.1=k):valV (p::r) k=Za p.2:=by simp [valV,Ef,e]
theorem zi0 {p:κ×V}{r:List (κ×V)}{k:κ}(e:¬ p.1=k):valV (p::r) k=valV r k:=by simp [valV,Ef,e]
theorem znk (kvs:List (κ×V))(k:κ)(v:V):(putK kvs k v).length<=kvs.length+1:=by
 unfold putK;split
 ·rw[Af];symm
 ·rw[Be,Bf,Ez];symm
theorem KV.val {kvs:List (κ×V)}{vs:List (κ×Ze)} (r:KV kvs vs) (k:κ):RelO (valV kvs k) (valueAt vs k):=by
 unfold KV at r
 induction r with
 |nil=>exact True.intro
 | @cons p q g c h t i =>
  obtain⟨d,f⟩:=h;by_cases e:p.1=k
  ·have a:q.1=k:=d.symm.trans e
   have b:valueAt (q::c) k=Za q.2:=by simp [valueAt,Ef,a]
   rw[ziw e,b];exact f
  ·have a : ¬ q.1=k:=λz=>e (d.trans z)
   have b:valueAt (q::c) k=valueAt c k:=by simp [valueAt,Ef,a]
   rw[zi0 e,b];exact i
theorem KV.any (r:KV kvs vs)(k:κ):(kvs.any λa=>decide (a.1=k))=vs.any λa=>decide (a.1=k):=by
 unfold KV at r
 induction r with
 |nil=>rfl
 |cons h t i=>rw[Dy,Dy,i,h.1]
theorem KV.repl (r:KV kvs vs) (k:κ) (c:RelV y u) :
  KV (kvs.map λa=>if a.1=k then (a.1,y) else a) (vs.map λa=>if a.1=k then (a.1,u) else a):=by
 unfold KV at r ⊢
 induction r with
 |nil=>exact .nil
 | @cons p q g f h t i =>
  rw[Ax,Ax];refine .cons ?_ i;obtain⟨b,d⟩:=h;by_cases e:p.1=k
  ·rw[if_pos e,if_pos (b.symm.trans e)];exact⟨b,c⟩
  ·rw[if_neg e,if_neg (λz=>e (b.trans z))];exact⟨b,d⟩
theorem KV.put (r:KV kvs vs)(k:κ)(a:RelV y u):KV (putK kvs k y) (stored vs k u):=by
 unfold putK stored;rw[r.any k];by_cases e:(vs.any λb=>decide (b.1=k))=Zd
 ·rw[if_pos e,if_pos e];exact r.repl k a
 ·rw[if_neg e,if_neg e];exact Paired.snoc r ⟨rfl,a⟩
end
theorem z4u (r:RelV (kV k) u):(zbl P w).is k u=Zd:=by
 cases k with
 |inl i=>obtain⟨t,e⟩:=(show ∃t,u=Ze.int i t from r);subst e;exact zmp P w i t
 |inr x=>obtain⟨t,e⟩:=(show ∃t,u=Ze.str x t from r);subst e;exact znx P w x t
theorem zkr:∀{ks:List Key}{u:List Ze},Vals (ks.map kV) u->ItemsAre (zbl P w) ks u
 |[],_,r=>by rw[Gn] at r;cases r;exact .nil
 | k::ks,_,r=>by
  rw[Ax] at r;cases r with
  |cons h t=>exact .cons (z4u h) (zkr t)
noncomputable abbrev KT (H:Hp):List (List Key×V)->List (List Key×Zh×Ze)->Prop:=Paired λp q=>p.1=q.1/\H q.2.1=Za (.tup (p.1.map kV))/\RelV p.2 q.2.2
theorem KT.val {kvs:List (List Key×V)}{xs:List (List Key×Zh×Ze)} (r:KT H kvs xs) (k:List Key):RelO (valV kvs k) ((atKey xs k).map (·.2)):=by
 induction r with
 |nil=>exact True.intro
 | @cons p q g c h t i =>
  obtain⟨d,_,f⟩:=h;by_cases e:p.1=k
  ·have a:q.1=k:=d.symm.trans e
   have b:atKey (q::c) k=Za q.2:=by simp [atKey,Ef,a]
   rw[ziw e,b];exact f
  ·have a : ¬ q.1=k:=λz=>e (d.trans z)
   have b:atKey (q::c) k=atKey c k:=by simp [atKey,Ef,a]
   rw[zi0 e,b];exact i
section
theorem ybn (ok:HOk P w H h)(e:Rd H a u):zbm P w H h a u:=e.ok ok
theorem dk_rd (ok:HOk P w H h)(e:Rd H a (.dK kvs)):kvs.length<=sizeLine/\(a==sysModules)=Zc/\∃vs,KV kvs vs/\h.DictOf (zbl P w) a vs :=
 show zbm P w H h a (.dK kvs) from ybn ok e
theorem z2a (ok:HOk P w H h)(e:H a=Za (.tup (ks.map kV))):(tupleKind (zbl P w)).is h ks a:=by
 obtain⟨_,i,r,o,d,⟨c,n,b⟩,_⟩:=(show zbm P w H h a (.tup (ks.map kV)) from ok a _ e);exact⟨o,i.toArray,n,d,c,b,by simpa using zkr r⟩
theorem dt_rd (ok:HOk P w H h) (e:Rd H a (.dT kvs)):kvs.length<=sizeLine/\(a==sysModules)=Zc /\
  ∃xs,KT H kvs xs/\h.DictOfH (tupleKind (zbl P w)) a xs:=by
 obtain ⟨z,y,xs,r,o,i,s,k,g,d,f,j⟩:=(show zbm P w H h a (.dT kvs) from ybn ok e);refine ⟨z,y,xs,r,o,i,s,k,g,d,f,λx b=>?_,j⟩;have all:∀{l:List (List Key×V)}{m:List (List Key×Zh×Ze)},KT H l m->∀x∈m,(tupleKind (zbl P w)).is h x.1 x.2.1:=by
  intro l m q
  induction q with
  |nil=>intro x b;exact nomatch b
  | @cons p q v u c t n =>
   intro x b;rcases Ak.mp b with e|b
   ·subst e
    exact z2a ok (by rw[<-c.1];exact c.2.1)
   ·exact n x b
 exact all r x b
end
noncomputable def DGet (H:Hp) (a:Zh) (y:V) (r:Option V):Prop :=
 (∃kvs k,Rd H a (.dK kvs)/\y=kV k/\r=valV kvs k)\/∃kvs k b,Rd H a (.dT kvs)/\y=.ref b/\H b=Za (.tup (k.map kV))/\r=valV kvs k
section
theorem Inv.big (I:Inv X pins σ H s):sysModules<s.heap.objs.size:=by
 have h:mainGlobals<s.heap.objs.size:=(I.mod.glob.keeps I.bk).lt;exact Nat.lt_trans #v[0,9] h
theorem zwe (C:A.units+1<cLine) (I:Inv X pins σ H s) (g:DGet H a y (Za v)) (m:RelV y u) (h:∀w s',Inv X pins σ H s'->RelV v w->Q w s') :
  wpAny #v[1,7] A (getItem (.ref a) u) Q E s:=by
 rcases g with⟨kvs,k,e,f,l⟩|⟨kvs,k,b,e,f,t,l⟩
 ·subst f;obtain⟨z,B,q,r,i⟩:=dk_rd I.hok e;obtain⟨w,j,c⟩:=RelO.some_of (v:=v) (o:=valueAt q k) (by rw[l];exact r.val k);exact wpAny_getItem_of (z4u m) i.mapOf j (h w _ (I.tok _) c)
 ·subst f;cases (show u=Ze.ref b from m);obtain⟨z,B,x,r,i⟩:=dt_rd I.hok e;obtain⟨w,j,c⟩:=RelO.some_of (v:=v) (o:=(atKey x k).map (·.2)) (by rw[l];exact r.val k);obtain⟨p,n,d⟩:=Eu.mp j;refine wpAny_getItem_heap (tupleKind_room_in1 C) (z2a I.hok t) i n ?_;rw[d];exact h w _ (I.tok _) c
theorem z8x (z:kvs.length<=sizeLine) (h:(a==sysModules)=Zc) (r:KV kvs vs) (d:h'.DictOf (zbl P w) a vs) :
 zbm P w H' h' a (.dK kvs):=⟨z,h,vs,r,d⟩
end
section
end
theorem zne (I:Inv X pins σ H s)(g:DGet H a y o):s.TypeIs (.ref a) "dict" := by
 rcases g with⟨kvs,k,e,_,_⟩|⟨kvs,k,b,e,_,_,_⟩
 ·obtain⟨_,_,v,_,d⟩:=dk_rd I.hok e;exact d.typeIs
 ·obtain⟨_,_,x,_,d⟩:=dt_rd I.hok e;exact d.typeIs
section
end
section
end
noncomputable def zif (kvs more:List (Key×V)):List (Key×V):=more.foldl (λa k=>putK a k.1 k.2) kvs
theorem KV.merge:∀{more:List (Key×V)}{a:List (Key×Ze)}{kvs:List (Key×V)}{vs:List (Key×Ze)},KV more a->KV kvs vs->KV (zif kvs more) (merged vs a):=by
 intro more a kvs vs r;unfold KV at r
 induction r generalizing kvs vs with
 |nil=>intro q;exact q
 | @cons p q d c h t i =>
  intro b;have e:KV (putK kvs p.1 p.2) (stored vs q.1 q.2):=by
   have:=b.put p.1 h.2;rw[<-h.1];exact this
  exact i e
theorem zem:∀(more kvs:List (Key×V)),(zif kvs more).length<=kvs.length+more.length
 |[],kvs=>by show kvs.length<=kvs.length+0;symm
 | p::r,kvs=>by
  have h:=zem r (putK kvs p.1 p.2);have a:=znk kvs p.1 p.2;show (zif (putK kvs p.1 p.2) r).length<=_;rw[Bf];symm
section
end
section
end
section
end
section
end
section
variable {X:Cx}
theorem z9f {bs:List Bool}{a:List Ze}{i:Nat}{v:Ze}(r:Vals (bs.map V.bl) a)(h:a[i]?=Za v):∃b,bs[i]?=Za b/\v=.bool b:=by
 have d:=r.length;rw[Af] at d;have c:i<bs.length:=by rw[d];exact (Ah.mp h).1
 obtain⟨u,e,f⟩:=r.get (by rw[Ar,Ad c];rfl);rw[h] at e;obtain rfl:=sI e;exact⟨bs[i],Ad c,f⟩
theorem zjd {bs:List Bool}(h:i<bs.length):bs.getD i Zc=bs[i]:=by rw[Bi,Ad h];rfl
theorem zwv (bs:List Bool):((List.range bs.length).any λi=>bs.getD i Zc)=bs.any id:=by
 rw[Du,List.any_eq_true,List.any_eq_true];constructor
 ·rintro ⟨i,a,h⟩;rw[By] at a;refine⟨bs[i],Fv a,?_⟩;rw[zjd a] at h;exact h
 ·rintro ⟨b,c,h⟩;obtain⟨i,a,e⟩:=Cj.mp c;refine⟨i,By.mpr a,?_⟩;rw[zjd a,e];exact h
theorem zvm (bs:List Bool):((List.range bs.length).all λi=>bs.getD i Zc)=bs.all id:=by
 rw[Du,Az,Az];constructor
 ·intro h b c;obtain⟨i,a,e⟩:=Cj.mp c;have:=h i (By.mpr a);rw[zjd a,e] at this;exact this
 ·intro h i a;rw[By] at a;rw[zjd a];exact h _ (Fv a)
theorem zqe {A:Around}{bs:List Bool}{a:List Ze}(r:Vals (bs.map V.bl) a):TruthOf P w A (λi v=>a.toArray[i]?=Za v) (λi=>bs.getD i Zc):=λi v s Q E d f=>by
 obtain⟨b,c,e⟩:=z9f r (by simpa using d);subst e;have:bs.getD i Zc=b:=by rw[Bi,c];rfl
 have h:Q (bs.getD i Zc) s:=f;rw[this] at h;exact Fx h
theorem zy0 (j:X.calm=Zd):zek X (.builtin "any") (λxs H Q=>∃(a:Zh) (bs:List Bool),xs=[.ref a]/\SqL X.K H a (bs.map V.bl)/\Q (.bl (bs.any id)) H):=by
 intro pins s σ H xs v Q I r h;obtain⟨a,bs,rfl,g,q⟩:=h;obtain⟨u,rfl,f⟩:=vals1 r;cases f;obtain⟨i,d,p,w⟩:=I.list g;have m:=d.length;rw[Af] at m;have k:a<s.heap.objs.size:=by obtain⟨o,e,_⟩:=p.isList;exact Am e
 refine call_any_walk (Ep p.isList ?_);refine⟨s.heap.objs.size,_,[s.heap.objs.size],i.toArray.size,_,_,_,rfl,Walks.list (show X.A.in1.handled=Zb from I.ok.hd j) _ a (Ba k) i.toArray,⟨⟨_,An _ rfl,rfl,rfl⟩,p.isList.push _⟩,zqe d,λn t l=>?_⟩;have e:i.toArray.size=bs.length:=by simp;symm
 rw[e,zwv];refine⟨.bl _,H,I.kept λb o c=>?_,rfl,q⟩;exact l b o (by intro z;rw[Aw] at z;subst z;exact absurd (Am c) (Bp _)) (Ab _ c)
theorem zzl (j:X.calm=Zd):zek X (.builtin "all") (λxs H Q=>∃(a:Zh) (bs:List Bool),xs=[.ref a]/\SqL X.K H a (bs.map V.bl)/\Q (.bl (bs.all id)) H):=by
 intro pins s σ H xs v Q I r h;obtain⟨a,bs,rfl,g,q⟩:=h;obtain⟨u,rfl,f⟩:=vals1 r;cases f;obtain⟨i,d,p,w⟩:=I.list g;have m:=d.length;rw[Af] at m;have k:a<s.heap.objs.size:=by obtain⟨o,e,_⟩:=p.isList;exact Am e
 refine call_all_walk (Ep p.isList ?_);refine⟨s.heap.objs.size,_,[s.heap.objs.size],i.toArray.size,_,_,_,rfl,Walks.list (show X.A.in1.handled=Zb from I.ok.hd j) _ a (Ba k) i.toArray,⟨⟨_,An _ rfl,rfl,rfl⟩,p.isList.push _⟩,zqe d,λn t l=>?_⟩;have e:i.toArray.size=bs.length:=by simp;symm
 rw[e,zvm];refine⟨.bl _,H,I.kept λb o c=>?_,rfl,q⟩;exact l b o (by intro z;rw[Aw] at z;subst z;exact absurd (Am c) (Bp _)) (Ab _ c)
end
noncomputable def z8g (i j:Int):Prop:=Builtin.Int.intBits i<=2^20/\Builtin.Int.intBits j<=2^20
theorem z31:OpR X (binaryOp .Mult) (rI z8g λi j=>.int (i*j)):=opI λ_ _ _ _ _ _ _ h q=>mul_int q (IntMulOk.of_bits h.1 h.2)
structure Cal (P:Program) (w:World) (K:Zg) (mg:Str->Option Ze) (base:Heap) (n:Nat) (x:Str) (ps:List Str) (sp:Sp):Prop where
 ex:∃f fd,FnOk P w K mg base CX0 n f fd ps sp/\znt K fd ps []/\PySem.W.keepIn K (.ref f)=Zd/\mg x=Za (.ref f)
theorem z86 (C:Cal X.prog X.w X.K X.mg X.base n x ps sp) (j:Room k X.A) (c:Gl X x) (g:PA X (e::es) t) (l:n<=k:=by decide)
  (a:(x==("__debug__" : Str))=Zc:=by decide) (d:starEach (e::es) X.env=(Zc,eval e X.env)::starEach es X.env:=by rfl) (h:(backTo pos (starEach es X.env)).any (·.1)=Zc:=by rfl) :
  PE X (.Call (.Name x p) (e::es) [] pos) (z6m sp [] E0 t):=by
 nofun;obtain⟨f,o,F,b,i,m⟩:=C.ex;refine qG ?_;exact z4s F (j.mono l) c m i b .nil ycb g a d h
theorem Same.new (h:H p=Zb)(o:HO):Same H (L2.upd H p o):=λb u e=>by rw[upd_ne (zac e h)];exact e
theorem SqL.of' {K:Zg}(h:H a=Za (.lst xs)):SqL K H a xs:=.inl (.inl h)
noncomputable def MM:Int:=2305843009213693951
noncomputable def big:Nat:=1099511627776
noncomputable def Bits (xs:List Int):Prop:=∀x∈xs,x=0\/x=1
noncomputable def wordOf (xs:List Int):Int:=xs.foldr (λb a=>2*a+b) 0
theorem z97:bootBuiltins "len" = Za (.builtin "len"):=by decide +kernel
theorem z98:bootBuiltins "abs" = Za (.builtin "abs"):=by decide +kernel
theorem z7o:bootBuiltins "any" = Za (.builtin "any"):=by decide +kernel
theorem ybh:bootBuiltins "all" = Za (.builtin "all"):=by decide +kernel
theorem z92:bootBuiltins "int" = Za (.type "int"):=by decide +kernel
theorem z0y:bootBuiltins "tuple" = Za (.type "tuple"):=by decide +kernel
theorem z41:bootBuiltins "list" = Za (.type "list"):=by decide +kernel
theorem z0v {w:Int}{i:Nat}(a:0<w)(h:w<=2^(200*i)):0<w*10^60/\w*10^60<=2^(200*(i+1)):=by
 have e:(2:Int)^(200*(i+1))=2^(200*i)*2^200:=by rw[Nat.mul_add,Int.pow_add]
 refine⟨Int.mul_pos a #v[0,9],?_⟩;symm
theorem zi5 (d:0<=w)(h:w<=2^(200*i))(c:i<=63):Builtin.Int.intBits w<=2^20:=by
 have b:(2:Int)^(200*i)<2^(200*i+1):=by rw[Int.pow_succ];have:(0:Int)<2^(200*i):=Int.pow_pos #v[0,9];symm
 have a:w.natAbs<2^(200*i+1):=by
  have:((w.natAbs:Nat):Int)<((2^(200*i+1):Nat):Int):=by
   have e:((w.natAbs:Nat):Int)=w:=by symm
   rw[e];exact Int.lt_of_le_of_lt h b
  exact Int.ofNat_lt.mp this
 have:=PyProof.Rows.intBits_le a;symm
theorem zd1:∀{xs:List Int},Bits xs->0<=wordOf xs/\wordOf xs<2^xs.length
 |[],_=>by decide
 | x::r,h=>by
  have b:=h x Au;have i:=zd1 λy a=>h y (Ap _ a);show 0<=2*wordOf r+x/\2*wordOf r+x<2^(r.length+1);symm
noncomputable def zag:Zi->Bool
 |.Starred ..=>Zc
 |_=>Zd
theorem zae (h:zag e=Zd):starEach (e::es) env=(Zc,eval e env)::starEach es env:=by
 cases e<;>first|rfl|(cases h)
theorem pac (a:PE X e te)(b:PA X es t)(h:zag e=Zd:=by rfl):PA X (e::es) (ze8 te t):=zjq a b (zae h)
end L2
namespace L2
theorem noSome {α:Type}{a:α}{P:Prop}(h:Zb=Za a):P:=by cases h
open PySem PySem.Spec PyProof.Rows
noncomputable abbrev DKey:=Key ⊕ List Key
inductive W where
 |non|bl (b:Bool)|int (i:Int)|str (x:Str)|tup (xs:List W)|lst (xs:List W)|frl (xs:List W)|dic|dct (ks:List DKey) (vs:List W)|dcz (ks:List DKey) (vs:List W)
 deriving BEq,Inhabited
mutual
inductive Rep (K:Zg) (F:Hp):W->V->Prop where
 |non:Rep K F .non .non
 |bl (b:Bool):Rep K F (.bl b) (.bl b)
 |int (i:Int):Rep K F (.int i) (.int i)
 |str (x:Str):Rep K F (.str x) (.str x)
 |tup {ws:List W}{a:Zh}{vs:List V} (h:F a=Za (.tup vs)) (r:Reps K F ws vs):Rep K F (.tup ws) (.ref a)
 |lst {ws:List W}{a:Zh}{vs:List V} (h:F a=Za (.lst vs)) (r:Reps K F ws vs):Rep K F (.lst ws) (.ref a)
 |frl {ws:List W}{a:Zh}{vs:List V} (h:SqL K F a vs) (r:Reps K F ws vs):Rep K F (.frl ws) (.ref a)
 |dic {a:Zh}{kvs:List (Key×V)} (h:F a=Za (.dK kvs)):Rep K F .dic (.ref a)
 |dct {a:Zh}{ks:List Key}{ws:List W}{vs:List V} (h:F a=Za (.dK (ks.zip vs))) (hl:ks.length=vs.length) (r:Reps K F ws vs):Rep K F (.dct (ks.map .inl) ws) (.ref a)
 |dctT {a:Zh}{ks:List (List Key)}{ws:List W}{vs:List V} (h:F a=Za (.dT (ks.zip vs))) (hl:ks.length=vs.length) (r:Reps K F ws vs):Rep K F (.dct (ks.map .inr) ws) (.ref a)
 |dcz {a:Zh}{o:Obj}{ks:List Key}{ws:List W}{vs:List V} (h:F a=Za (.frz o (.dK (ks.zip vs)))) (hl:ks.length=vs.length) (r:Reps K F ws vs):Rep K F (.dcz (ks.map .inl) ws) (.ref a)
 |dczT {a:Zh}{o:Obj}{ks:List (List Key)}{ws:List W}{vs:List V} (h:F a=Za (.frz o (.dT (ks.zip vs)))) (hl:ks.length=vs.length) (r:Reps K F ws vs):Rep K F (.dcz (ks.map .inr) ws) (.ref a)
inductive Reps (K:Zg) (F:Hp):List W->List V->Prop where
 |nil:Reps K F [] []
 |cons {w:W}{v:V}{ws:List W}{vs:List V} (h:Rep K F w v) (r:Reps K F ws vs):Reps K F (w::ws) (v::vs)
end
theorem zce {α:Type}{l:List α}{i j:Nat}{x y:α}(a:i<l.length)(h:(l.set i x)[j]?=Za y):(j=i/\y=x)\/(j≠i/\l[j]?=Za y):=by
 by_cases e:j=i
 ·subst e;rw[Dx a] at h;exact .inl ⟨rfl,(sI h).symm⟩
 ·rw[Dg (Ne.symm e)] at h;exact .inr ⟨e,h⟩
theorem z0n {α:Type}{l:List α}{i:Nat}{x:α}(h:l[i]?=Za x):l.set i x=l:=by
 apply Ds;intro j;by_cases e:j=i
 ·subst e;rw[Dx (Ah.mp h).1,h]
 ·rw[Dg (Ne.symm e)]
section
variable {K:Zg}
mutual
theorem Rep.mono (s:Same F F'):∀{w:W}{v:V},Rep K F w v->Rep K F' w v
 |_,_,.non=>.non
 |_,_,.bl b=>.bl b
 |_,_,.int i=>.int i
 |_,_,.str x=>.str x
 |_,_,.tup h r=>.tup (s _ _ h) (Reps.mono s r)
 |_,_,.lst h r=>.lst (s _ _ h) (Reps.mono s r)
 |_,_,.frl h r=>.frl (s.seq h) (Reps.mono s r)
 |_,_,.dic h=>.dic (s _ _ h)
 |_,_,.dct h a r=>.dct (s _ _ h) a (Reps.mono s r)
 |_,_,.dctT h a r=>.dctT (s _ _ h) a (Reps.mono s r)
 |_,_,.dcz h a r=>.dcz (s _ _ h) a (Reps.mono s r)
 |_,_,.dczT h a r=>.dczT (s _ _ h) a (Reps.mono s r)
theorem Reps.mono (s:Same F F'):∀{ws:List W}{vs:List V},Reps K F ws vs->Reps K F' ws vs
 |_,_,.nil=>.nil
 |_,_,.cons h r=>.cons (Rep.mono s h) (Reps.mono s r)
end
theorem Reps.length:∀{ws:List W}{vs:List V},Reps K F ws vs->ws.length=vs.length
 |_,_,.nil=>rfl
 |_,_,.cons _ r=>congrArg (· + 1) (Reps.length r)
theorem Reps.get:∀{ws:List W}{vs:List V}{i:Nat}{w:W},Reps K F ws vs->ws[i]?=Za w->∃v,vs[i]?=Za v/\Rep K F w v
 |_,_,_,_,.nil,e=>by simp at e
 |_,_,0,_,.cons h _,e=>by simp at e;subst e;exact⟨_,rfl,h⟩
 | _,_,i+1,w,.cons _ r,e=>by
  obtain⟨v,a,b⟩:=Reps.get r (by simpa using e);exact⟨v,by simpa using a,b⟩
theorem Reps.getV:∀{ws:List W}{vs:List V}{i:Nat}{v:V},Reps K F ws vs->vs[i]?=Za v->∃w,ws[i]?=Za w/\Rep K F w v
 |_,_,_,_,.nil,e=>by simp at e
 |_,_,0,_,.cons h _,e=>by simp at e;subst e;exact⟨_,rfl,h⟩
 | _,_,i+1,v,.cons _ r,e=>by
  obtain⟨w,a,b⟩:=Reps.getV r (by simpa using e);exact⟨w,by simpa using a,b⟩
theorem Reps.append:∀{xs ys:List W}{u ws:List V},Reps K F xs u->Reps K F ys ws->Reps K F (xs++ys) (u++ws)
 |_,_,_,_,.nil,s=>s
 |_,_,_,_,.cons h r,s=>.cons h (Reps.append r s)
theorem Reps.take:∀{xs:List W}{u:List V} (n:Nat),Reps K F xs u->Reps K F (xs.take n) (u.take n)
 |_,_,0,_=>.nil
 |_,_,_+1,.nil=>.nil
 |_,_,n+1,.cons h r=>.cons h (Reps.take n r)
theorem Reps.drop:∀{xs:List W}{u:List V} (n:Nat),Reps K F xs u->Reps K F (xs.drop n) (u.drop n)
 |_,_,0,r=>r
 |_,_,_+1,.nil=>.nil
 |_,_,n+1,.cons _ r=>Reps.drop n r
theorem Reps.set (h:Rep K F w v):∀{xs:List W}{u:List V} (i:Nat),Reps K F xs u->Reps K F (xs.set i w) (u.set i v)
 |_,_,_,.nil=>.nil
 |_,_,0,.cons _ r=>.cons h r
 |_,_,i+1,.cons q r=>.cons q (Reps.set h i r)
theorem Reps.rep (r:Reps K F xs us):∀k:Nat,Reps K F (List.replicate k xs).flatten (List.replicate k us).flatten
 |0=>.nil
 |k+1=>by rw[Cy];exact r.append (r.rep k)
noncomputable def isIt:W->V->Prop
 |.int i,v=>v=.int i
 |.bl b,v=>v=.bl b
 |_,_=>True
theorem Rep.isIt (h:Rep K F w v):isIt w v:=by cases h<;>first|rfl|trivial
theorem Reps.uncons (h:Reps K F (w::ws) vs):∃v u,vs=v::u/\Rep K F w v/\Reps K F ws u:=by
 cases h with
 |cons h r=>exact⟨_,_,rfl,h,r⟩
theorem Reps.ints:∀{a:List Int}{vs:List V},Reps K F (a.map W.int) vs->vs=a.map V.int:=by
 intro a
 induction a with
 |nil=>intro vs h;cases h;rfl
 | cons n a i =>
  intro vs h;obtain⟨v,u,e,c,b⟩:=Reps.uncons h;rw[e,i b,show v=.int n from c.isIt];rfl
theorem Reps.ofInts:∀(a:List Int),Reps K F (a.map W.int) (a.map V.int)
 |[]=>.nil
 |n::a=>.cons (.int n) (Reps.ofInts a)
theorem Reps.bls:∀{bs:List Bool}{vs:List V},Reps K F (bs.map W.bl) vs->vs=bs.map V.bl:=by
 intro a
 induction a with
 |nil=>intro vs h;cases h;rfl
 | cons n a i =>
  intro vs h;obtain⟨v,u,e,c,b⟩:=Reps.uncons h;rw[e,i b,show v=.bl n from c.isIt];rfl
noncomputable abbrev En:=List (Option (W×Bool))
noncomputable abbrev Prt:=Zh->HO->Prop
inductive OwnR (K:Zg) (F:Hp):W->HO->Prop where
 |lst {ws:List W}{vs:List V} (r:Reps K F ws vs):OwnR K F (.lst ws) (.lst vs)
 |dct {ks:List Key}{ws:List W}{vs:List V} (hl:ks.length=vs.length) (r:Reps K F ws vs):OwnR K F (.dct (ks.map .inl) ws) (.dK (ks.zip vs))
 |dctT {ks:List (List Key)}{ws:List W}{vs:List V} (hl:ks.length=vs.length) (r:Reps K F ws vs):OwnR K F (.dct (ks.map .inr) ws) (.dT (ks.zip vs))
theorem OwnR.mono (s:Same F F')(h:OwnR K F w o):OwnR K F' w o:=by
 cases h with
 |lst r=>exact .lst (r.mono s)
 |dct a r=>exact .dct a (r.mono s)
 |dctT a r=>exact .dctT a (r.mono s)
theorem OwnR.rep (h:OwnR K F w o)(e:F a=Za o):Rep K F w (.ref a):=by
 cases h with
 |lst r=>exact .lst e r
 |dct b r=>exact .dct e b r
 |dctT b r=>exact .dctT e b r
theorem OwnR.list (h:OwnR K F (.lst ws) o):∃vs,o=.lst vs/\Reps K F ws vs:=by
 cases h with
 |lst r=>exact⟨_,rfl,r⟩
noncomputable def lams:List Str:=["_law_terms","_law_in_order","_law_poly_of","voted_terms","law"]
noncomputable def lamQ (x:Str):Str:=x++".<locals>."++"<lambda>"
noncomputable def zc8 (c:Zh) (q:Str) (h:Heap):Prop:=∃o v t,h.get? c=Za o/\o.data=.fields v/\v[1]?=Za (.str q t)
noncomputable def z40 (K:Zg):Prop:=∀x∈lams,∀a∈lams,∀c b P,PySem.W.tabIn K x=Za (c,P)->PySem.W.tabIn K a=Za (b,P)->x=a
noncomputable def NoT (p:Prt):Prop:=∀b x,¬ p b (.tup x)
noncomputable def zr5 (K:Zg) (F:Hp) (b:Prt) (H:Hp):Prop:=(z40 K/\NoT b)/\∀x∈lams,∀c P,PySem.W.tabIn K x=Za (c,P)->∃p:Array Ze,H P=Za (.tbl p)/\F P=Zb/\(∀o,¬ b P o)/\TriplesOk p.toList /\
 ∀pos d,codeAmong pos p.toList=Za d->∃a,d=.ref a/\F a=Za (.ext (zc8 a (lamQ x)))
theorem zr5.go (T:zr5 K F pr H)(i:∀b xs,pr' b (.tup xs)->pr b (.tup xs))(h:∀b p,H b=Za (.tbl p)->F b=Zb->H' b=Za (.tbl p)/\F' b=Zb)(l:Same F F')(g:∀b p,H b=Za (.tbl p)->(∀o,¬ pr b o)->∀o,¬ pr' b o):zr5 K F' pr' H':=⟨⟨T.1.1,λb xs z=>T.1.2 b xs (i b xs z)⟩,λx k c P e=>by
 nofun;obtain⟨p,a,d,f,n,t⟩:=T.2 x k c P e;refine qG ?_;refine⟨p,(h P p a d).1,(h P p a d).2,g P p a f,n,λpos r q=>?_⟩;obtain⟨s,m,j⟩:=t pos r q;exact⟨s,m,l _ _ j⟩⟩
structure Rel (K:Zg) (F:Hp) (pr:Prt) (en:En) (σ:St) (H:Hp):Prop where
 len:en.length=σ.length
 sub:Same F H
 val:∀(i:Nat) (w:W),en[i]?=Za (#v[w,6])->∃v,σ[i]?=Za (Za v)/\Rep K F w v
 own:∀(i:Nat) (w:W),en[i]?=Za (#v[w,5])->∃(a:Zh) (o:HO) (w':W),w=w'/\σ[i]?=Za (Za (V.ref a))/\H a=Za o/\F a=Zb/\OwnR K F w' o
 inj:∀(i j:Nat) (a:Zh) (w w':W),en[i]?=Za (#v[w,5])->en[j]?=Za (#v[w',5])->σ[i]?=Za (Za (V.ref a))->σ[j]?=Za (Za (V.ref a))->i=j
 prt:∀b o,pr b o->H b=Za o/\F b=Zb/\∀(i:Nat) (w:W),en[i]?=Za (#v[w,5])->σ[i]?≠Za (Za (V.ref b))
 tb:zr5 K F pr H
noncomputable def Res (K:Zg) (F H:Hp) (p:Prt) (en:En) (σ:St):W×Bool->V->Prop
 |(w,Zc),v=>Rep K F w v
 |(w,Zd),v=>∃(a:Zh) (o:HO) (c:W),w=c/\v=V.ref a/\H a=Za o/\F a=Zb/\OwnR K F c o/\(∀(i:Nat) (c:W),en[i]?=Za (#v[c,5])->σ[i]?≠Za (Za (V.ref a)))/\∀b o,p b o->b≠a
noncomputable def RepB (K:Zg) (F H:Hp) (w:W) (v:V):Prop:=Rep K F w v\/∃(a:Zh) (o:HO) (b:W),w=b/\v=V.ref a/\H a=Za o/\OwnR K F b o
inductive Out (K:Zg) (F H:Hp):W×Bool->V->Hp->Prop where
 |val {w:W}{v:V} (r:Rep K F w v):Out K F H (w,Zc) v H
 |lst {p:Zh}{ws:List W}{vs:List V} (n:H p=Zb) (r:Reps K F ws vs):Out K F H (.lst ws,Zd) (.ref p) (upd H p (.lst vs))
 |tup {p:Zh}{ws:List W}{vs:List V} (n:H p=Zb) (r:Reps K F ws vs):Out K F H (.tup ws,Zc) (.ref p) (upd H p (.tup vs))
theorem Same.upd_both (s:Same F H)(p:Zh)(o:HO):Same (upd F p o) (upd H p o):=λb u e=>by
 by_cases h:b=p
 ·subst h;rw[upd_same] at e ⊢;exact e
 ·rw[upd_ne h] at e ⊢;exact s _ _ e
theorem Rel.lay (R:Rel K F pr en σ H)(j:H p=Zb)(o:HO):Rel K F pr en σ (upd H p o):=by
 have n:∀a u,H a=Za u->a≠p:=λa u e=>zac e j;refine⟨R.len,R.sub.trans (Same.new j o),R.val,λi w e=>?_,R.inj,λq m s=>?_,R.tb.go (λ_ _ z=>z) (λb r e f=>⟨by rw[upd_ne (n b _ e)];exact e,f⟩) (.refl F) λb r e h=>h⟩
 ·refine aG λG qG => ?_;obtain⟨a,v,k,d,g,c,l,t⟩:=R.own i w e;refine qG ?_;exact⟨a,v,k,d,g,by rw[upd_ne (n a _ c)];exact c,l,t⟩
 ·obtain⟨d,g,c⟩:=R.prt q m s;exact⟨by rw[upd_ne (n _ _ d)];exact d,g,c⟩
theorem Rel.layF (R:Rel K F pr en σ H)(j:H p=Zb)(o:HO):Rel K (upd F p o) pr en σ (upd H p o):=by
 have n:∀a u,H a=Za u->a≠p:=λa u e=>zac e j;have fp:=R.sub.free j;have s:=Same.new fp o;refine⟨R.len,R.sub.upd_both p o,λi w e=>?_,λi w e=>?_,R.inj,λq m t=>?_,R.tb.go (λ_ _ z=>z) (λb r e f=>⟨by rw[upd_ne (n b _ e)];exact e,by rw[upd_ne (n b _ e)];exact f⟩) s λb r e h=>h⟩
 ·obtain⟨v,c,g⟩:=R.val i w e;exact⟨v,c,g.mono s⟩
 ·refine aG λG qG => ?_;obtain⟨a,x,k,c,g,d,l,y⟩:=R.own i w e;refine qG ?_;exact⟨a,x,k,c,g,by rw[upd_ne (n a _ d)];exact d,by rw[upd_ne (n a _ d)];exact l,y.mono s⟩
 ·obtain⟨c,g,d⟩:=R.prt q m t;exact⟨by rw[upd_ne (n _ _ c)];exact c,by rw[upd_ne (n _ _ c)];exact g,d⟩
theorem Out.close {r:W×Bool}{v:V} (R:Rel K F pr en σ H) (o:Out K F H r v H'):∃c,Same F c/\Rel K c pr en σ H'/\Res K c H' pr en σ r v:=by
 cases o with
 |val r=>exact⟨F,.refl F,R,r⟩
 | @lst p w b n r =>
  refine⟨F,.refl F,R.lay n _,p,_,_,rfl,rfl,upd_same,R.sub.free n,.lst r,λi j e z=>?_,λq d g z=>?_⟩
  ·obtain ⟨a,b,w,m,f,h,k,l⟩:=R.own i j e
   rw[f] at z;cases z;rw[n] at h;exact noSome h
  ·have:=(R.prt q d g).1
   rw[z,n] at this;exact noSome this
 |@tup p w b n r=>exact⟨upd F p (.tup b),Same.new (R.sub.free n) _,R.layF n _,.tup upd_same (r.mono (Same.new (R.sub.free n) _))⟩
theorem Out.mono (s:Same F F')(o:Out K F H r v H'):Out K F' H r v H':=by
 cases o with
 |val r=>exact .val (r.mono s)
 |lst n r=>exact .lst n (r.mono s)
 |tup n r=>exact .tup n (r.mono s)
theorem Res.freeze (R:Rel K F pr en σ H) (h:Res K F H pr en σ r v):∃j,Same F j/\Rel K j pr en σ H/\Rep K j r.1 v:=by
 obtain⟨w,b⟩:=r;cases b with
 |false=>exact⟨F,.refl F,R,h⟩
 | true =>
  nofun;obtain⟨a,g,L,rfl,rfl,o,C,t,E,I⟩:=h;refine qG ?_;have s:Same F (upd F a g):=Same.new C _;have D:∀p,g≠.tbl p:=λp z=>by cases t<;>cases z
  refine⟨upd F a g,s,⟨R.len,λb u e=>?_,λi w e=>?_,λi w e=>?_,R.inj,λq y x=>?_,R.tb.go (λ_ _ z=>z) (λb p e f=>⟨e,by rw[upd_ne (λz=>by subst z;rw[o] at e;exact D p (sI e))];exact f⟩) s λb p e h=>h⟩,(t.mono s).rep upd_same⟩
  ·by_cases n:b=a
   ·subst n;rw[upd_same] at e;obtain rfl:=sI e;exact o
   ·rw[upd_ne n] at e;exact R.sub _ _ e
  ·obtain ⟨v,d,c⟩:=R.val i w e
   exact⟨v,d,c.mono s⟩
  ·refine aG λM qG => ?_
   obtain⟨A,k,m,d,c,l,B,J⟩:=R.own i w e;refine qG ?_;have G:A≠a:=λz=>by subst z;exact E i w e c
   exact⟨A,k,m,d,c,l,by rw[upd_ne G];exact B,J.mono s⟩
  ·obtain ⟨d,c,l⟩:=R.prt q y x
   exact⟨d,by rw[upd_ne (I q y x)];exact c,l⟩
theorem Rel.freeze (R:Rel K F pr en σ H) {i:Nat}{w:W}{v:V}{fl:Bool} (e:en[i]?=Za (Za (w,fl))) (m:σ[i]?=Za (Za v)):∃y,Same F y/\Rel K y pr (en.set i (Za (w,Zc))) σ H/\Rep K y w v:=by
 have S:=(Ah.mp e).1;cases fl with
 | false =>
  obtain⟨L,I,o⟩:=R.val i w e;rw[m] at I;cases I;refine⟨F,.refl F,?_,o⟩;rw[z0n e];exact R
 | true =>
  nofun;obtain⟨a,x,ws,e0,o,J,O,C⟩:=R.own i w e;refine qG ?_;subst e0;rw[m] at o;cases o;have s:Same F (upd F a x):=Same.new O _;have N:∀p,x≠.tbl p:=λp z=>by cases C<;>cases z
  have g:∀j c b,(en.set i (Za (w,Zc)))[j]?=Za (Za (c,b))->(j=i/\c=w/\b=Zc)\/(j≠i/\en[j]?=Za (Za (c,b))):=λj c b h=>by
   rcases zce S h with⟨z,q⟩|z
   ·cases q;exact .inl ⟨z,rfl,rfl⟩
   ·exact .inr z
  refine⟨upd F a x,s,⟨by rw[Ee];exact R.len,λb u d=>?_,λj c d=>?_,λj c d=>?_,λj k b Q U T P=>?_,λq Z X=>?_,R.tb.go (λ_ _ z=>z) (λb p e f=>⟨e,by rw[upd_ne (λz=>by subst z;rw[J] at e;exact N p (sI e))];exact f⟩) s λb p e h=>h⟩,(C.mono s).rep upd_same⟩
  ·by_cases G:b=a
   ·subst G;rw[upd_same] at d;obtain rfl:=sI d;exact J
   ·rw[upd_ne G] at d;exact R.sub _ _ d
  ·rcases g j c Zc d with ⟨rfl,rfl,_⟩ | ⟨_,z⟩
   ·exact⟨_,m,(C.mono s).rep upd_same⟩
   ·obtain ⟨L, n,l⟩:=R.val j c z
    exact⟨L,n,l.mono s⟩
  ·rcases g j c Zd d with ⟨_,_,z⟩ | ⟨B,z⟩
   ·cases z
   ·refine aG λGg qG => ?_
    obtain⟨D,A,E,n,l,r,M,q5⟩:=R.own j c z;refine qG ?_;have t:D≠a:=λq=>by subst q;exact B (R.inj j i D _ _ z e l m)
    exact⟨D,A,E,n,l,r,by rw[upd_ne t];exact M,q5.mono s⟩
  ·rcases g j Q Zd T with ⟨_,_,z⟩ | ⟨_,Y⟩
   ·cases z
   ·rcases g k U Zd P with ⟨_,_,z⟩ | ⟨_,z2⟩
    ·cases z
    ·exact R.inj j k b _ _ Y z2
  ·obtain ⟨n,l,r⟩:=R.prt q Z X
   have B:q≠a:=λz=>by
    have:=r i _ e;rw[m,z] at this;exact this rfl
   refine⟨n,by rw[upd_ne B];exact l,λj c d=>?_⟩;rcases g j c Zd d with⟨_,_,z⟩|⟨_,z⟩
   ·cases z
   ·exact r j c z
theorem Rel.repB (R:Rel K F pr en σ H) {i:Nat}{w:W}{fl:Bool}{v:V} (e:en[i]?=Za (Za (w,fl))) (c:σ[i]?=Za (Za v)):RepB K F H w v:=by
 cases fl with
 | false =>
  obtain⟨k,b,h⟩:=R.val i w e;rw[c] at b;cases b;exact .inl h
 | true =>
  nofun;obtain⟨a,o,f,b,h,d,j,g⟩:=R.own i w e;refine qG ?_;rw[c] at h;cases h;exact .inr ⟨a,o,f,b,rfl,d,g⟩
theorem Rel.has (R:Rel K F pr en σ H){i:Nat}{w:W}{fl:Bool}(e:en[i]?=Za (Za (w,fl))):∃v,σ[i]?=Za (Za v):=by
 cases fl with
 |false=>obtain⟨v,h,_⟩:=R.val i w e;exact⟨v,h⟩
 |true=>obtain⟨a,_,_,_,h,_⟩:=R.own i w e;exact⟨_,h⟩
theorem Rel.store (R:Rel K F pr en σ H)(h:Res K F H pr en σ r v)(G:i<en.length):Rel K F pr (en.set i (Za r)) (σ.set i (Za v)) H:=by
 have C:i<σ.length:=by rw[<-R.len];exact G
 have g:∀j x,(en.set i (Za r))[j]?=Za (Za x)->(j=i/\x=r)\/(j≠i/\en[j]?=Za (Za x)):=λj x h=>by
  rcases zce G h with⟨z,q⟩|z
  ·obtain rfl:=sI q;exact .inl ⟨z,rfl⟩
  ·exact .inr z
 have m:(σ.set i (Za v))[i]?=Za (Za v):=Dx C;have s:∀j,j≠i->(σ.set i (Za v))[j]?=σ[j]?:=λj b=>Dg (Ne.symm b);refine⟨by rw[Ee,Ee];exact R.len,R.sub,λj w e=>?_,λj w e=>?_,λj k a Q S M E=>?_,λq J I=>?_,R.tb⟩
 ·rcases g j _ e with⟨rfl,z⟩|⟨b,z⟩
  ·subst z;exact⟨v,m,h⟩
  ·rw[s j b];exact R.val j w z
 ·rcases g j _ e with⟨rfl,z⟩|⟨b,z⟩
  ·subst z;obtain⟨a,n,u,p,f,t,o,y,_⟩:=h;exact⟨a,n,u,p,by rw[m,f],t,o,y⟩
  ·rw[s j b];exact R.own j w z
 ·intro d c;rcases g j _ M with⟨rfl,A⟩|⟨b,A⟩
  ·rcases g k _ E with⟨rfl,l⟩|⟨D,l⟩
   ·rfl
   ·subst A;obtain⟨L,n,u,p,f,t,o,y,B,_⟩:=h;rw[m,f] at d;cases d;rw[s k D] at c;exact absurd c (B k _ l)
  ·rcases g k _ E with⟨rfl,l⟩|⟨D,l⟩
   ·subst l;obtain⟨L,n,u,p,f,t,o,y,B,_⟩:=h;rw[m,f] at c;cases c;rw[s j b] at d;exact absurd d (B j _ A)
   ·rw[s j b] at d;rw[s k D] at c;exact R.inj j k a _ _ A l d c
 ·obtain⟨d,c,O⟩:=R.prt q J I;refine⟨d,c,λj w e=>?_⟩;rcases g j _ e with⟨rfl,z⟩|⟨b,z⟩
  ·subst z;obtain⟨L,n,u,p,f,t,o,y,B,P⟩:=h;rw[m,f];intro N;cases N;exact P q J I rfl
  ·rw[s j b];exact O j w z
theorem Rel.changeO (R:Rel K F pr en σ H){i:Nat}{w c:W}{a:Zh}{C:HO}(e:en[i]?=Za (#v[w,5]))(s:σ[i]?=Za (Za (.ref a)))(r:OwnR K F c C):Rel K F pr (en.set i (#v[c,5])) σ (upd H a C):=by
 have Q:=(Ah.mp e).1;nofun;obtain⟨a0,O,ws,h1,I,T,J,V⟩:=R.own i w e;refine qG ?_;rw[s] at I;cases I;have N:∀p,O≠.tbl p:=λp z=>by cases V<;>cases z
 have g:∀j x,(en.set i (#v[c,5]))[j]?=Za (Za x)->(j=i/\x=(c,Zd))\/(j≠i/\en[j]?=Za (Za x)):=λj x h=>by
  rcases zce Q h with⟨z,q⟩|z
  ·obtain rfl:=sI q;exact .inl ⟨z,rfl⟩
  ·exact .inr z
 refine⟨by rw[Ee];exact R.len,λb u t=>?_,λj n l=>?_,λj n l=>?_,λj k b w1 w2 S P m d=>?_,λq X U=>?_,R.tb.go (λ_ _ z=>z) (λb p e f=>⟨by rw[upd_ne (λz=>by subst z;rw[T] at e;exact N p (sI e))];exact e,f⟩) (.refl F) λb p e h=>h⟩
 ·have:b≠a:=λz=>by subst z;rw[J] at t;cases t
  rw[upd_ne this];exact R.sub _ _ t
 ·rcases g j _ l with⟨_,z⟩|⟨_,z⟩
  ·cases z
  ·exact R.val j n z
 ·rcases g j _ l with⟨rfl,z⟩|⟨Z,z⟩
  ·cases z;exact⟨a,C,c,rfl,s,upd_same,J,r⟩
  ·refine aG λGg qG => ?_;obtain⟨E,A,y,m,d,o,L,Y⟩:=R.own j n z;refine qG ?_;have B:E≠a:=λM=>by subst M;exact Z (R.inj j i E _ _ z e d s)
   exact⟨E,A,y,m,d,by rw[upd_ne B];exact o,L,Y⟩
 ·have D:∃c,en[j]?=Za (Za (c,Zd)):=by
   rcases g j _ S with⟨rfl,_⟩|⟨_,z⟩
   ·exact⟨_,e⟩
   ·exact⟨_,z⟩
  have G:∃c,en[k]?=Za (#v[c,5]):=by
   rcases g k _ P with⟨rfl,_⟩|⟨_,z⟩
   ·exact⟨_,e⟩
   ·exact⟨_,z⟩
  obtain⟨_,D⟩:=D;obtain⟨_,G⟩:=G;exact R.inj j k b _ _ D G m d
 ·obtain ⟨m,d,o⟩:=R.prt q X U;have B:q≠a:=λz=>by
   have:=o i _ e;rw[s,z] at this;exact this rfl
  refine⟨by rw[upd_ne B];exact m,d,λj n l=>?_⟩;rcases g j _ l with⟨rfl,_⟩|⟨_,z⟩
  ·exact o j _ e
  ·exact o j n z
theorem Rel.change (R:Rel K F pr en σ H)(e:en[i]?=Za (#v[w,5]))(h:σ[i]?=Za (Za (.ref a)))(r:Reps K F ws' vs'):Rel K F pr (en.set i (#v[ws',2])) σ (upd H a (.lst vs')):=R.changeO e h (.lst r)
theorem Rel.ownL (R:Rel K F pr en σ H){i:Nat}{ws:List W}(e:en[i]?=Za (#v[ws,2])):∃(a:Zh) (vs:List V) (ws':List W),W.lst ws=.lst ws'/\σ[i]?=Za (Za (V.ref a))/\H a=Za (.lst vs)/\F a=Zb/\Reps K F ws' vs:=by
 nofun;obtain⟨a,o,w,d,c,h,b,f⟩:=R.own i _ e;refine qG ?_;subst d;obtain⟨vs,rfl,r⟩:=f.list;exact⟨a,vs,ws,rfl,c,h,b,r⟩
end
end L2
namespace L2
open PySem PySem.Spec PyProof.Rows
noncomputable abbrev GE:=En->Option (En×(W×Bool))
noncomputable abbrev GA:=En->Option (En×(W ⊕ Nat))
noncomputable abbrev GT:=En->Option (En×Bool)
noncomputable abbrev GAs:=En->Option (En×List (W ⊕ Nat))
noncomputable abbrev GL:=En->Option (En×List W)
noncomputable def ArgR (K:Zg) (F:Hp) (σ:St):W ⊕ Nat->V->Prop
 |.inl w,v=>Rep K F w v
 |.inr i,v=>σ[i]?=Za (Za v)
inductive ArgRs (K:Zg) (F:Hp) (σ:St):List (W ⊕ Nat)->List V->Prop where
 |nil:ArgRs K F σ [] []
 |cons {x:W ⊕ Nat}{v:V}{xs:List (W ⊕ Nat)}{vs:List V} (h:ArgR K F σ x v) (r:ArgRs K F σ xs vs):ArgRs K F σ (x::xs) (v::vs)
noncomputable def resA (en:En):W ⊕ Nat->Option W
 |.inl w=>Za w
 | .inr i=>match en[i]? with
  |some (Za (w,_))=>Za w
  |_=>Zb
section
variable {K:Zg}
theorem ArgR.mono (s:Same F F')(h:ArgR K F σ x v):ArgR K F' σ x v:=by
 cases x with
 |inl w=>exact Rep.mono s h
 |inr i=>exact h
theorem ArgR.repB (R:Rel K F pr en σ H) (h:ArgR K F σ x v) (e:resA en x=Za w):RepB K F H w v:=by
 cases x with
 |inl u=>obtain rfl:=sI e;exact .inl h
 | inr i =>
  unfold resA at e;cases q:en[i]? with
  |none=>simp only [q] at e;exact noSome e
  | some o =>
   cases o with
   |none=>simp only [q] at e;exact noSome e
   | some p =>
    obtain⟨u,fl⟩:=p;simp only [q] at e;obtain rfl:=sI e;exact R.repB q h
end
noncomputable def tE (K:Zg) (g:GE):TE:=λσ H Q=>∃F p c e r,Rel K F p c σ H/\g c=Za (e,r)/\∀b a v,Same F b->Rel K b p e σ a->Res K b a p e σ r v->Q v a
noncomputable def tA (K:Zg) (g:GA):TE:=λσ H Q=>∃F p c e x,Rel K F p c σ H/\g c=Za (e,x)/\∀a b v,Same F a->Rel K a p e σ b->ArgR K a σ x v->Q v b
noncomputable def tT (K:Zg) (g:GT):TT:=λσ H Q=>∃F p c e b,Rel K F p c σ H/\g c=Za (e,b)/\∀d a,Same F d->Rel K d p e σ a->Q b a
noncomputable def tAs (K:Zg) (g:GAs):TA:=λσ H Q=>∃F p c e x,Rel K F p c σ H/\g c=Za (e,x)/\∀a b v,Same F a->Rel K a p e σ b->ArgRs K a σ x v->Q v b
theorem PE.wk (h:PE X e t)(i:∀σ H Q,t' σ H Q->t σ H Q):PE X e t':=λpins s σ H Q I q=>h pins s σ H Q I (i σ H Q q)
theorem PT.wk (h:PT X e t)(i:∀σ H Q,t' σ H Q->t σ H Q):PT X e t':=λpins s σ H Q I q=>h pins s σ H Q I (i σ H Q q)
theorem PW.wk (h:PW X e t)(i:∀σ H Q,t' σ H Q->t σ H Q):PW X e t':=λw pins s σ H Q I q=>h w pins s σ H Q I (i σ H Q q)
theorem PA.wk (h:PA X es t)(i:∀σ H Q,t' σ H Q->t σ H Q):PA X es t':=λpos pins s σ H Q I q=>h pos pins s σ H Q I (i σ H Q q)
theorem PS.wk {st:Stmt}(h:PS X st t)(i:∀D σ H,t' D σ H->t D σ H):PS X st t':=λpins s σ H D I q=>h pins s σ H D I (i D σ H q)
theorem PSs.wk {st:List Stmt}(h:PSs X st t)(i:∀D σ H,t' D σ H->t D σ H):PSs X st t':=λpins s σ H D I q=>h pins s σ H D I (i D σ H q)
theorem PI.wk (h:PI X tg e t)(i:∀σ H R,t' σ H R->t σ H R):PI X tg e t':=λpins s σ H R I q=>h pins s σ H R I (i σ H R q)
noncomputable def gVar (i:Nat):GE:=λe=>match e[i]? with
 |some (Za (w,_))=>Za (e.set i (#v[w,6]),(w,Zc))
 |_=>Zb
noncomputable def zaa (i:Nat):GA:=λe=>match e[i]? with
 |some (#v[w,5])=>Za (e,.inr i)
 |some (#v[w,6])=>Za (e,.inl w)
 |_=>Zb
noncomputable def gC (w:W):GE:=λe=>Za (e,(w,Zc))
noncomputable def gArg (g:GE):GA:=λe=>(g e).bind λp=>Za (p.1,.inl p.2.1)
noncomputable def gA0:GAs:=λe=>Za (e,[])
noncomputable def gCns (a:GA) (as:GAs):GAs:=λe=>(a e).bind λp=>(as p.1).bind λq=>Za (q.1,p.2::q.2)
noncomputable def gOp1 (o:W->Option (W×Bool)) (a:GA):GE:=λe=>(a e).bind λp=>(resA p.1 p.2).bind λw=>(o w).bind λr=>Za (p.1,r)
noncomputable def gOp2 (o:W->W->Option (W×Bool)) (a b:GA):GE:=λe=>(a e).bind λp=>(b p.1).bind λq=>(resA q.1 p.2).bind λw=>(resA q.1 q.2).bind λu=>(o w u).bind λr=>Za (q.1,r)
noncomputable def za4 (en:En):List (W ⊕ Nat)->Option (List W)
 |[]=>Za []
 |x::a=>(resA en x).bind λw=>(za4 en a).bind λb=>Za (w::b)
noncomputable def gOpN (o:List W->Option (W×Bool)) (as:GAs):GE:=λe=>(as e).bind λp=>(za4 p.1 p.2).bind λw=>(o w).bind λr=>Za (p.1,r)
noncomputable def zah (g:GE):GT:=λa=>match g a with
 |some (e,(.bl b,_))=>Za (e,b)
 |_=>Zb
noncomputable def gAnd (a b:GE):GE:=λc=>match a c with
 |some (e,(.bl Zd,_))=>b e
 |some (e,(.bl Zc,_))=>Za (e,#v[1,8])
 |_=>Zb
noncomputable def gOr (a b:GE):GE:=λc=>match a c with
 |some (e,(.bl Zd,_))=>Za (e,#v[8,10])
 |some (e,(.bl Zc,_))=>b e
 |_=>Zb
noncomputable def gNot (a:GE):GE:=λc=>match a c with
 |some (e,(.bl b,_))=>Za (e,(.bl (!b),Zc))
 |_=>Zb
noncomputable def zdy (a b:GT):GT:=λc=>match a c with
 |#v[e,5]=>b e
 |#v[e,6]=>#v[e,6]
 |none=>Zb
noncomputable def gOrT (a b:GT):GT:=λc=>match a c with
 |#v[e,5]=>#v[e,5]
 |#v[e,6]=>b e
 |none=>Zb
noncomputable def zhg (a:GT):GT:=λc=>match a c with
 |some (e,b)=>Za (e,!b)
 |none=>Zb
noncomputable def gIf (c:GT) (a b:GE):GE:=λd=>match c d with
 |#v[e,5]=>a e
 |#v[e,6]=>b e
 |none=>Zb
section
variable {K:Zg}
theorem zzn (h:tE K (gVar i) σ H Q):tVar i σ H Q:=by
 obtain⟨F,g,d,c,r,R,h,q⟩:=h;unfold gVar at h;cases e:d[i]? with
 |none=>simp only [e] at h;exact noSome h
 | some o =>
  cases o with
  |none=>simp only [e] at h;exact noSome h
  | some p =>
   obtain⟨w,fl⟩:=p;simp only [e] at h;cases h;obtain⟨v,a⟩:=R.has e;obtain⟨f,s,b,z⟩:=R.freeze e a;exact⟨v,a,q f H v s b z⟩
theorem zul (h:tA K (zaa i) σ H Q):tVar i σ H Q:=by
 obtain⟨F,d,b,c,r,R,h,q⟩:=h;unfold zaa at h;cases e:b[i]? with
 |none=>simp only [e] at h;exact noSome h
 | some o =>
  cases o with
  |none=>simp only [e] at h;exact noSome h
  | some p =>
   obtain⟨w,fl⟩:=p;cases fl with
   | true =>
    simp only [e] at h;cases h;obtain⟨v,a⟩:=R.has e;exact⟨v,a,q F H v (.refl F) R a⟩
   | false =>
    simp only [e] at h;cases h;obtain⟨v,a,z⟩:=R.val i w e;exact⟨v,a,q F H v (.refl F) R z⟩
theorem zdt (a:∀F,Rep K F w v)(h:tE K (gC w) σ H Q):tC v σ H Q:=by
 obtain⟨F,p,b,e,r,R,h,q⟩:=h;cases h;exact q F H v (.refl F) R (a F)
theorem zf3 (h:tA K (gArg g) σ H Q):tE K g σ H Q:=by
 obtain⟨F,p,j,b,x,R,h,q⟩:=h;obtain⟨⟨e,r⟩,a,h⟩:=bS h;cases h;refine⟨F,p,j,e,r,R,a,λk d v f c z=>?_⟩;obtain⟨i,s,R2,y⟩:=z.freeze c;exact q i d v (f.trans s) R2 y
theorem zoy (h:tAs K gA0 σ H Q):tNil σ H Q:=by
 obtain⟨F,p,a,e,x,R,h,q⟩:=h;cases h;exact q F H [] (.refl F) R .nil
theorem zpk (h:tAs K (gCns a as) σ H Q):tA K a σ H λx c=>tAs K as σ c λxs b=>Q (x::xs) b:=by
 nofun;obtain⟨F,p,i,t,x,R,h,q⟩:=h;obtain⟨⟨e,y⟩,n,h⟩:=bS h;obtain⟨⟨l,k⟩,f,h⟩:=bS h;ac_rfl;cases h;exact⟨F,p,i,e,y,R,n,λu c v r m d=>⟨u,p,e,l,k,m,f,λo b g s R2 j=>q o b (v::g) (r.trans s) R2 (.cons (d.mono s) j)⟩⟩
noncomputable def OpS (K:Zg) (r:R2) (o:W->W->Option (W×Bool)):Prop:=∀F H w c d b e Q,Same F H->RepB K F H w d->RepB K F H c b->o w c=Za e->(∀v a,Out K F H e v a->Q v a)->r d b H Q
theorem zcz (g:OpS K r o)(h:tE K (gOp2 o a b) σ H Q):tOp r (tA K a) (tA K b) σ H Q:=by
 nofun;obtain⟨F,p,m,J,P,R,h,q⟩:=h;obtain⟨⟨e,x⟩,D,h⟩:=bS h;obtain⟨⟨u,I⟩,i,h⟩:=bS h;obtain⟨w,c,h⟩:=bS h;obtain⟨A,d,h⟩:=bS h;obtain⟨T,k,h⟩:=bS h;ac_rfl;cases h;refine⟨F,p,m,e,x,R,D,λL S l G C f=>⟨L,p,e,u,I,C,i,λE n N s R2 t=>?_⟩⟩;refine g E n w A l N P Q R2.sub ((f.mono s).repB R2 c) (t.repB R2 d) k λv M z=>?_;nofun;obtain⟨B,O,j,y⟩:=z.close R2;ac_rfl;exact q B M v (G.trans (s.trans O)) j y
noncomputable def OpS1 (K:Zg) (r:V->Hp->VK->Prop) (o:W->Option (W×Bool)):Prop:=∀F H w v b Q,Same F H->RepB K F H w v->o w=Za b->(∀u a,Out K F H b u a->Q u a)->r v H Q
theorem zyg (e:OpS1 K r o)(h:tE K (gOp1 o a) σ H Q):tUn r (tA K a) σ H Q:=by
 nofun;obtain⟨F,p,j,t,C,R,h,q⟩:=h;obtain⟨⟨k,x⟩,n,h⟩:=bS h;obtain⟨w,b,h⟩:=bS h;obtain⟨D,g,h⟩:=bS h;ac_rfl;cases h;refine⟨F,p,j,k,x,R,n,λu m i s c d=>?_⟩;refine e u m w i C Q c.sub (d.repB c b) g λv A z=>?_;nofun;obtain⟨l,B,f,y⟩:=z.close c;ac_rfl;exact q l A v (s.trans B) f y
inductive RepBs (K:Zg) (F H:Hp):List W->List V->Prop where
 |nil:RepBs K F H [] []
 |cons {w:W}{v:V}{ws:List W}{vs:List V} (h:RepB K F H w v) (r:RepBs K F H ws vs):RepBs K F H (w::ws) (v::vs)
theorem ArgRs.repBs (R:Rel K F pr en σ H):∀{xs:List (W ⊕ Nat)}{vs:List V}{ws:List W},ArgRs K F σ xs vs->za4 en xs=Za ws->RepBs K F H ws vs
 |_,_,_,.nil,e=>by obtain rfl:=sI e;exact .nil
 | _,_,_,.cons h r,e=>by
  obtain⟨w,b,e⟩:=bS e;obtain⟨ws,a,e⟩:=bS e;obtain rfl:=sI e;exact .cons (h.repB R b) (ArgRs.repBs R r a)
noncomputable def OpSN (K:Zg) (r:List V->Hp->VK->Prop) (o:List W->Option (W×Bool)):Prop:=∀F H w v b Q,Same F H->RepBs K F H w v->o w=Za b->(∀u a,Out K F H b u a->Q u a)->r v H Q
theorem z1i (d:OpSN K r o)(h:tE K (gOpN o as) σ H Q):tCB r (tAs K as) σ H Q:=by
 nofun;obtain⟨F,p,i,n,B,R,h,q⟩:=h;obtain⟨⟨j,x⟩,m,h⟩:=bS h;obtain⟨w,a,h⟩:=bS h;obtain⟨C,f,h⟩:=bS h;ac_rfl;cases h;refine⟨F,p,i,j,x,R,m,λt l g s b c=>?_⟩;refine d t l w g B Q b.sub (c.repBs b a) f λv u z=>?_;nofun;obtain⟨k,A,e,y⟩:=z.close b;ac_rfl;exact q k u v (s.trans A) e y
theorem Res.isBl (h:Res K F H pr en σ (.bl b,fl) v):v=.bl b:=by
 cases fl with
 |false=>cases (show Rep K F (.bl b) v from h);rfl
 |true=>obtain⟨_,_,_,e,_,_,_,q,_⟩:=h;subst e;cases q
theorem zde (k:∀σ H Q,tE K g σ H Q->t σ H Q) (h:tT K (zah g) σ H Q):z7y t σ H Q:=by
 obtain⟨F,d,a,j,b,R,h,q⟩:=h;unfold zah at h;refine k σ H _ ?_;cases e:g a with
 |none=>simp only [e] at h;exact noSome h
 | some p =>
  obtain⟨m,w,fl⟩:=p;cases w with
  |bl c=>simp only [e] at h;cases h;exact⟨F,d,a,_,_,R,e,λl f v s i z=>⟨b,z.isBl,q l f s i⟩⟩
  |_=>simp only [e] at h;exact noSome h
theorem z0t (h:tE K (gAnd a b) σ H Q):z8n (tE K a) (tE K b) σ H Q:=by
 nofun;obtain⟨F,f,j,d,r,R,h,q⟩:=h;ac_rfl;unfold gAnd at h;cases e:a j with
 |none=>simp only [e] at h;exact noSome h
 | some p =>
  obtain⟨m,w,fl⟩:=p;cases w with
  | bl c =>
   refine⟨F,f,j,_,_,R,e,λg n v s i z=>⟨c,z.isBl,?_⟩⟩;cases c with
   | true =>
    simp only [e] at h;exact iteT ⟨g,f,m,d,r,i,h,λo t v k R2 l=>q o t v (s.trans k) R2 l⟩
   | false =>
    simp only [e] at h;cases h;exact iteF (q g n _ s i (.bl Zc))
  |_=>simp only [e] at h;exact noSome h
theorem zsr (h:tT K (zdy a b) σ H Q):tAnd (tT K a) (tT K b) σ H Q:=by
 nofun;obtain⟨F,f,j,d,r,R,h,q⟩:=h;ac_rfl;unfold zdy at h;cases e:a j with
 |none=>simp only [e] at h;exact noSome h
 | some p =>
  obtain⟨l,c⟩:=p;refine⟨F,f,j,_,_,R,e,λg m s i=>?_⟩;cases c with
  |true=>simp only [e] at h;exact iteT ⟨g,f,l,d,r,i,h,λn o k R2=>q n o (s.trans k) R2⟩
  |false=>simp only [e] at h;cases h;exact iteF (q g m s i)
theorem zzy (h:tT K (gOrT a b) σ H Q):tOr (tT K a) (tT K b) σ H Q:=by
 nofun;obtain⟨F,f,j,d,r,R,h,q⟩:=h;ac_rfl;unfold gOrT at h;cases e:a j with
 |none=>simp only [e] at h;exact noSome h
 | some p =>
  obtain⟨l,c⟩:=p;refine⟨F,f,j,_,_,R,e,λg m s i=>?_⟩;cases c with
  |false=>simp only [e] at h;exact iteF ⟨g,f,l,d,r,i,h,λn o k R2=>q n o (s.trans k) R2⟩
  |true=>simp only [e] at h;cases h;exact iteT (q g m s i)
theorem zsb (h:tT K (zhg a) σ H Q):tNot (tT K a) σ H Q:=by
 obtain⟨F,f,b,g,r,R,h,q⟩:=h;unfold zhg at h;cases e:a b with
 |none=>simp only [e] at h;exact noSome h
 | some p =>
  obtain⟨k,c⟩:=p;simp only [e] at h;cases h;exact⟨F,f,b,_,_,R,e,λd j s i=>q d j s i⟩
end
noncomputable def zao:List (W ⊕ Nat)->Option (List W)
 |[]=>Za []
 |.inl w::x=>(zao x).bind λa=>Za (w::a)
 |.inr _::_=>Zb
theorem ArgRs.reps {K:Zg}:∀{xs:List (W ⊕ Nat)}{vs:List V}{ws:List W},ArgRs K F σ xs vs->zao xs=Za ws->Reps K F ws vs
 |_,_,_,.nil,e=>by obtain rfl:=sI e;exact .nil
 | .inl w::xs,_,_,.cons h r,e=>by
  obtain⟨ws,a,e⟩:=bS (show (zao xs).bind _=_ from e);obtain rfl:=sI e;exact .cons h (ArgRs.reps r a)
 |.inr i::xs,_,_,.cons h r,e=>by exact noSome e
noncomputable def zb1 (as:GAs):GE:=λe=>(as e).bind λp=>(zao p.2).bind λw=>if w.length<=sizeLine then Za (p.1,(.tup w,Zc)) else Zb
noncomputable def zap (as:GAs):GE:=λe=>(as e).bind λp=>(zao p.2).bind λw=>if w.length<=sizeLine then Za (p.1,(.lst w,Zd)) else Zb
section
variable {K:Zg}
theorem z0i (h:tE K (zb1 as) σ H Q):tTup (tAs K as) σ H Q:=by
 obtain⟨F,c,e,m,r,R,h,q⟩:=h;obtain⟨⟨g,x⟩,j,h⟩:=bS h;obtain⟨w,d,h⟩:=bS h;split at h
 ·rename_i n;cases h;refine⟨F,c,e,g,x,R,j,λt o v k i b=>?_⟩;have a:=b.reps d;refine⟨by rw[<-a.length];exact n,λp f=>?_⟩;obtain⟨l,s,R2,z⟩:=(Out.tup (K:=K) f a).close i;exact q l _ _ (k.trans s) R2 z
 ·exact noSome h
theorem z1d (h:tE K (zap as) σ H Q):tLst (tAs K as) σ H Q:=by
 nofun;obtain⟨F,c,e,m,r,R,h,q⟩:=h;obtain⟨⟨g,x⟩,j,h⟩:=bS h;obtain⟨w,d,h⟩:=bS h;ac_rfl;split at h
 ·rename_i n;cases h;refine⟨F,c,e,g,x,R,j,λt o v k i b=>?_⟩;have a:=b.reps d;refine⟨by rw[<-a.length];exact n,λp f=>?_⟩;nofun;obtain⟨l,s,R2,z⟩:=(Out.lst (K:=K) f a).close i;ac_rfl;exact q l _ _ (k.trans s) R2 z
 ·exact noSome h
noncomputable def z73 (o f:W->W->Option (W×Bool)) (a b c:GA):GE:=λe=>(a e).bind λp=>(b p.1).bind λq=>(resA q.1 p.2).bind λw=>(resA q.1 q.2).bind λu=>match o w u with
 |some #v[8,10]=>(c q.1).bind λt=>(resA t.1 q.2).bind λd=>(resA t.1 t.2).bind λz=>(f d z).bind λr=>Za (t.1,r)
 |some #v[1,8]=>Za (q.1,#v[1,8])
 |_=>Zb
end
section
variable {K:Zg}
theorem RepB.int (h:RepB K F H (.int i) v):v=.int i:=by
 rcases h with h|⟨_,_,_,e,_,_,q⟩
 ·cases h;rfl
 ·subst e;cases q
theorem RepB.bl (h:RepB K F H (.bl b) v):v=.bl b:=by
 rcases h with h|⟨_,_,_,e,_,_,q⟩
 ·cases h;rfl
 ·subst e;cases q
theorem RepB.str (h:RepB K F H (.str x) v):v=.str x:=by
 rcases h with h|⟨_,_,_,e,_,_,q⟩
 ·cases h;rfl
 ·subst e;cases q
theorem RepB.non (h:RepB K F H .non v):v=.non:=by
 rcases h with h|⟨_,_,_,e,_,_,q⟩
 ·cases h;rfl
 ·subst e;cases q
theorem RepB.lst {ws:List W}(s:Same F H)(h:RepB K F H (.lst ws) v):∃a vs,v=.ref a/\H a=Za (.lst vs)/\Reps K F ws vs:=by
 rcases h with h|⟨a,o,w,e,c,h,r⟩
 ·cases h with
  |lst h r=>exact⟨_,_,rfl,s _ _ h,r⟩
 ·subst e;obtain⟨vs,rfl,b⟩:=r.list;exact⟨a,vs,c,h,b⟩
theorem RepB.tup {ws:List W}(s:Same F H)(h:RepB K F H (.tup ws) v):∃a vs,v=.ref a/\H a=Za (.tup vs)/\F a=Za (.tup vs)/\Reps K F ws vs:=by
 rcases h with h|⟨_,_,_,e,_,_,q⟩
 ·cases h with
  |tup h r=>exact⟨_,_,rfl,s _ _ h,h,r⟩
 ·subst e;cases q
theorem RepB.frl (s:Same F H)(h:RepB K F H (.frl ws) v):∃a vs,v=.ref a/\SqL K H a vs/\Reps K F ws vs:=by
 rcases h with h|⟨_,_,_,e,_,_,q⟩
 ·cases h with
  |frl h r=>exact⟨_,_,rfl,s.seq h,r⟩
 ·subst e;cases q
noncomputable def seqL:W->Option (List W)
 |.lst w=>Za w
 |.frl w=>Za w
 |_=>Zb
noncomputable def seqW:W->Option (List W)
 |.lst w=>Za w
 |.frl w=>Za w
 |.tup w=>Za w
 |_=>Zb
theorem RepB.seqL (s:Same F H)(h:RepB K F H w v)(e:L2.seqL w=Za ws):∃a vs,v=.ref a/\SqL K H a vs/\Reps K F ws vs:=by
 cases w with
 |lst x=>obtain rfl:=sI e;obtain⟨a,vs,e,h,r⟩:=h.lst s;exact⟨a,vs,e,SqL.of' h,r⟩
 |frl x=>obtain rfl:=sI e;exact h.frl s
 |_=>exact noSome e
theorem RepB.seqW (s:Same F H)(h:RepB K F H w v)(e:L2.seqW w=Za ws):∃a vs,v=.ref a/\(SqL K H a vs\/SqT K H a vs)/\Reps K F ws vs:=by
 cases w with
 |lst x=>obtain rfl:=sI e;obtain⟨a,vs,e,h,r⟩:=h.lst s;exact⟨a,vs,e,.inl (SqL.of' h),r⟩
 |frl x=>obtain rfl:=sI e;obtain⟨a,vs,e,h,r⟩:=h.frl s;exact⟨a,vs,e,.inl h,r⟩
 |tup x=>obtain rfl:=sI e;obtain⟨a,vs,e,h,_,r⟩:=h.tup s;exact⟨a,vs,e,.inr (.inl (.inl h)),r⟩
 |_=>exact noSome e
end
noncomputable abbrev O2:=W->W->Option (W×Bool)
noncomputable def oI (c:Int->Int->Bool) (g:Int->Int->W):O2
 |.int i,.int j=>if c i j then #v[g i j,6] else Zb
 |_,_=>Zb
section
variable {K:Zg}
theorem zkj (a:∀i j,c i j=Zd->C i j) (h:∀F i j,Rep K F (g i j) (g' i j)):OpS K (rI C g') (oI c g):=λF H w b f v k Q s r d e q=>by
 cases w with
 | int i =>
  cases b with
  | int j =>
   unfold oI at e;simp only at e;split at e
   ·rename_i z
    obtain rfl:=sI e;exact⟨i,j,r.int,d.int,a i j z,q _ _ (.val (h F i j))⟩
   ·exact noSome e
  |_=>exact noSome e
 |_=>exact noSome e
theorem zby (h:∀F i j,Rep K F (g i j) (g' i j)):OpS K (rI0 g') (oI (λ_ _=>Zd) g):=λF H w a c v d Q s r b e q=>by
 cases w with
 | int i =>
  cases a with
  |int j=>obtain rfl:=sI e;exact⟨i,j,r.int,b.int,q _ _ (.val (h F i j))⟩
  |_=>exact noSome e
 |_=>exact noSome e
theorem OpS.or (h:OpS K r o)(h':OpS K r' o'):OpS K (λx y H Q=>r x y H Q\/r' x y H Q) (λa b=>match o a b with|some p=>Za p|none=>o' a b):=λF H w c g v i Q s d f e q=>by
 cases z:o w c with
 |some p=>simp only [z] at e;obtain rfl:=sI e;exact .inl (h F H w c g v _ Q s d f z q)
 |none=>simp only [z] at e;exact .inr (h' F H w c g v _ Q s d f e q)
end
noncomputable def oOr (o c:O2):O2:=λa b=>match o a b with|some p=>Za p|none=>c a b
noncomputable def oCat:O2
 |.lst x,.lst y=>if x.length+y.length<=sizeLine then #v[(x++y),2] else Zb
 |_,_=>Zb
noncomputable def zxw:O2
 |.tup (x::a),.tup y=>if (x::a).length+y.length<=sizeLine then #v[(x::a++y),3] else Zb
 |_,_=>Zb
noncomputable def z5t:O2
 |.tup [],.tup y=>#v[y,3]
 |_,_=>Zb
noncomputable def z1p:O2
 |.str x,.str y=>if x.length+y.length<=sizeLine then Za (.str (x++y),Zc) else Zb
 |_,_=>Zb
noncomputable def oRep:O2
 |.lst x,.int k=>if -(2^63)<=k/\k<2^63/\x.length*k.toNat<=sizeLine then #v[(List.replicate k.toNat x).flatten,2] else Zb
 |_,_=>Zb
section
variable {K:Zg}
theorem z61:OpS K rCat oCat:=λF H w i n m o Q s r k e q=>by
 cases w with
 | lst x =>
  cases i with
  | lst y =>
   unfold oCat at e;simp only at e;split at e
   ·rename_i z
    obtain rfl:=sI e;nofun;obtain⟨a,v,g,l,c⟩:=r.lst s;obtain⟨b,u,f,h,d⟩:=k.lst s;refine qG ?_;exact⟨a,b,v,u,g,f,l,h,by rw[<-c.length,<-d.length];exact z,λp j=>q _ _ (.lst j (c.append d))⟩
   ·exact noSome e
  |_=>exact noSome e
 |_=>exact noSome e
theorem z5s:OpS K rRep oRep:=λF H w d j i l Q s r f e q=>by
 cases w with
 | lst x =>
  cases d with
  | int k =>
   unfold oRep at e;simp only at e;split at e
   ·rename_i z
    obtain rfl:=sI e;obtain⟨a,v,c,g,b⟩:=r.lst s;exact⟨a,k,v,c,f.int,g,z.1,z.2.1,by rw[<-b.length];exact z.2.2,λp h=>q _ _ (.lst h (b.rep _))⟩
   ·exact noSome e
  |_=>exact noSome e
 |_=>exact noSome e
theorem zzw:OpS K (z8r K) zxw:=λF H i w y B C Q s j r e q=>by
 cases i with
 | tup f =>
  cases f with
  |nil=>cases w<;>exact noSome e
  | cons x f =>
   cases w with
   | tup A =>
    unfold zxw at e;simp only at e;split at e
    ·rename_i z
     obtain rfl:=sI e;nofun;obtain⟨a,v,k,m,n,c⟩:=j.tup s;obtain⟨b,u,g,h,t,d⟩:=r.tup s;refine qG ?_;refine⟨a,b,v,u,k,g,.inl (.inl m),.inl (.inl h),?_,by rw[<-c.length,<-d.length];exact z,λo=>?_,λ_ p l=>q _ _ (.tup l (c.append d))⟩
     ·intro e;subst e;cases c
     ·subst o
      cases d;rw[Cf] at q;exact q _ _ (.val (.tup n c))
    ·exact noSome e
   |_=>exact noSome e
 |_=>exact noSome e
mutual
inductive DV (H:Hp):V->PyData->Prop where
 |non:DV H .non .none
 |bl (b:Bool):DV H (.bl b) (.bool b)
 |int (i:Int):DV H (.int i) (.int i)
 |str (x:Str):DV H (.str x) (.str x)
 |tup {a:Zh}{vs:List V}{ds:List PyData} (h:H a=Za (.tup vs)) (r:DVs H vs ds):DV H (.ref a) (.tuple ds)
 |lst {a:Zh}{vs:List V}{ds:List PyData} (h:H a=Za (.lst vs)) (r:DVs H vs ds):DV H (.ref a) (.list ds)
inductive DVs (H:Hp):List V->List PyData->Prop where
 |nil:DVs H [] []
 |cons {v:V}{d:PyData}{vs:List V}{ds:List PyData} (h:DV H v d) (r:DVs H vs ds):DVs H (v::vs) (d::ds)
end
section
mutual
theorem DV.reads (I:Inv X pins σ H s):∀{v:V}{d:PyData}{u:Ze},DV H v d->RelV v u->∃as,Reads s.heap u d as
 |_,_,_,.non,r=>by cases (show _=Ze.none from r);exact⟨_,.none⟩
 |_,_,_,.bl b,r=>by cases (show _=Ze.bool b from r);exact⟨_,.bool b⟩
 |_,_,_,.int i,r=>by obtain⟨t,e⟩:=(show ∃t,_=Ze.int i t from r);subst e;exact⟨_,.int i t⟩
 |_,_,_,.str x,r=>by obtain⟨t,e⟩:=(show ∃t,_=Ze.str x t from r);subst e;exact⟨_,.str x t⟩
 | _,_,_,.tup h q,r=>by
  cases r;obtain⟨a,j,⟨o,e,c,n,g⟩,_⟩:=I.tuple (.inl (.inl h));obtain⟨as,f⟩:=DVs.reads I q j;exact⟨as,.tuple e c g (by simpa using f)⟩
 | _,_,_,.lst h q,r=>by
  cases r;obtain⟨a,j,⟨o,n,e,c,_,g⟩,_⟩:=I.list (SqL.of' h);obtain⟨as,f⟩:=DVs.reads I q j;exact⟨_,.list e c g (by simpa using f)⟩
theorem DVs.reads (I:Inv X pins σ H s):∀{vs:List V}{d:List PyData}{u:List Ze},DVs H vs d->Vals vs u->∃as,ReadsAll s.heap u d as
 |_,_,_,.nil,r=>by cases r;exact⟨_,.nil⟩
 | _,_,_,.cons h q,r=>by
  cases r with
  | cons c e =>
   obtain⟨as,a⟩:=DV.reads I h c;obtain⟨bs,b⟩:=DVs.reads I q e;exact⟨_,.cons a b⟩
end
end
mutual
noncomputable def dW:W->Option PyData
 |.non=>Za .none
 |.bl b=>Za (.bool b)
 |.int i=>Za (.int i)
 |.str x=>Za (.str x)
 |.tup w=>(dWs w).bind λd=>Za (.tuple d)
 |.lst w=>(dWs w).bind λd=>Za (.list d)
 |_=>Zb
noncomputable def dWs:List W->Option (List PyData)
 |[]=>Za []
 |w::a=>(dW w).bind λd=>(dWs a).bind λb=>Za (d::b)
end
section
variable {K:Zg}
mutual
theorem z2o (s:Same F H):∀{w:W}{v:V}{d:PyData},Rep K F w v->dW w=Za d->DV H v d
 |_,_,_,.non,e=>by obtain rfl:=sI e;exact .non
 |_,_,_,.bl b,e=>by obtain rfl:=sI e;exact .bl b
 |_,_,_,.int i,e=>by obtain rfl:=sI e;exact .int i
 |_,_,_,.str x,e=>by obtain rfl:=sI e;exact .str x
 | _,_,_,.tup h r,e=>by
  obtain⟨f,c,a⟩:=bS e;obtain rfl:=sI a;exact .tup (s _ _ h) (ziz s r c)
 | _,_,_,.lst h r,e=>by
  rw[dW] at e;obtain⟨f,c,a⟩:=bS e;obtain rfl:=sI a;exact .lst (s _ _ h) (ziz s r c)
 |_,_,_,.frl _ _,e=>by exact noSome e
 |_,_,_,.dic _,e=>by exact noSome e
 |_,_,_,.dct _ _ _,e=>by exact noSome e
 |_,_,_,.dctT _ _ _,e=>by exact noSome e
 |_,_,_,.dcz _ _ _,e=>by exact noSome e
 |_,_,_,.dczT _ _ _,e=>by exact noSome e
theorem ziz (s:Same F H):∀{ws:List W}{vs:List V}{a:List PyData},Reps K F ws vs->dWs ws=Za a->DVs H vs a
 |_,_,_,.nil,e=>by cases e;exact .nil
 | _,_,_,.cons h r,e=>by
  obtain⟨d,f,e⟩:=bS e;obtain⟨a,b,c⟩:=bS e;cases c;exact .cons (z2o s h f) (ziz s r b)
end
theorem zup (s:Same F H) (r:RepB K F H w v) (b:dW w=Za d):DV H v d:=by
 rcases r with r|⟨a,o,u,z,rfl,h,q⟩
 ·exact z2o s r b
 ·subst z
  cases q with
  |dct f q=>exact noSome b
  |dctT f q=>exact noSome b
  | lst q =>
   obtain⟨g,c,e⟩:=bS b;obtain rfl:=sI e;exact .lst h (ziz s q c)
end
noncomputable def rEqD (g:Bool->Bool):R2:=λx y H Q=>∃d a,DV H x d/\DV H y a/\d.canLay0=Zd/\a.canLay0=Zd/\d.depth<=100/\Q (.bl (g (PyData.eqv d a))) H
theorem z9p (i:Room k X.A):OpR X (compareOp .Eq) (rEqD id):=by
 intro pins s σ H x y v u Q I b a h;nofun;obtain⟨d,m,f,e,g,c,l,q⟩:=h;obtain⟨n,r⟩:=f.reads I b;obtain⟨bs,j⟩:=e.reads I a;refine qG ?_;exact SeqAt.compareEq_reads r j g c (by have:=i.un;symm) ⟨.bl _,H,I,rfl,q⟩
theorem z7u (j:Room k X.A):OpR X (compareOp .NotEq) (rEqD not):=by
 intro pins s σ H x y v u Q I c a h;nofun;obtain⟨d,b,g,f,i,e,n,q⟩:=h;obtain⟨l,r⟩:=g.reads I c;obtain⟨bs,m⟩:=f.reads I a;refine qG ?_;exact SeqAt.neOverData X.prog X.w X.A X.xe s v u d b l bs _ r m i e (by have:=j.un;symm) ⟨.bl _,H,I,rfl,q⟩
noncomputable def eqD (a b:W):Option Bool:=(dW a).bind λd=>(dW b).bind λc=>if d.canLay0&&c.canLay0&&decide (d.depth<=100) then Za (PyData.eqv d c) else Zb
theorem z2q {K:Zg}(s:Same F H)(r:RepB K F H w1 v1)(a:RepB K F H w2 v2)(e:eqD w1 w2=Za k):∃d d',DV H v1 d/\DV H v2 d'/\d.canLay0=Zd/\d'.canLay0=Zd/\d.depth<=100/\k=PyData.eqv d d':=by
 nofun;obtain⟨d,b,e⟩:=bS e;obtain⟨d',h,e⟩:=bS e;refine qG ?_;split at e
 ·rename_i z;rw[Ac,Ac] at z;obtain rfl:=sI e;exact⟨d,d',zup s r b,zup s a h,z.1.1,z.1.2,Ao z.2,rfl⟩
 ·exact noSome e
noncomputable def z52:W->W->Option Bool
 |.non,.non=>Za Zd|.non,.int _=>Za Zc|.int _,.non=>Za Zc|.non,.bl _=>Za Zc|.bl _,.non=>Za Zc|.non,.str _=>Za Zc|.str _,.non=>Za Zc
 |.int i,.int j=>Za (decide (i=j))|.bl i,.bl j=>Za (decide (i=j))|.str i,.str j=>Za (decide (i=j))
 |.int _,.str _=>Za Zc|.str _,.int _=>Za Zc|.bl _,.str _=>Za Zc|.str _,.bl _=>Za Zc
 |_,_=>Zb
noncomputable def oEq:O2:=λa b=>match z52 a b with
 |some k=>Za (.bl k,Zc)
 |none=>(eqD a b).bind λk=>Za (.bl k,Zc)
noncomputable def oNe:O2:=λa b=>match z52 a b with
 |some k=>Za (.bl (!k),Zc)
 |none=>(eqD a b).bind λk=>Za (.bl (!k),Zc)
theorem zp8 (a:RepB K F H w1 v1) (r:RepB K F H w2 v2) (e:z52 w1 w2=Za k):scal v1 v2=Zd/\decide (v1=v2)=k:=by
 cases w1 with
 | non =>
  have:=a.non;subst this;cases w2 with
  |non=>have:=r.non;subst this;obtain rfl:=sI e;exact⟨rfl,by decide⟩
  |int j=>have:=r.int;subst this;obtain rfl:=sI e;exact⟨rfl,by simp⟩
  |bl j=>have:=r.bl;subst this;obtain rfl:=sI e;exact⟨rfl,by simp⟩
  |str j=>have:=r.str;subst this;obtain rfl:=sI e;exact⟨rfl,by simp⟩
  |_=>exact noSome e
 | int i =>
  have:=a.int;subst this;cases w2 with
  |non=>have:=r.non;subst this;obtain rfl:=sI e;exact⟨rfl,by simp⟩
  |int j=>have:=r.int;subst this;obtain rfl:=sI e;exact⟨rfl,by simp⟩
  |str j=>have:=r.str;subst this;obtain rfl:=sI e;exact⟨rfl,by simp⟩
  |_=>exact noSome e
 | bl i =>
  have:=a.bl;subst this;cases w2 with
  |non=>have:=r.non;subst this;obtain rfl:=sI e;exact⟨rfl,by simp⟩
  |bl j=>have:=r.bl;subst this;obtain rfl:=sI e;exact⟨rfl,by simp⟩
  |str j=>have:=r.str;subst this;obtain rfl:=sI e;exact⟨rfl,by simp⟩
  |_=>exact noSome e
 | str i =>
  have:=a.str;subst this;cases w2 with
  |non=>have:=r.non;subst this;obtain rfl:=sI e;exact⟨rfl,by simp⟩
  |int j=>have:=r.int;subst this;obtain rfl:=sI e;exact⟨rfl,by simp⟩
  |bl j=>have:=r.bl;subst this;obtain rfl:=sI e;exact⟨rfl,by simp⟩
  |str j=>have:=r.str;subst this;obtain rfl:=sI e;exact⟨rfl,by simp⟩
  |_=>exact noSome e
 |_=>cases w2<;>exact noSome e
theorem yaa:OpS K (λx y H Q=>rEq x y H Q\/rEqD id x y H Q) oEq:=λF H w l n v m Q s r c e q=>by
 unfold oEq at e;split at e
 ·rename_i k b;obtain rfl:=sI e;obtain⟨a,h⟩:=zp8 r c b;refine .inl ⟨a,?_⟩;rw[h];exact q _ _ (.val (.bl k))
 ·obtain⟨k,b,e⟩:=bS e;obtain rfl:=sI e;nofun;obtain⟨d,g,j,i,a,h,f,rfl⟩:=z2q s r c b;refine qG ?_;exact .inr ⟨d,g,j,i,a,h,f,q _ _ (.val (.bl _))⟩
theorem z7r:OpS K (λx y H Q=>rNe x y H Q\/rEqD not x y H Q) oNe:=λF H w l n v m Q s r c e q=>by
 unfold oNe at e;split at e
 ·rename_i k b;obtain rfl:=sI e;obtain⟨a,h⟩:=zp8 r c b;refine .inl ⟨a,?_⟩;rw[h];exact q _ _ (.val (.bl _))
 ·obtain⟨k,b,e⟩:=bS e;obtain rfl:=sI e;nofun;obtain⟨d,g,j,i,a,h,f,rfl⟩:=z2q s r c b;refine qG ?_;exact .inr ⟨d,g,j,i,a,h,f,q _ _ (.val (.bl _))⟩
noncomputable def isW:W->W->Option Bool
 |.non,.non=>Za Zd
 |_,.non=>Za Zc
 |.bl a,.bl b=>Za (decide (a=b))
 |_,.bl _=>Za Zc
 |_,_=>Zb
noncomputable def oIs:O2:=λa b=>(isW a b).bind λk=>Za (.bl k,Zc)
noncomputable def zgg:W->Bool
 |.non=>Zd
 |.bl _=>Zd
 |.int _=>Zd
 |.str _=>Zd
 |_=>Zc
noncomputable def eqF:W->W->Bool
 |.non,.non=>Zd
 |.bl a,.bl b=>a==b
 |.bl a,.int b=>(if a then 1 else 0)==b
 |.int a,.bl b=>a==(if b then 1 else 0)
 |.int a,.int b=>a==b
 |.str a,.str b=>a==b
 |_,_=>Zc
theorem Rep.flat (h:Rep K F w v)(f:zgg w=Zd):zht v=Zd:=by
 cases h<;>first|rfl|(cases f)
theorem Reps.flat:∀{ws:List W}{vs:List V},Reps K F ws vs->ws.all zgg=Zd->vs.all zht=Zd
 |_,_,.nil,_=>rfl
 | _,_,.cons h r,f=>by
  rw[Bv,Ac] at f ⊢;exact⟨h.flat f.1,r.flat f.2⟩
theorem z9u (h:Rep K F w v)(a:Rep K F' u z)(f1:zgg w=Zd)(f2:zgg u=Zd):eqV v z=eqF w u:=by
 cases h<;>first|(cases f1;done)|(cases a<;>first|rfl|(cases f2))
theorem z2k (a:Rep K F' u z) (f2:zgg u=Zd):∀{ws:List W}{vs:List V},Reps K F ws vs->ws.all zgg=Zd->inV z vs=ws.any λy=>eqF y u
 |_,_,.nil,_=>rfl
 | _,_,.cons h r,f=>by
  rw[Bv,Ac] at f;have i:=z2k a f2 r f.2;unfold inV at i ⊢;rw[Dy,Dy,i,z9u h a f.1 f2]
noncomputable def oIn (n:Bool):O2:=λa b=>(seqW b).bind λw=>if zgg a&&w.all zgg then Za (.bl (if n then !(w.any λy=>eqF y a) else w.any λy=>eqF y a),Zc) else Zb
theorem z2w (n:Bool):OpS K (rIn K n) (oIn n):=λF H w l i k m Q s d g e q=>by
 obtain⟨j,f,e⟩:=bS e;split at e
 ·rename_i z;rw [Ac] at z;obtain rfl:=sI e;obtain ⟨a,v,c,h,p⟩:=g.seqW s f;have b:Rep K F w i:=by
   rcases d with r|⟨_,_,_,e,_,_,y⟩
   ·exact r
   ·subst e;cases y<;>cases z.1
  refine⟨a,v,c,h,b.flat z.1,p.flat z.2,?_⟩;rw[z2k b z.1 p z.2];exact q _ _ (.val (.bl _))
 ·exact noSome e
noncomputable def oIx:O2
 |a,.int i=>(seqW a).bind λb=>(atI b i).bind λw=>#v[w,6]
 |_,_=>Zb
theorem zz1 (r:Reps K F ws vs)(h:atI ws i=Za w):∃v,atI vs i=Za v/\Rep K F w v:=by
 unfold atI at h ⊢;rw[<-r.length];obtain⟨j,a,c⟩:=bS h;obtain⟨v,b,d⟩:=r.get c;exact⟨v,by rw[a];exact b,d⟩
noncomputable def rIxB (K:Zg):R2:=λx y H Q=>rIxL K x y H Q\/rIxT K x y H Q
theorem z2h:OpS K (rIxB K) oIx:=λF H c l t o r Q s j g e q=>by
 cases l with
 | int i =>
  obtain⟨n,k,e⟩:=bS (show (seqW c).bind _=_ from e);obtain⟨w,m,e⟩:=bS e;obtain rfl:=sI e;obtain⟨a,d,f,h,p⟩:=j.seqW s k;obtain⟨v,b,r⟩:=zz1 p m;rcases h with h|h
  ·exact .inl ⟨a,d,i,v,f,g.int,h,b,q _ _ (.val r)⟩
  ·exact .inr ⟨a,d,i,v,f,g.int,h,b,q _ _ (.val r)⟩
 |_=>cases c<;>exact noSome e
noncomputable def oNeg:W->Option (W×Bool)
 |.int i=>#v[(-i),0]
 |_=>Zb
theorem z3w:OpS1 K (rU λi=>.int (-i)) oNeg:=λF H w v a Q s r e q=>by
 cases w with
 |int i=>obtain rfl:=sI e;exact⟨i,r.int,q _ _ (.val (.int _))⟩
 |_=>exact noSome e
end
theorem zrq:∀(n:List Int) (k:Nat),k<=n.length->preSum (λi=>n.getD i 0) k=(n.take k).sum
 |n,0,_=>rfl
 | n,k+1,h=>by
  have a:=zrq n k #v[];show preSum (λi=>n.getD i 0) k+n.getD k 0=_;rw[a,Cs,List.sum_append];have b:k<n.length:=by symm
  rw[Bi,Ad b];simp
section
variable {X:Cx}
theorem zms {n:List Int}{a:List Ze}{i:Nat}{v:Ze}(r:Vals (n.map V.int) a)(h:a[i]?=Za v):∃t,v=.int (n.getD i 0) t:=by
 have c:=r.length;rw[Af] at c;have b:i<n.length:=by rw[c];exact (Ah.mp h).1
 obtain⟨u,d,f⟩:=r.get (by rw[Ar,Ad b];rfl);rw[h] at d;obtain rfl:=sI d;obtain⟨t,e⟩:=f;exact⟨t,by rw[e,Bi,Ad b];rfl⟩
noncomputable def mx1 (n:Int) (r:List Int):Int:=r.foldl (λb x=>if x > b then x else b) n
theorem zs7 (n:Int) (r:List Int):∀k,k<=r.length->(n::r).getD (argBest (λi j=>decide ((n::r).getD i 0 > (n::r).getD j 0)) k) 0=mx1 n (r.take k)
 |0,_=>rfl
 | k+1,h=>by
  have a:=zs7 n r k #v[];have b:k<r.length:=by symm
  have g:(n::r).getD (k+1) 0=r[k]:=by rw[List.getD_cons_succ,Bi,Ad b];rfl
  have t:mx1 n (r.take (k+1))=if r[k] > mx1 n (r.take k) then r[k] else mx1 n (r.take k):=by
   unfold mx1;rw[Cs,Ad b,Hn];rfl
  rw[t];show (n::r).getD (if decide ((n::r).getD (k+1) 0 > (n::r).getD (argBest (λi j=>decide ((n::r).getD i 0 > (n::r).getD j 0)) k) 0)=Zd then k+1 else argBest _ k) 0=_;rw[a,g];by_cases c:r[k] > mx1 n (r.take k)
  ·rw[Aj c,if_pos rfl,if_pos c,g]
  ·rw[At c,if_neg As,if_neg c,a]
theorem zsx (l:X.calm=Zd):zek X (.builtin "max") (λxs H Q=>(∃i j,xs=#v[9,15]/\Q (.int (if j > i then j else i)) H)\/∃(a:Zh) (n:Int) (r:List Int),xs=[.ref a]/\SqL X.K H a ((n::r).map V.int)/\Q (.int (mx1 n r)) H):=by
 intro pins s σ H xs A Q I r h;rcases h with h|h
 ·exact zv8 l pins s σ H xs A Q I r h
 obtain⟨a,n,f,rfl,B,q⟩:=h;obtain⟨u,rfl,y⟩:=vals1 r;cases y;obtain⟨c,w,p,F⟩:=I.list B;have g:=w.length;rw[Af] at g;have m:a<s.heap.objs.size:=by obtain⟨o,e,_⟩:=p.isList;exact Am e
 have k:∀(i:Nat) (v:Ze),c.toArray[i]?=Za v->∃t,v=Ze.int ((n::f).getD i 0) t:=λi v e=>zms w (by simpa using e);refine call_max_walk (Ep p.isList ?_);refine⟨s.heap.objs.size,_,[s.heap.objs.size],c.toArray.size,_,_,_,rfl,Walks.list (show X.A.in1.handled=Zb from I.ok.hd l) _ a (Ba m) c.toArray,⟨⟨_,An _ rfl,rfl,rfl⟩,p.isList.push _⟩,λb d=>?_,by rw[Ai,<-g];exact Nat.succ_pos _,CmpOf.ints_gt _ k,λv D E x C=>?_⟩
 ·rw[Cr];simp only [Ak,Bb,Dk] at d;rcases d with rfl|rfl
  ·exact Er _
  ·exact Dl m
 ·obtain⟨t,rfl⟩:=k _ _ x;have e:c.toArray.size-1=f.length:=by rw[Ai,<-g];rfl
  refine⟨.int _,H,I.kept λb o d=>C b o (λz=>by rw[Aw] at z;subst z;exact absurd (Am d) (Bp _)) (Ab _ d),⟨_,rfl⟩,?_⟩;rw[e,zs7 n f f.length (Ag _),Cn];exact q
noncomputable def mn1 (n:Int) (r:List Int):Int:=r.foldl (λb x=>if x<b then x else b) n
theorem zsu (n:Int) (r:List Int):∀k,k<=r.length->(n::r).getD (argBest (λi j=>decide ((n::r).getD i 0<(n::r).getD j 0)) k) 0=mn1 n (r.take k)
 |0,_=>rfl
 | k+1,h=>by
  have a:=zsu n r k #v[];have b:k<r.length:=by symm
  have g:(n::r).getD (k+1) 0=r[k]:=by rw[List.getD_cons_succ,Bi,Ad b];rfl
  have t:mn1 n (r.take (k+1))=if r[k]<mn1 n (r.take k) then r[k] else mn1 n (r.take k):=by
   unfold mn1;rw[Cs,Ad b,Hn];rfl
  rw[t];show (n::r).getD (if decide ((n::r).getD (k+1) 0<(n::r).getD (argBest (λi j=>decide ((n::r).getD i 0<(n::r).getD j 0)) k) 0)=Zd then k+1 else argBest _ k) 0=_;rw[a,g];by_cases c:r[k]<mn1 n (r.take k)
  ·rw[Aj c,if_pos rfl,if_pos c,g]
  ·rw[At c,if_neg As,if_neg c,a]
theorem zsd (l:X.calm=Zd):zek X (.builtin "min") (λxs H Q=>(∃i j,xs=#v[9,15]/\Q (.int (if j<i then j else i)) H)\/∃(a:Zh) (n:Int) (r:List Int),xs=[.ref a]/\SqL X.K H a ((n::r).map V.int)/\Q (.int (mn1 n r)) H):=by
 intro pins s σ H xs A Q I r h;rcases h with h|h
 ·exact zw3 l pins s σ H xs A Q I r h
 obtain⟨a,n,f,rfl,B,q⟩:=h;obtain⟨u,rfl,y⟩:=vals1 r;cases y;obtain⟨c,w,p,F⟩:=I.list B;have g:=w.length;rw[Af] at g;have m:a<s.heap.objs.size:=by obtain⟨o,e,_⟩:=p.isList;exact Am e
 have k:∀(i:Nat) (v:Ze),c.toArray[i]?=Za v->∃t,v=Ze.int ((n::f).getD i 0) t:=λi v e=>zms w (by simpa using e);refine call_min_walk (Ep p.isList ?_);refine⟨s.heap.objs.size,_,[s.heap.objs.size],c.toArray.size,_,_,_,rfl,Walks.list (show X.A.in1.handled=Zb from I.ok.hd l) _ a (Ba m) c.toArray,⟨⟨_,An _ rfl,rfl,rfl⟩,p.isList.push _⟩,λb d=>?_,by rw[Ai,<-g];exact Nat.succ_pos _,CmpOf.ints_lt _ k,λv D E x C=>?_⟩
 ·rw[Cr];simp only [Ak,Bb,Dk] at d;rcases d with rfl|rfl
  ·exact Er _
  ·exact Dl m
 ·obtain⟨t,rfl⟩:=k _ _ x;have e:c.toArray.size-1=f.length:=by rw[Ai,<-g];rfl
  refine⟨.int _,H,I.kept λb o d=>C b o (λz=>by rw[Aw] at z;subst z;exact absurd (Am d) (Bp _)) (Ab _ d),⟨_,rfl⟩,?_⟩;rw[e,zsu n f f.length (Ag _),Cn];exact q
theorem z6v:OpR X (binaryOp .Add) (λx y H Q=>∃a b ys,x=.ref a/\y=.ref b/\SqT X.K H a []/\SqT X.K H b ys/\Q (.ref b) H):=by
 intro pins s σ H x y v u Q I f r h;nofun;obtain⟨a,b,ys,rfl,rfl,D,e,q⟩:=h;refine qG ?_;cases f;cases r;nofun;obtain⟨i,n,p,_⟩:=I.tuple D;obtain⟨c,G,E,_⟩:=I.tuple e;obtain⟨⟨L,o,F,l⟩,d,z,t,k⟩:=id p;obtain⟨⟨J,m,K,B⟩,g,w,A,j⟩:=id E;ac_rfl;subst z k w j;have C:i=[]:=by cases n;rfl
 subst C;exact concat_meets ⟨_,d,rfl⟩ ⟨_,g,rfl⟩ noFill_tuple_add seq_tuple_add PySem.F.slot_tuple_add PySem.F.entry_tuple_add (Hq _ _)
  (tuple_addW0 a b _ _ t A o m l B rfl) ⟨d,g,⟨.ref b,H,I.tok _,rfl,q⟩⟩
theorem zzt:OpR X (binaryOp .FloorDiv) (rI (λ_ j=>0<j/\j.natAbs.log2<9000) λi j=>.int (i/j)):=opI λi j _ _ _ _ _ h q=>by
 exact floordiv_int #v[] (by rw[Int.fdiv_eq_ediv_of_nonneg i #v[]];exact q) (.inl (PyProof.noPylong_of_log2 h.2))
end
section
variable {K:Zg}
noncomputable def ydg (K:Zg):R2:=λx y H Q=>∃a b c,x=.ref a/\y=.ref b/\SqT K H a []/\SqT K H b c/\Q (.ref b) H
theorem zx3:OpS K (ydg K) z5t:=λF H d w l n o Q s g r e q=>by
 cases d with
 | tup x =>
  cases x with
  |cons _ _=>cases w<;>exact noSome e
  | nil =>
   cases w with
   | tup y =>
    obtain rfl:=sI e;nofun;obtain⟨a,v,i,j,m,p⟩:=g.tup s;obtain⟨b,u,c,h,f,k⟩:=r.tup s;refine qG ?_;cases p;subst c;exact⟨a,b,u,i,rfl,.inl (.inl j),.inl (.inl h),q _ _ (.val (.tup f k))⟩
   |_=>exact noSome e
 |_=>exact noSome e
noncomputable def yc8:R2:=λx y H Q=>∃i j,x=.str i/\y=.str j/\i.length+j.length<=sizeLine/\Q (.str (i++j)) H
theorem z0x:OpS K yc8 z1p:=λF H w a c v d Q s r b e q=>by
 cases w with
 | str x =>
  cases a with
  | str y =>
   unfold z1p at e;simp only at e;split at e
   ·rename_i z;obtain rfl:=sI e;exact⟨x,y,r.str,b.str,z,q _ _ (.val (.str _))⟩
   ·exact noSome e
  |_=>exact noSome e
 |_=>exact noSome e
noncomputable abbrev ON:=List W->Option (W×Bool)
noncomputable def oLen:ON
 |[w]=>(seqW w).bind λa=>#v[a.length,0]
 |_=>Zb
theorem z3r:OpSN K (λxs H Q=>∃p ys,xs=[.ref p]/\(SqL K H p ys\/SqT K H p ys)/\Q (.int ys.length) H) oLen:=λF H w v f Q s r e q=>by
 cases r with
 |nil=>exact noSome e
 | cons h r =>
  cases r with
  |cons _ _=>exact noSome e
  | nil =>
   obtain⟨w,d,e⟩:=bS (show (seqW _).bind _=_ from e);obtain rfl:=sI e;obtain⟨a,v,c,b,p⟩:=h.seqW s d;subst c;exact⟨a,v,rfl,b,by rw[<-p.length];exact q _ _ (.val (.int _))⟩
noncomputable def oAbs:ON
 |[.int i]=>#v[(if i<0 then -i else i),0]
 |_=>Zb
theorem RepBs.one (r:RepBs K F H [w] vs):∃v,vs=[v]/\RepB K F H w v:=by
 cases r with
 |cons h r=>cases r;exact⟨_,rfl,h⟩
theorem RepBs.two (r:RepBs K F H [w,u] vs):∃v z,vs=[v,z]/\RepB K F H w v/\RepB K F H u z:=by
 cases r with
 |cons h r=>obtain⟨z,e,a⟩:=r.one;subst e;exact⟨_,z,rfl,h,a⟩
theorem z54:OpSN K (λxs H Q=>∃i,xs=[.int i]/\Q (.int (if i<0 then -i else i)) H) oAbs:=λF H w b c Q s r e q=>by
 match w,e with
 | [.int i],e =>
  obtain rfl:=sI e;obtain⟨v,a,h⟩:=r.one;subst a;exact⟨i,by rw[h.int],q _ _ (.val (.int _))⟩
noncomputable def oInt:ON
 |[.int i]=>#v[i,0]
 |[.bl k]=>#v[(if k then 1 else 0),0]
 |_=>Zb
theorem z36:OpSN K (λxs H Q=>(∃i,xs=[.int i]/\Q (.int i) H)\/∃k,xs=[.bl k]/\Q (.int (if k then 1 else 0)) H) oInt:=λF H w b c Q s r e q=>by
 match w,e with
 | [.int i],e =>
  obtain rfl:=sI e;obtain⟨v,a,h⟩:=r.one;subst a;exact .inl ⟨i,by rw[h.int],q _ _ (.val (.int _))⟩
 | [.bl k],e =>
  obtain rfl:=sI e;obtain⟨v,a,h⟩:=r.one;subst a;exact .inr ⟨k,by rw[h.bl],q _ _ (.val (.int _))⟩
noncomputable def oList:ON
 |[w]=>(seqW w).bind λa=>#v[a,2]
 |_=>Zb
theorem z01:OpSN K (λxs H Q=>∃p ys,xs=[.ref p]/\(SqL K H p ys\/SqT K H p ys)/\∀l,H l=Zb->Q (.ref l) (upd H l (.lst ys))) oList:=λF H b j k Q s r e q=>by
 match b,e with
 | [w],e =>
  obtain⟨b,g,e⟩:=bS (show (seqW _).bind _=_ from e);obtain rfl:=sI e;nofun;obtain⟨v,f,h⟩:=r.one;obtain⟨a,u,c,d,p⟩:=h.seqW s g;refine qG ?_;subst f c;exact⟨a,u,rfl,d,λl i=>q _ _ (.lst i p)⟩
noncomputable def za5:ON
 |[.tup a]=>#v[a,3]
 |[w]=>(seqL w).bind λa=>#v[a,3]
 |_=>Zb
theorem zxi:OpSN K (λxs H Q=>∃p ys,xs=[.ref p]/\((SqL K H p ys/\∀l,H l=Zb->Q (.ref l) (upd H l (.tup ys)))\/(SqT K H p ys/\Q (.ref p) H))) za5:=λF H w i j Q s r e q=>by
 match w,e with
 | [.tup w],e =>
  obtain rfl:=sI e;nofun;obtain⟨v,d,h⟩:=r.one;obtain⟨a,u,b,c,f,p⟩:=h.tup s;refine qG ?_;subst d b;exact⟨a,u,rfl,.inr ⟨.inl (.inl c),q _ _ (.val (.tup f p))⟩⟩
 | [.lst w],e =>
  obtain rfl:=sI e;nofun;obtain⟨v,d,h⟩:=r.one;obtain⟨a,u,b,c,p⟩:=h.lst s;ac_rfl;subst d b;exact⟨a,u,rfl,.inl ⟨SqL.of' c,λl g=>q _ _ (.tup g p)⟩⟩
 | [.frl w],e =>
  obtain rfl:=sI e;nofun;obtain⟨v,d,h⟩:=r.one;obtain⟨a,u,b,c,p⟩:=h.frl s;ac_rfl;subst d b;exact⟨a,u,rfl,.inl ⟨c,λl g=>q _ _ (.tup g p)⟩⟩
 |[.non],e=>exact noSome e
 |[.bl _],e=>exact noSome e
 |[.int _],e=>exact noSome e
 |[.str _],e=>exact noSome e
 |[.dic],e=>exact noSome e
 |[.dct _ _],e=>exact noSome e
 |[.dcz _ _],e=>exact noSome e
noncomputable def zko:List W->Option (List Bool)
 |[]=>Za []
 |.bl b::w=>(zko w).bind λbs=>Za (b::bs)
 |_=>Zb
noncomputable def zbs:List W->Option (List Int)
 |[]=>Za []
 |.int b::w=>(zbs w).bind λbs=>Za (b::bs)
 |_=>Zb
theorem zoq:∀{ws:List W}{bs:List Bool},zko ws=Za bs->ws=bs.map W.bl
 |[],_,e=>by obtain rfl:=sI e;rfl
 | .bl b::ws,_,e=>by
  obtain⟨bs,h,e⟩:=bS (show (zko ws).bind _=_ from e);obtain rfl:=sI e;rw[zoq h];rfl
 |.non::_,_,e=>by exact noSome e
 |.int _::_,_,e=>by exact noSome e
 |.str _::_,_,e=>by exact noSome e
 |.tup _::_,_,e=>by exact noSome e
 |.lst _::_,_,e=>by exact noSome e
 |.frl _::_,_,e=>by exact noSome e
theorem zbk:∀{ws:List W}{bs:List Int},zbs ws=Za bs->ws=bs.map W.int
 |[],_,e=>by obtain rfl:=sI e;rfl
 | .int b::ws,_,e=>by
  obtain⟨bs,h,e⟩:=bS (show (zbs ws).bind _=_ from e);obtain rfl:=sI e;rw[zbk h];rfl
 |.non::_,_,e=>by exact noSome e
 |.bl _::_,_,e=>by exact noSome e
 |.str _::_,_,e=>by exact noSome e
 |.tup _::_,_,e=>by exact noSome e
 |.lst _::_,_,e=>by exact noSome e
 |.frl _::_,_,e=>by exact noSome e
theorem zdv:∀(a:List Int),zbs (a.map W.int)=Za a
 |[]=>rfl
 |n::a=>by show (zbs (a.map W.int)).bind _=_;rw[zdv a];rfl
theorem zgf:∀(a:List Bool),zko (a.map W.bl)=Za a
 |[]=>rfl
 |n::a=>by show (zko (a.map W.bl)).bind _=_;rw[zgf a];rfl
noncomputable def oBl (f:List Bool->Bool):ON
 |[w]=>(seqL w).bind λa=>(zko a).bind λbs=>Za (.bl (f bs),Zc)
 |_=>Zb
theorem z11:OpSN K (λxs H Q=>∃(a:Zh) (bs:List Bool),xs=[.ref a]/\SqL K H a (bs.map V.bl)/\Q (.bl (f bs)) H) (oBl f):=λF H b k l Q s r e q=>by
 match b,e with
 | [w],e =>
  nofun;obtain⟨b,j,e⟩:=bS (show (seqL _).bind _=_ from e);obtain⟨bs,d,e⟩:=bS e;refine qG ?_;obtain rfl:=sI e;nofun;obtain⟨v,i,h⟩:=r.one;obtain⟨a,u,g,c,p⟩:=h.seqL s j;ac_rfl;subst i g;rw[zoq d] at p;rw[p.bls] at c;exact⟨a,bs,rfl,c,q _ _ (.val (.bl _))⟩
noncomputable def mnW (w:W):Option (W×Bool):=(seqL w).bind λa=>(zbs a).bind λb=>match b with
 |n::r=>#v[(mn1 n r),0]
 |[]=>Zb
noncomputable def oMin:ON
 |#v[9,15]=>#v[(if j<i then j else i),0]
 |[w]=>mnW w
 |_=>Zb
noncomputable def mxW (w:W):Option (W×Bool):=(seqL w).bind λa=>(zbs a).bind λb=>match b with
 |n::r=>#v[(mx1 n r),0]
 |[]=>Zb
noncomputable def mx2:W->W->Option (W×Bool)
 |.int i,.int j=>#v[(if j > i then j else i),0]
 |_,_=>Zb
noncomputable def oMax:ON
 |[w]=>mxW w
 |[a,b]=>mx2 a b
 |_=>Zb
theorem z35:OpSN K (λxs H Q=>(∃i j,xs=#v[9,15]/\Q (.int (if j<i then j else i)) H)\/∃(a:Zh) (n:Int) (r:List Int),xs=[.ref a]/\SqL K H a ((n::r).map V.int)/\Q (.int (mn1 n r)) H) oMin:=λF H g x t Q s r e q=>by
 unfold oMin at e;split at e
 ·obtain rfl:=sI e
  obtain⟨v,z,c,o,l⟩:=r.two;subst c;exact .inl ⟨_,_,by rw[o.int,l.int],q _ _ (.val (.int _))⟩
 ·rename_i w
  nofun;obtain⟨g,m,e⟩:=bS (show (seqL w).bind _=Za t from e);obtain⟨b,f,e⟩:=bS e;obtain⟨v,c,h⟩:=r.one;obtain⟨a,u,k,d,p⟩:=h.seqL s m;refine qG ?_;subst c k;rw[zbk f] at p;rw[p.ints] at d;cases b with
  |nil=>exact noSome e
  | cons n b =>
   obtain rfl:=sI e;exact .inr ⟨a,n,b,rfl,d,q _ _ (.val (.int _))⟩
 ·exact noSome e
theorem z5a:OpSN K (λxs H Q=>(∃i j,xs=#v[9,15]/\Q (.int (if j > i then j else i)) H)\/∃(a:Zh) (n:Int) (r:List Int),xs=[.ref a]/\SqL K H a ((n::r).map V.int)/\Q (.int (mx1 n r)) H) oMax:=λF H d A g Q s r e q=>by
 match d,e with
 | [x,y],e =>
  have e:mx2 x y=Za g:=e;unfold mx2 at e;split at e
  ·obtain rfl:=sI e
   nofun;obtain⟨v,z,c,t,m⟩:=r.two;refine qG ?_;subst c;exact .inl ⟨_,_,by rw[t.int,m.int],q _ _ (.val (.int _))⟩
  ·exact noSome e
 | [w],e =>
  nofun;obtain⟨d,o,e⟩:=bS (show (seqL w).bind _=Za g from e);obtain⟨b,k,e⟩:=bS e;obtain⟨v,c,h⟩:=r.one;obtain⟨a,u,l,f,p⟩:=h.seqL s o;refine qG ?_;subst c l;rw[zbk k] at p;rw[p.ints] at f;cases b with
  |nil=>exact noSome e
  | cons n b =>
   obtain rfl:=sI e;exact .inr ⟨a,n,b,rfl,f,q _ _ (.val (.int _))⟩
noncomputable def tyW:W->Option String
 |.non=>Za "NoneType"
 |.bl _=>Za "bool"
 |.int _=>Za "int"
 |.str _=>Za "str"
 |.tup _=>Za "tuple"
 |.lst _=>Za "list"
 |.frl _=>Zb
 |.dic=>Zb
 |.dct _ _=>Zb
 |.dcz _ _=>Zb
inductive Kd where
 |int|bool|str|tuple|list
 deriving DecidableEq
noncomputable def isiW (k:Kd):W->Option Bool
 |.non=>Za Zc
 |.bl _=>Za (k==.bool||k==.int)
 |.int _=>Za (k==.int)
 |.str _=>Za (k==.str)
 |.tup _=>Za (k==.tuple)
 |.lst _=>Za (k==.list)
 |.frl _=>Zb
 |.dic=>Za Zc
 |.dct _ _=>Za Zc
 |.dcz _ _=>Zb
noncomputable def oIsi (k:Kd) (w:W):Option (W×Bool):=(isiW k w).bind λb=>Za (.bl b,Zc)
noncomputable abbrev GO:=En->Option (En×Option Int)
noncomputable def zbx:GO:=λe=>Za (e,Zb)
noncomputable def zd2 (g:GE):GO:=λa=>match g a with
 |some (e,(.int i,_))=>Za (e,Za i)
 |_=>Zb
noncomputable def tO (K:Zg) (g:GO):TO:=λσ H Q=>∃F p b e o,Rel K F p b σ H/\g b=Za (e,o)/\∀c a,Same F c->Rel K c p e σ a->Q o a
theorem Res.isInt (h:Res K F H pr en σ (.int i,fl) v):v=.int i:=by
 cases fl with
 |false=>cases (show Rep K F (.int i) v from h);rfl
 |true=>obtain⟨_,_,_,e,_,_,_,q,_⟩:=h;subst e;cases q
theorem zny (h:tO K zbx σ H Q):zwx σ H Q:=by
 obtain⟨F,p,a,e,o,R,h,q⟩:=h;cases h;exact q F H (.refl F) R
theorem zwq (h:tO K (zd2 g) σ H Q):z9w (tE K g) σ H Q:=by
 nofun;obtain⟨F,b,a,i,o,R,h,q⟩:=h;refine qG ?_;unfold zd2 at h;cases e:g a with
 |none=>simp only [e] at h;exact noSome h
 | some p =>
  obtain⟨k,w,fl⟩:=p;cases w with
  |int c=>simp only [e] at h;cases h;exact⟨F,b,a,_,_,R,e,λj d v s f z=>⟨c,z.isInt,q j d s f⟩⟩
  |_=>simp only [e] at h;exact noSome h
open HT in
theorem zrs {l b:Option Int} (a:IsTup s.heap t items) (c:s.heap.IsSliceOf sl vl vu .none) (p:IsPart vl l) (d:IsPart vu b)
  (e:sIx items.size 0 l=0) (f:sIx items.size items.size b=items.size) (h:Q (.ref t) s):wpAny (model prog w) A (getItem (.ref t) (.ref sl)) Q E s:=by
 obtain⟨o,i,g,_⟩:=id c;have ty:s.TypeIs (.ref sl) "slice" := ⟨o,i,g⟩;unfold getItem
 try with_reducible refine Bh ?_
 first|refine Aa (Ae ?_)|skip
 refine Aa (wpAny_sequenceKey a.typeIs #v[0,9] ?_);refine Aa (Ch a.typeIs Ek (Cz Ek a.typeIs entry_tuple_getitem ?_ (args_tuple_getitem _ _)));show wpAny _ _ (Builtin.Tuple.tupleItemsOf (.ref t)>>=_) _ _ s;refine Aa (tupleItemsOf_ a ?_);refine Aa (wpAny_typeOf ty ?_);refine Aa (zc4 c p d ?_);rw[e,f];show wpAny _ _ (if ((((0:Nat):Int)==0&&(1:Int)==1&&(items.size-0)==items.size)=Zd) then _ else _) _ _ s;rw[if_pos (by simp)];refine Aa (Aa (wpAny_typeOf a.typeIs (Ae ?_)));rw[if_pos #v[0,9]];refine Aa (Cd (Ae ⟨_,rfl,?_⟩));exact Ae h
noncomputable def rSlW (K:Zg):V->Option Int->Option Int->Hp->VK->Prop:=λx l h H Q=>∃a b,x=.ref a/\SqT K H a b/\HT.sIx b.length 0 l=0/\HT.sIx b.length b.length h=b.length/\Q x H
theorem z6f:SlR X (rSlW X.K):=by
 intro pins s σ H x v u o n m t Q I d j e p h;nofun;obtain⟨a,g,rfl,l,k,f,q⟩:=h;refine qG ?_;cases d;nofun;obtain⟨i,r,c,w⟩:=I.tuple l;ac_rfl;have b:i.toArray.size=g.length:=by rw[Ai];exact r.length.symm
 exact⟨"tuple",_,PyProof.Rows.slot_tuple_getitem.lookup,c.typeIs,zrs c j e p (by rw[b];exact k) (by rw[b];exact f) ⟨.ref a,H,I,rfl,q⟩⟩
noncomputable def cutW (xs:List W) (l h:Option Int):List W:=(xs.drop (HT.sIx xs.length 0 l)).take (HT.sIx xs.length xs.length h-HT.sIx xs.length 0 l)
noncomputable def oSl (w:W) (l h:Option Int):Option (W×Bool):=match w with
 |.lst a=>#v[(cutW a l h),2]
 |.frl a=>#v[(cutW a l h),2]
 |.tup a=>#v[(cutW a l h),3]
 |_=>Zb
noncomputable def rSlB (K:Zg):V->Option Int->Option Int->Hp->VK->Prop:=λx l h H Q=>(rSlL K x l h H Q\/rSlT K x l h H Q)\/rSlW K x l h H Q
theorem z7x {g f:Option Int} (s:Same F H) (r:RepB K F H w v) (e:oSl w g f=Za rv) (q:∀u H',Out K F H rv u H'->Q u H'):rSlB K v g f H Q:=by
 have cut:∀{c:List W}{b:List V},Reps K F c b->Reps K F (cutW c g f) (cutV b g f):=λ{c b} p=>by
  unfold cutW cutV;rw[<-p.length];exact (p.drop _).take _
 cases w with
 |lst c=>obtain rfl:=sI e;obtain⟨a,b,d,h,p⟩:=r.lst s;exact .inl (.inl ⟨a,b,d,SqL.of' h,λl i=>q _ _ (.lst i (cut p))⟩)
 |frl c=>obtain rfl:=sI e;obtain⟨a,b,d,h,p⟩:=r.frl s;exact .inl (.inl ⟨a,b,d,h,λl i=>q _ _ (.lst i (cut p))⟩)
 | tup c =>
  obtain rfl:=sI e;obtain⟨a,b,d,h,k,p⟩:=r.tup s;by_cases y:HT.sIx b.length 0 g=0/\HT.sIx b.length b.length f=b.length
  ·refine .inr ⟨a,b,d,.inl (.inl h),y.1,y.2, ?_⟩
   have j:cutW c g f=c:=by
    unfold cutW;rw[p.length,y.1,y.2,Es,Nat.sub_zero,<-p.length,Cn]
   rw[j] at q;subst d;exact q _ _ (.val (.tup k p))
  ·exact .inl (.inr ⟨a,b,d,.inl (.inl h),y,λl i=>q _ _ (.tup i (cut p))⟩)
 |_=>exact noSome e
noncomputable def gSl (a:GA) (c b:GO):GE:=λe=>(a e).bind λp=>(c p.1).bind λl=>(b l.1).bind λh=>(resA h.1 p.2).bind λw=>(oSl w l.2 h.2).bind λr=>Za (h.1,r)
theorem z5j {g d:GO}(h:tE K (gSl a g d) σ H Q):tSl (rSlB K) (tA K a) (tO K g) (tO K d) σ H Q:=by
 nofun;obtain⟨F,p,o,C,S,R,h,q⟩:=h;obtain⟨⟨f,x⟩,t,h⟩:=bS h;obtain⟨⟨e,l⟩,m,h⟩:=bS h;obtain⟨⟨k,u⟩,B,h⟩:=bS h;obtain⟨N,c,h⟩:=bS h;obtain⟨T,n,h⟩:=bS h;refine qG ?_;cases h;refine⟨F,p,o,f,x,R,t,λD P L A r j=>⟨D,p,f,e,l,r,m,λw M s R2=>⟨w,p,e,k,u,R2,B,λO U i b=>?_⟩⟩⟩;refine z7x b.sub ((j.mono (s.trans i)).repB b c) n λv G z=>?_;nofun;obtain⟨J,I,E,y⟩:=z.close b;ac_rfl;exact q J G v (A.trans (s.trans (i.trans I))) E y
end
structure ItOk (K:Zg) (F:Hp) (J:It) (ws:List W):Prop where
 go:∀i H,Same F H->i<ws.length->J.go i H
 stop:∀H,Same F H->J.stop ws.length H
 yld:∀i H x H',Same F H->i<ws.length->J.yld i H x H'->∃w,ws[i]?=Za w/\Out K F H (w,Zc) x H'
noncomputable def tI (K:Zg) (g:GL):TI:=λσ H R=>∃F p c e w,Rel K F p c σ H/\g c=Za (e,w)/\∀a b J,Same F a->Rel K a p e σ b->ItOk K a J w->R J b
section
variable {K:Zg}
theorem zb9 (s:Same F F')(h:SqT K F a vs):SqT K F' a vs:=by
 rcases h with (h|⟨o,h⟩)|h
 ·exact .inl (.inl (s _ _ h))
 ·exact .inl (.inr ⟨o,s _ _ h⟩)
 ·exact .inr h
theorem zog (h:SqL K F a vs)(r:Reps K F ws vs):ItOk K F (Itl K a) ws where
 go:=λi H s b=>⟨vs,vs[i]'(by rw[<-r.length];exact b),s.seq h,by rw[Ad]⟩
 stop:=λH s=>⟨vs,s.seq h,by rw[r.length];exact Ag _⟩
 yld:=λi H x c s b y=>by
  obtain⟨e,y⟩:=y;subst e;obtain⟨w,e,q⟩:=r.getV (y vs (s.seq h));exact⟨w,e,.val q⟩
theorem ybk (h:SqT K F a vs)(r:Reps K F ws vs):ItOk K F (Itt K a) ws where
 go:=λi H s b=>⟨vs,vs[i]'(by rw[<-r.length];exact b),zb9 s h,by rw[Ad]⟩
 stop:=λH s=>⟨vs,zb9 s h,by rw[r.length];exact Ag _⟩
 yld:=λi H x c s b y=>by
  obtain⟨e,y⟩:=y;subst e;obtain⟨w,e,q⟩:=r.getV (y vs (zb9 s h));exact⟨w,e,.val q⟩
noncomputable def rngW (l:Int) (n:Nat):List W:=(List.range n).map λk=>W.int (l+(k:Nat))
theorem zpj (l:Int)(n:Nat):ItOk K F (Itr l n) (rngW l n) where
 go:=λi H s h=>by unfold rngW at h;rw[Af,Cq] at h;exact h
 stop:=λH s=>by unfold rngW;rw[Af,Cq];exact Ag n
 yld:=λi H x a s h y=>by
  obtain⟨e,y⟩:=y;subst e y;unfold rngW at h ⊢;rw[Af,Cq] at h;exact⟨_,by rw[Ar,List.getElem?_range h];rfl,.val (.int _)⟩
noncomputable def zfu (ws:List W) (k:Nat):List W:=match ws with
 |[]=>[]
 |w::ws=>.tup [.int k,w]::zfu ws (k+1)
theorem zci:∀(ws:List W) (k:Nat),(zfu ws k).length=ws.length
 |[],_=>rfl
 |_::ws,k=>congrArg (· + 1) (zci ws (k+1))
theorem zej:∀{ws:List W}{k i:Nat}{w:W},ws[i]?=Za w->(zfu ws k)[i]?=Za (.tup [.int (k+i:Nat),w])
 |[],_,_,_,e=>by simp at e
 |w::ws,k,0,_,e=>by simp at e;subst e;rfl
 | w::ws,k,i+1,u,e=>by
  have:=zej (k:=k+1) (by simpa using e);show (zfu ws (k+1))[i]?=_;rw[this];have:k+1+i=k+(i+1):=by symm
  rw[this]
theorem z34 (h:SqL K F a vs)(r:Reps K F ws vs):ItOk K F (Ite K a) (zfu ws 0) where
 go:=λi H s b=>by rw[zci] at b;exact⟨vs,vs[i]'(by rw[<-r.length];exact b),s.seq h,by rw[Ad]⟩
 stop:=λH s=>⟨vs,s.seq h,by rw[zci,r.length];exact Ag _⟩
 yld:=λi H x f s b y=>by
  nofun;obtain⟨p,v,e,d,c,y⟩:=y;refine qG ?_;subst e c;obtain⟨w,e,q⟩:=r.getV (y vs (s.seq h));refine⟨_,zej e,?_⟩;rw[Ct];exact .tup d (.cons (.int _) (.cons q .nil))
theorem z9a (h:SqL K F a vs)(r:Reps K F ws vs):ItOk K F (Itv K a vs.length) ws.reverse where
 go:=λi H s b=>by rw[Fz,r.length] at b;exact⟨b,vs,s.seq h,rfl⟩
 stop:=λH s=>by rw[Fz,r.length];rfl
 yld:=λi H x c s b y=>by
  obtain⟨e,y⟩:=y;subst e;obtain⟨w,e,q⟩:=r.getV (y vs (s.seq h));refine⟨w,?_,.val q⟩;rw[Fz] at b;rw[List.getElem?_reverse b,r.length];exact e
end
section
noncomputable def iSeq (K:Zg) (t:TE):TI:=λσ H R=>t σ H λx b=>∃a,x=.ref a/\((∃c,SqL K b a c)/\R (Itl K a) b\/(∃c,SqT K b a c)/\R (Itt K a) b)
theorem z2z (n:PE X l tl):PI X tg l (iSeq X.K tl):=λpins s σ H R I h =>
 thn (n pins s σ H _ I h) λv d ⟨x,g,c,r,a,e,k⟩=>by
  subst e;cases r;have fp:∀b∈[d.heap.objs.size],FpOk X pins g b:=λb j=>by
   rw[Aw] at j;subst j;exact c.fpOk (Ag _) (c.hok.fresh (Ag _))
  rcases k with⟨⟨m,f⟩,q⟩|⟨⟨m,f⟩,q⟩
  ·obtain⟨i,_,p,_⟩:=c.list f;exact Ep p.isList ⟨_,_,_,_,g,rfl,c.kept (t':=d.toks) λb o e=>Ab _ e,zw5 a _,⟨_,An _ rfl,rfl,rfl⟩,fp,q⟩
  ·obtain⟨i,_,p,_⟩:=c.tuple f;exact Gp (show d.heap.IsTuple a i.toArray from p) ⟨_,_,_,_,g,rfl,c.kept (t':=d.toks) λb o e=>Ab _ e,zqt a _,⟨_,An _ rfl,rfl,rfl⟩,fp,q⟩
end
noncomputable def zax (g:GE):GL:=λe=>(g e).bind λp=>(seqW p.2.1).bind λw=>Za (p.1,w)
noncomputable def zd0 (i:Int):Bool:=decide (-(2^62)<=i)&&decide (i<2^62)
noncomputable def zcw (as:GAs):GL:=λe=>(as e).bind λp=>match za4 p.1 p.2 with
 |some [.int j]=>if zd0 j then Za (p.1,rngW 0 j.toNat) else Zb
 |_=>Zb
noncomputable def zu7 (as:GAs):GL:=λe=>(as e).bind λp=>match za4 p.1 p.2 with
 |some #v[9,15]=>if zd0 i&&zd0 j then Za (p.1,rngW i (j-i).toNat) else Zb
 |_=>Zb
noncomputable def gRev (g:GE):GL:=λe=>(g e).bind λp=>(seqL p.2.1).bind λw=>Za (p.1,w.reverse)
theorem zdl (h:zd0 i=Zd):-(2^62)<=i/\i<2^62:=by
 unfold zd0 at h;rw[Ac] at h;exact⟨Ao h.1,Ao h.2⟩
section
variable {K:Zg}
theorem zlq (h:tI K (zax g) σ H R):iSeq K (tE K g) σ H R:=by
 nofun;obtain⟨F,p,f,k,m,Re,h,q⟩:=h;obtain⟨⟨i,e⟩,j,h⟩:=bS h;obtain⟨u,a,h⟩:=bS h;refine qG ?_;cases h;refine⟨F,p,f,i,e,Re,j,λn b v c l z=>?_⟩;nofun;obtain⟨d,s,R2,y⟩:=z.freeze l;obtain⟨w,fl⟩:=e;ac_rfl;cases w with
 | lst x=>obtain rfl:=sI a;cases y with
  |lst y r=>exact⟨_,rfl,.inl ⟨⟨_,SqL.of' (R2.sub _ _ y)⟩,q d b _ (c.trans s) R2 (zog (SqL.of' y) r)⟩⟩
 | frl x=>obtain rfl:=sI a;cases y with
  |frl y r=>exact⟨_,rfl,.inl ⟨⟨_,R2.sub.seq y⟩,q d b _ (c.trans s) R2 (zog y r)⟩⟩
 | tup x=>obtain rfl:=sI a;cases y with
  |tup y r=>exact⟨_,rfl,.inr ⟨⟨_,.inl (.inl (R2.sub _ _ y))⟩,q d b _ (c.trans s) R2 (ybk (.inl (.inl y)) r)⟩⟩
 |_=>cases a
theorem zsc (h:tI K (zcw as) σ H R):z9l (tAs K as) σ H R:=by
 nofun;obtain⟨F,p,l,g,w,Re,h,q⟩:=h;obtain⟨⟨a,x⟩,k,h⟩:=bS h;refine qG ?_;refine⟨F,p,l,a,x,Re,k,λf i m s b d=>?_⟩;cases e:za4 a x with
 |none=>simp only [e] at h;exact noSome h
 | some u =>
  have r:=d.repBs b e
  match u,e,r with
  | [.int j],e,r =>
   simp only [e] at h;split at h
   ·rename_i z
    cases h;obtain⟨v,a,c⟩:=r.one;subst a;exact⟨j,by rw[c.int],(zdl z).1,(zdl z).2,q f i _ s b (zpj 0 j.toNat)⟩
   ·exact noSome h
  |[],e,_=>simp only [e] at h;exact noSome h
  |.non::_,e,_=>simp only [e] at h;exact noSome h
  |.bl _::_,e,_=>simp only [e] at h;exact noSome h
  |.str _::_,e,_=>simp only [e] at h;exact noSome h
  |.tup _::_,e,_=>simp only [e] at h;exact noSome h
  |.lst _::_,e,_=>simp only [e] at h;exact noSome h
  |.frl _::_,e,_=>simp only [e] at h;exact noSome h
  |.dic::_,e,_=>simp only [e] at h;exact noSome h
  |.dct _ _::_,e,_=>simp only [e] at h;exact noSome h
  |.dcz _ _::_,e,_=>simp only [e] at h;exact noSome h
  |.int _::_::_,e,_=>simp only [e] at h;exact noSome h
theorem zv2 (h:tI K (zu7 as) σ H R):z8y (tAs K as) σ H R:=by
 nofun;obtain⟨F,p,g,n,w,Re,h,q⟩:=h;obtain⟨⟨a,x⟩,m,h⟩:=bS h;refine qG ?_;refine⟨F,p,g,a,x,Re,m,λo l t s c f=>?_⟩;cases e:za4 a x with
 |none=>simp only [e] at h;exact noSome h
 | some u =>
  have r:=f.repBs c e;simp only [e] at h;split at h
  ·rename_i i j k
   obtain rfl:=sI k;split at h
   ·rename_i z
    rw[Ac] at z;cases h;nofun;obtain⟨v,y,a,d,b⟩:=r.two;refine qG ?_;subst a;exact⟨i,j,by rw[d.int,b.int],⟨(zdl z.1).1,(zdl z.1).2,(zdl z.2).1,(zdl z.2).2⟩,q o l _ s c (zpj i (j-i).toNat)⟩
   ·exact noSome h
  ·exact noSome h
theorem zmw (y:Rep K F w v) (h:seqL w=Za ws):∃a vs,v=.ref a/\SqL K F a vs/\Reps K F ws vs:=by
 cases w with
 | lst x=>obtain rfl:=sI h;cases y with
  |lst y r=>exact⟨_,_,rfl,SqL.of' y,r⟩
 | frl x=>obtain rfl:=sI h;cases y with
  |frl y r=>exact⟨_,_,rfl,y,r⟩
 |_=>cases h
theorem z1b (h:tI K (gRev g) σ H R):iRev K (ze8 (tE K g) tNil) σ H R:=by
 nofun;obtain⟨F,p,d,o,w,Re,h,q⟩:=h;obtain⟨⟨f,t⟩,k,h⟩:=bS h;obtain⟨u,n,h⟩:=bS h;refine qG ?_;cases h;refine⟨F,p,d,f,t,Re,k,λx j v l i z=>?_⟩;nofun;obtain⟨m,s,R2,y⟩:=z.freeze i;obtain⟨a,c,e,b,r⟩:=zmw y n;ac_rfl;subst e;exact⟨a,c,rfl,R2.sub.seq b,q m j _ (l.trans s) R2 (z9a b r)⟩
end
inductive Tg where
 |nm (i:Nat)
 |tp (is:List Nat)
 |nt (i:Nat) (js:List Nat)
noncomputable def setAll (mp:List Nat):List Nat->List W->En->Option En
 |[],[],e=>Za e
 |i::a,w::b,e=>if mp.contains i || !decide (i<e.length) then Zb else setAll mp a b (e.set i (#v[w,6]))
 |_,_,_=>Zb
noncomputable def tgSet (mp:List Nat):Tg->W->En->Option En
 |.nm i,w,e=>if mp.contains i || !decide (i<e.length) then Zb else Za (e.set i (#v[w,6]))
 |.tp b,.tup a,e=>setAll mp b a e
 |.tp b,.lst a,e=>setAll mp b a e
 |.nt i j,.tup [w,.tup a],e=>if mp.contains i || !decide (i<e.length) then Zb else setAll mp j a (e.set i (#v[w,6]))
 |_,_,_=>Zb
noncomputable def zic:List Nat->TGs
 |[]=>gNil
 |i::a=>z1e (zm8 i) (zic a)
noncomputable def ztu (K:Zg) (n:Nat) (t:TGs):TG:=λv σ H Q=>∃a x,v=.ref a/\(SqT K H a x\/SqL K H a x)/\x.length=n/\t x σ H Q
theorem zts (j:X.calm=Zd)(h:PGs X es t)(g:(assignEach es X.env).length=n)(c:(assignEach es X.env).findIdx? (·.1)=Zb):PG X (.Tuple es k pos) (ztu X.K n t):=by
 intro pins s σ H v u Q I r f;nofun;obtain⟨a,x,l,d,p,f⟩:=f;refine qG ?_;rcases d with d|d
 ·exact z82 j h g c pins s σ H v u Q I r ⟨a,x,l,d,p,f⟩
 ·subst l;cases r;nofun;obtain⟨i,q,⟨o,m,z,w,_,B⟩,E⟩:=I.list d;refine qG ?_;refine Aa (Fs ?_);unfold unpack;have A:(assignEach es X.env).length=i.toArray.size:=by rw[Ai,g,<-p,q.length]
  rw[A,c];refine Aa (Bh (PySem.W.kun_itemsOf (I.ok.hd j) ⟨o,z,w,m,B⟩ λD C=>?_));have y:=I.kept (t':=s.toks) λb o e=>C b o (Ba (Am e)) e;exact h pins _ σ H x _ Q y (by simpa using q) f
noncomputable def TGof (K:Zg):Tg->TG
 |.nm i=>zm8 i
 |.tp a=>ztu K a.length (zic a)
 |.nt i j=>ztu K 2 (z1e (zm8 i) (z1e (ztu K j.length (zic j)) gNil))
noncomputable def Keep (mp:List Nat) (σ a:St):Prop:=∀i∈mp,a[i]?=σ[i]?
theorem Keep.refl (mp:List Nat)(σ:St):Keep mp σ σ:=λ_ _=>rfl
theorem Keep.trans (a:Keep mp σ σ1)(b:Keep mp σ1 σ2):Keep mp σ σ2:=λi h=>(b i h).trans (a i h)
theorem Keep.set (h:mp.contains i=Zc)(v:Option V):Keep mp σ (σ.set i v):=λj a=>by
 have:i≠j:=λe=>by subst e;rw[Dc.mpr a] at h;cases h
 exact Dg this
section
variable {K:Zg}
theorem zd4:∀{b:List Nat}{ws:List W}{vs:List V}{en en':En}{σ:St},Rel K F pr en σ H->Reps K F ws vs->setAll mp b ws en=Za en'->(∀a,Rel K F pr en' a H->Keep mp σ a->Q a H)->zic b vs σ H Q
 |[],[],_,en,en',σ,R,.nil,h,q=>by obtain rfl:=sI h;exact⟨rfl,q σ R (.refl _ _)⟩
 | i::b,w::ws,_,en,en',σ,R,.cons (v:=v) (vs:=vs) h0 r,h,q=>by
  unfold setAll at h;split at h
  ·exact noSome h
  ·rename_i z
   rw[Bx,not_or,Bj,Bj,Df] at z;refine⟨v,vs,rfl,?_⟩;exact zd4 (R.store (r:=(w,Zc)) h0 (Ao z.2)) r h λa c k=>q a c ((Keep.set z.1 _).trans k)
 |[],_::_,_,_,_,_,_,_,h,_=>by exact noSome h
 |_::_,[],_,_,_,_,_,_,h,_=>by exact noSome h
theorem zr7:∀(a:List Nat) (ws:List W) (en en':En),setAll mp a ws en=Za en'->a.length=ws.length:=by
 intro a
 induction a with
 | nil=>intro ws en en' h;cases ws with
  |nil=>rfl
  |cons _ _=>exact noSome h
 | cons i a b=>intro ws en en' h;cases ws with
  |nil=>exact noSome h
  | cons w ws =>
   unfold setAll at h;split at h
   ·exact noSome h
   ·exact congrArg (· + 1) (b _ _ _ h)
theorem zt2 (R:Rel K F pr en σ H)(b:Rep K F (.tup ws) v)(h:setAll mp is ws en=Za en')(q:∀a,Rel K F pr en' a H->Keep mp σ a->Q a H):ztu K is.length (zic is) v σ H Q:=by
 cases b with
 |tup c r=>exact⟨_,_,rfl,.inl (.inl (.inl (R.sub _ _ c))),by rw[zr7 is ws en en' h,r.length],zd4 R r h q⟩
theorem zno (R:Rel K F pr en σ H) (b:Rep K F w v) (h:tgSet mp T w en=Za en') (q:∀a,Rel K F pr en' a H->Keep mp σ a->Q a H):TGof K T v σ H Q:=by
 cases T with
 | nm i =>
  unfold tgSet at h;simp only at h;split at h
  ·exact noSome h
  ·rename_i z
   rw[Bx,not_or,Bj,Bj,Df] at z;obtain rfl:=sI h;exact q _ (R.store b (Ao z.2)) (Keep.set z.1 _)
 | tp f =>
  cases w with
  |tup d=>exact zt2 R b h q
  | lst d =>
   cases b with
   | lst c r =>
    exact⟨_,_,rfl,.inr (SqL.of' (R.sub _ _ c)),by rw[zr7 f d en en' h,r.length],zd4 R r h q⟩
  |_=>exact noSome h
 | nt i o =>
  unfold tgSet at h;split at h
  ·rename_i e;cases e
  ·rename_i e;cases e
  ·rename_i e;cases e
  ·rename_i s l u p g
   cases g;cases b with
   | tup c r =>
    cases r with
    | cons j r =>
     cases r with
     | cons n r =>
      cases r;split at h
      ·exact noSome h
      ·rename_i z
       rw[Bx,not_or,Bj,Bj,Df] at z;exact⟨_,_,rfl,.inl (.inl (.inl (R.sub _ _ c))),rfl,_,_,rfl,_,_,rfl,zt2 (R.store (r:=(u,Zc)) j (Ao z.2)) n h λa m k=>⟨rfl,q a m ((Keep.set z.1 _).trans k)⟩⟩
  ·exact noSome h
end
inductive Fl where
 |nx|ret (r:W×Bool)|brk|cnt
noncomputable abbrev GS:=En->Option (En×Fl)
noncomputable def zyv (K:Zg) (mp:List Nat) (F:Hp) (p:Prt) (σ:St) (D:Ends) (en':En):Fl->Prop
 |.nx=>∀b a H,Same F b->Rel K b p en' a H->Keep mp σ a->D.nx a H
 |.brk=>∀b a H,Same F b->Rel K b p en' a H->Keep mp σ a->D.bk a H
 |.cnt=>∀b a H,Same F b->Rel K b p en' a H->Keep mp σ a->D.ct a H
 |.ret r=>∀b a H v,Same F b->Rel K b p en' a H->Keep mp σ a->Res K b H p en' a r v->D.rt v H
noncomputable def tS (K:Zg) (mp:List Nat) (g:GS):TS:=λD σ H=>∃F p a e fl,Rel K F p a σ H/\g a=Za (e,fl)/\zyv K mp F p σ D e fl
theorem zyv.step {K:Zg}(s:Same F F1)(k:Keep mp σ σ1)(h:zyv K mp F pr σ D en' fl):zyv K mp F1 pr σ1 D en' fl:=by
 cases fl with
 |nx=>exact λd a H b R c=>h d a H (s.trans b) R (k.trans c)
 |brk=>exact λd a H b R c=>h d a H (s.trans b) R (k.trans c)
 |cnt=>exact λd a H b R c=>h d a H (s.trans b) R (k.trans c)
 |ret r=>exact λd a H v b R c z=>h d a H v (s.trans b) R (k.trans c) z
noncomputable def zc7:GS:=λe=>Za (e,.nx)
noncomputable def gBrk:GS:=λe=>Za (e,.brk)
noncomputable def gCnt:GS:=λe=>Za (e,.cnt)
noncomputable def gSeq (a b:GS):GS:=λc=>match a c with
 |some (e,.nx)=>b e
 |some (e,f)=>Za (e,f)
 |none=>Zb
noncomputable def gRet (g:GE):GS:=λe=>(g e).bind λp=>Za (p.1,.ret p.2)
noncomputable def yct:GS:=λe=>Za (e,.ret (.non,Zc))
noncomputable def gIfS (c:GT) (a b:GS):GS:=λd=>match c d with
 |#v[e,5]=>a e
 |#v[e,6]=>b e
 |none=>Zb
noncomputable def zfj (g:GE):GS:=λe=>(g e).bind λp=>Za (p.1,.nx)
noncomputable def gSet (mp:List Nat) (i:Nat) (g:GE):GS:=λe=>(g e).bind λp=>if mp.contains i || !decide (i<p.1.length) then Zb else Za (p.1.set i (Za p.2),.nx)
noncomputable def gAsg (mp:List Nat) (T:Tg) (g:GE):GS:=λa=>(g a).bind λp=>(tgSet mp T p.2.1 p.1).bind λe=>Za (e,.nx)
section
variable {K:Zg}
theorem zmc (h:tS K mp zc7 D σ H):z37 D σ H:=by
 obtain⟨F,p,a,e,fl,R,h,q⟩:=h;cases h;exact q F σ H (.refl F) R (.refl _ _)
theorem z08 (h:tS K mp (gSeq a b) D σ H):tSeq (tS K mp a) (tS K mp b) D σ H:=by
 nofun;obtain⟨F,f,d,c,fl,R,h,q⟩:=h;refine qG ?_;unfold gSeq at h;cases e:a d with
 |none=>simp only [e] at h;exact noSome h
 | some p =>
  obtain⟨g,i⟩:=p;refine⟨F,f,d,g,i,R,e,?_⟩;cases i with
  | nx =>
   simp only [e] at h;exact λj σ1 m s l k=>⟨j,f,g,c,fl,l,h,q.step s k⟩
  |brk=>simp only [e] at h;cases h;exact q
  |cnt=>simp only [e] at h;cases h;exact q
  |ret r=>simp only [e] at h;cases h;exact q
theorem zqa (h:tS K mp (gRet g) D σ H):tRet (tE K g) D σ H:=by
 nofun;obtain⟨F,p,f,c,fl,R,h,q⟩:=h;obtain⟨⟨e,r⟩,d,h⟩:=bS h;refine qG ?_;cases h;exact⟨F,p,f,e,r,R,d,λi a v s b z=>q i σ a v s b (.refl _ _) z⟩
theorem zx4 (h:tS K mp (gIfS c a b) D σ H):tIfS (tT K c) (tS K mp a) (tS K mp b) D σ H:=by
 nofun;obtain⟨F,g,j,f,fl,R,h,q⟩:=h;refine qG ?_;unfold gIfS at h;cases e:c j with
 |none=>simp only [e] at h;exact noSome h
 | some p =>
  obtain⟨i,d⟩:=p;refine⟨F,g,j,i,d,R,e,λk m s l=>?_⟩;cases d with
  |true=>simp only [e] at h;exact iteT ⟨k,g,i,f,fl,l,h,q.step s (.refl _ _)⟩
  |false=>simp only [e] at h;exact iteF ⟨k,g,i,f,fl,l,h,q.step s (.refl _ _)⟩
theorem zu5 (h:tS K mp (zfj g) D σ H):z8c (tE K g) D σ H:=by
 nofun;obtain⟨F,p,f,c,fl,R,h,q⟩:=h;obtain⟨⟨e,r⟩,d,h⟩:=bS h;refine qG ?_;cases h;exact⟨F,p,f,e,r,R,d,λi a v s b z=>q i σ a s b (.refl _ _)⟩
theorem zin (h:tS K mp (gSet mp i g) D σ H):tAsg (tE K g) (zm8 i) D σ H:=by
 nofun;obtain⟨F,p,f,c,fl,R,h,q⟩:=h;obtain⟨⟨e,r⟩,d,h⟩:=bS h;refine qG ?_;split at h
 ·exact noSome h
 ·rename_i z;rw[Bx,not_or,Bj,Bj,Df] at z;cases h;exact⟨F,p,f,e,r,R,d,λj a v s b y=>q j _ a s (b.store y (Ao z.2)) (Keep.set z.1 _)⟩
theorem z1g (h:tS K mp (gAsg mp T g) D σ H):tAsg (tE K g) (TGof K T) D σ H:=by
 nofun;obtain⟨F,p,e,f,fl,R,h,q⟩:=h;obtain⟨⟨c,r⟩,m,h⟩:=bS h;obtain⟨t,b,h⟩:=bS h;refine qG ?_;cases h;refine⟨F,p,e,c,r,R,m,λo j v l i y=>?_⟩;nofun;obtain⟨n,s,R2,z⟩:=y.freeze i;ac_rfl;exact zno R2 z b λa d k=>q n a j (l.trans s) d k
noncomputable def gPar (mp:List Nat) (i j:Nat) (a b:GE):GS:=λe=>(a e).bind λp=>(b p.1).bind λq=>if mp.contains i||mp.contains j || !decide (i<q.1.length) || !decide (j<q.1.length) then Zb else Za ((q.1.set i (#v[p.2.1,6])).set j (Za q.2),.nx)
theorem zy7 (h:tS K mp (gPar mp i j a b) D σ H):tPar i j (ze8 (tE K a) (ze8 (tE K b) tNil)) D σ H:=by
 nofun;obtain⟨F,p,J,Z,fl,R,h,q⟩:=h;obtain⟨⟨m,d⟩,S,h⟩:=bS h;obtain⟨⟨l,c⟩,A,h⟩:=bS h;refine qG ?_;split at h
 ·exact noSome h
 ·rename_i z
  simp only [Bx,not_or,Bj,Df,Cc] at z;refine aG λ_ qG=>?_;obtain ⟨⟨⟨z1,z2⟩,u⟩,C⟩:=z;refine qG ?_;cases h;refine ⟨F,p,J,m,d,R,S,λF1 H1 v T Q L=>?_⟩;refine aG λ_ qG=>?_;obtain ⟨U,M,R2,G⟩:=L.freeze Q;refine qG ?_;clear qG;refine ⟨U,p,m,l,c,R2,A,λn t s w B o=>⟨v,s,rfl,?_⟩⟩;have O:=B.store (r:=(d.1,Zc)) (G.mono w) u;have y:Res K n t p (l.set i (Za (d.1,Zc))) (σ.set i (Za v)) c s:=by
   obtain⟨w2,f⟩:=c;cases f with
   |false=>exact o
   | true =>
    nofun;obtain⟨a,E,W,N,I,Y,x,q5,P,X⟩:=o;refine qG ?_;refine⟨a,E,W,N,I,Y,x,q5,λk V hk=>?_,X⟩;rcases zce u hk with⟨_,e⟩|⟨g,e⟩
    ·cases e
    ·rw[Dg (Ne.symm g)];exact P k V e
  exact q n _ t (T.trans (M.trans w)) (O.store y (by rw[Ee];exact C)) ((Keep.set z1 _).trans (Keep.set z2 _))
noncomputable def za1 (i:Nat) (k:GE) (g:GE):GS:=λe=>(g e).bind λp=>match p.1[i]? with
 | some (Za _)=>(k p.1).bind λq=>match q.2,q.1[i]? with
  |(.int n,_),Za (#v[w,2])=>(ixN w.length n).bind λj=>Za (q.1.set i (#v[(w.set j p.2.1),2]),.nx)
  |_,_=>Zb
 |_=>Zb
theorem zry (h:tS K mp (za1 i k g) D σ H):tAsg (tE K g) (gSub (tVar i) (tE K k) yaj) D σ H:=by
 obtain⟨F,p,y,P,fl,R,h,q⟩:=h;obtain⟨⟨m,E⟩,J,h⟩:=bS h;refine⟨F,p,y,m,E,R,J,λY W U M I z=>?_⟩;obtain⟨L,B,R2,x⟩:=z.freeze I;split at h
 ·rename_i V c;obtain⟨⟨A,w⟩,r,h⟩:=bS h;obtain⟨v,b⟩:=R2.has c;refine⟨v,b,L,p,m,A,w,R2,r,λG H3 Z s f N=>?_⟩;split at h
  ·rename_i n u X d e;subst d;obtain⟨j,S,h⟩:=bS h;cases h;obtain⟨a,t,Q,C,l,O,T,o⟩:=f.ownL e;cases C;rw[b] at l;cases l;refine⟨a,t,n,j,rfl,N.isInt,O,by rw[<-o.length];exact S,?_⟩;exact q G σ _ (M.trans (B.trans s)) (f.change e b (o.set (x.mono s) j)) (.refl _ _)
  ·exact noSome h
 ·exact noSome h
noncomputable def gApp (i:Nat) (g:GE):GE:=λe=>match e[i]? with
 | some (Za (.lst _,Zd))=>(g e).bind λp=>match p.1[i]? with
  |some (#v[w,2])=>if w.length<sizeLine then Za (p.1.set i (#v[(w++[p.2.1]),2]),(.non,Zc)) else Zb
  |_=>Zb
 |_=>Zb
theorem zx2 (h:tE K (gApp i g) σ H Q):tBM K "list" zsg (tVar i) (ze8 (tE K g) tNil) σ H Q:=by
 nofun;obtain⟨F,j,n,D,r,R,h,q⟩:=h;refine qG ?_;unfold gApp at h;split at h
 ·rename_i J d;nofun;obtain⟨a,k,w,L,c,C,I,S⟩:=R.ownL d;obtain⟨⟨t,o⟩,z,h⟩:=bS h;refine qG ?_;refine⟨.ref a,c,.inl ⟨rfl,k,SqL.of' C⟩,F,j,n,t,o,R,z,λP N m B u y=>?_⟩;nofun;obtain⟨A,s,R2,x⟩:=y.freeze u;ac_rfl;split at h
  ·rename_i O b;split at h
   ·rename_i G;cases h;nofun;obtain⟨T,v,E,f,e,l,M,p⟩:=R2.ownL b;refine qG ?_;cases f;rw[c] at e;cases e;refine⟨a,v,m,rfl,rfl,l,by rw[<-p.length];exact G,?_⟩;exact q A _ _ (B.trans s) (R2.change b c (p.append (.cons x .nil))) .non
   ·exact noSome h
  ·exact noSome h
 ·exact noSome h
noncomputable def gExt (i:Nat) (g:GE):GE:=λe=>match e[i]? with
 | some (Za (.lst _,Zd))=>(g e).bind λp=>match p.2.1,p.1[i]? with
  |.lst u,Za (#v[w,2])=>if w.length+u.length<=sizeLine then Za (p.1.set i (#v[(w++u),2]),(.non,Zc)) else Zb
  |_,_=>Zb
 |_=>Zb
noncomputable def gAug (mp:List Nat) (o:O2) (i:Nat) (g:GA):GS:=λe=>match e[i]? with
 |some (#v[w,6])=>(g e).bind λp=>(resA p.1 p.2).bind λu=>(o w u).bind λr=>if mp.contains i || !decide (i<p.1.length) then Zb else Za (p.1.set i (Za r),.nx)
 |_=>Zb
theorem zqn (e:OpS K r o)(h:tS K mp (gAug mp o i g) D σ H):tAug i (tA K g) r D σ H:=by
 nofun;obtain⟨F,p,l,C,fl,R,h,q⟩:=h;refine qG ?_;unfold gAug at h;split at h
 ·rename_i w I;nofun;obtain⟨v,c,b⟩:=R.val i w I;obtain⟨⟨n,x⟩,B,h⟩:=bS h;obtain⟨u,M,h⟩:=bS h;obtain⟨L,j,h⟩:=bS h;refine qG ?_;split at h
  ·exact noSome h
  ·rename_i z;rw[Bx,not_or,Bj,Bj,Df] at z;cases h;refine⟨v,c,F,p,l,n,x,R,B,λE A k s a d=>?_⟩;refine e E A w u v k L _ a.sub (.inl (b.mono s)) (d.repB a M) j λN m G=>?_;nofun;obtain⟨t,J,f,y⟩:=G.close a;refine qG ?_;exact q t _ m (s.trans J) (f.store y (Ao z.2)) (Keep.set z.1 _)
 ·exact noSome h
theorem znf {T id:String} (g:s.TypeIs a T) (j:s.TypeIs b T)
  (i:typeLookup (.type T) (dunderI "add")=pure (Za (.builtin id))) (e:isSeqSlotId id=Zd) (h:fillsNumberSlot (.type T) "add" = pure Zc)
  (k:wpAny M A (call (.builtin id) [a,b]) Q E s):wpAny M A (inplaceOp .Add a b) Q E s:=by
 refine Bh ?_;have c:fillsInplaceSlot (.type T) "add" (Operator.Add==.Add)=pure Zc:=by
  show (typeLookup (.type T) (dunderI "add")>>=λf=>pure (f.isSome && !isSeqSlot f))=pure Zc;rw[i,pure_bind];show pure (Zd && !isSeqSlotId id)=pure Zc;rw[e];rfl
 have d:seqSlot? (.type T) (dunderI "add")=pure (Za (.builtin id)):=by
  unfold seqSlot?;rw[i];show (if (!isSeqSlotId id)=Zd then _ else _)=_;rw[e];rfl
 refine Aa (wpAny_typeOf g (Aa (Gr c ?_)));refine Aa (wpAny_binaryOp1_none g j h ?_);refine Aa (Gr d ?_);exact Aa (Cd k)
noncomputable def z3s:R2:=λx y H Q=>∃l b a z,x=.ref l/\y=.ref b/\H l=Za (.lst a)/\H b=Za (.lst z)/\a.length+z.length<=sizeLine/\Q (.ref l) (upd H l (.lst (a++z)))
theorem z3c:PIp X .Add z3s:=by
 intro pins s σ H x y v u Q I k j h;obtain⟨l,b,w,t,rfl,rfl,g,hB,C,q⟩:=h;cases k;cases j;obtain⟨z,a,n,r,A,e⟩:=I.lstM g;obtain⟨B,i,o,m,p,f⟩:=I.lstM hB;have d:a.toArray.size+i.toArray.size<=sizeLine:=by rw[Ai,Ai];symm
 have c:¬ (!a.toArray.isEmpty&&Builtin.List.listTooLong (a.toArray.size+i.toArray.size))=Zd:=by
  rw[zje d,Hl];exact As
 refine znf ⟨_,e,rfl⟩ ⟨_,f,rfl⟩ F.slot_list_iadd.lookup #v[0,0,7] noFill_list_add ?_;refine Hr F.slot_list_iadd ⟨_,e,rfl⟩ F.entry_list_iadd (F.args_list_iadd_2 _ _)
  (AutoSeq1.list___iadd___list_list_0 l a.toArray n b i.toArray o c (by rw[Ai];symm) #v[]) ⟨e,f,?_⟩
 refine⟨.ref l,_,I.lset (its':=a++i) g e (by simp) (r.append m) ?_,rfl,q⟩;rw[Be];symm
noncomputable def z5f (mp:List Nat) (i:Nat) (g:GE):GS:=λe=>match e[i]? with
 | some (Za (.lst _,Zd))=>(g e).bind λp=>match p.2.1,p.1[i]? with
  |.lst u,Za (#v[w,2])=>if w.length+u.length<=sizeLine/\mp.contains i=Zc then Za (p.1.set i (#v[(w++u),2]),.nx) else Zb
  |_,_=>Zb
 |_=>Zb
theorem zt3 (h:tS K mp (z5f mp i g) D σ H):tAug i (tE K g) z3s D σ H:=by
 nofun;obtain⟨F,m,o,I,fl,R,h,q⟩:=h;refine qG ?_;unfold z5f at h;split at h
 ·rename_i N d
  nofun;obtain⟨a,O,w,Q,c,X,M,Z⟩:=R.ownL d;obtain⟨⟨z,s,G⟩,B,h⟩:=bS h;refine qG ?_;refine⟨.ref a,c,F,m,o,z,(s,G),R,B,λY T P E A y=>?_⟩;nofun;obtain⟨C,t,R2,x⟩:=y.freeze A;ac_rfl;split at h
  ·rename_i W U f b
   subst f;split at h
   ·rename_i L
    cases h;nofun;obtain⟨a',v,J,l,j,n,S,p⟩:=R2.ownL b;refine qG ?_;cases l;rw[c] at j;cases j;cases x with
    | lst k r =>
     refine ⟨a,_,v,_,rfl,rfl,n,R2.sub _ _ k,by rw [<-p.length,<-r.length];exact L.1,?_⟩;have e:σ.set i (Za (V.ref a))=σ:=by
      obtain⟨u,e⟩:=Ah.mp c;rw[<-e];exact List.set_getElem_self u
     show D.nx (σ.set i (Za (V.ref a))) _;rw[e];exact q C σ _ (E.trans t) (R2.change b c (p.append r)) (.refl _ _)
   ·exact noSome h
  ·exact noSome h
 ·exact noSome h
noncomputable def zlv (mp:List Nat) (T:Tg) (body:GS):List W->En->Option (En×Fl)
 |[],a=>Za (a,.nx)
 | w::b,a=>(tgSet mp T w a).bind λc=>match body c with
  |some (e,.nx)=>zlv mp T body b e
  |some (e,.cnt)=>zlv mp T body b e
  |some (e,.brk)=>Za (e,.nx)
  |some (e,.ret r)=>Za (e,.ret r)
  |none=>Zb
noncomputable def gFor (mp:List Nat) (T:Tg) (it:GL) (body:GS):GS:=λe=>(it e).bind λp=>zlv mp T body p.2 p.1
theorem z0e (h:tS K mp (gFor mp T it body) D σ H):tFor (tI K it) (TGof K T) (tS K mp body) D σ H:=by
 nofun;obtain⟨F,C,en,t,fl,R,h,q⟩:=h;obtain⟨⟨X,f⟩,h1,h⟩:=bS h;refine qG ?_;refine⟨F,C,en,X,f,R,h1,λQ H1 J P R1 ok=>?_⟩;refine⟨λi m d n=>m=f.length-i/\i<=f.length/\∃I B,Same Q I/\Rel K I C B d n/\Keep mp σ d/\zlv mp T body (f.drop i) B=Za (t,fl),⟨_,rfl,Bk _,Q,X,.refl _,R1,.refl _ _,by simpa using h⟩,?_⟩;rintro i m d n ⟨rfl,hi,I,B,l,A,u,a⟩;by_cases b:i<f.length
 ·refine .inr ⟨ok.go i n (l.trans A.sub) b, ?_⟩
  have hd:=(Cw b);rw[hd] at a;obtain⟨W,Y,a⟩:=bS (show (tgSet mp T f[i] B).bind _=_ from a);refine⟨λσ2 G=>∃M E,Same Q M/\Rel K M C E σ2 G/\Keep mp σ σ2/\zlv mp T body (f.drop (i+1)) E=Za (t,fl),?_,?_⟩
  ·rintro σ2 G ⟨M,E,s2,R2,k2,S⟩
   exact⟨f.length-(i+1),by symm,rfl,b,M,E,s2,R2,k2,S⟩
  ·intro x G y
   obtain⟨w,V,out⟩:=ok.yld i n x G (l.trans A.sub) b y;rw[Ad b] at V;obtain rfl:=sI V;nofun;obtain⟨F3,s3,Z,z⟩:=(out.mono l).close A;refine qG ?_;refine zno Z z Y λσ3 R4 N=>?_;cases eb:body W with
   |none=>simp only [eb] at a;exact noSome a
   | some p =>
    obtain⟨O,U⟩:=p;refine⟨F3,C,W,O,U,R4,eb,?_⟩;have L:=l.trans s3;cases U with
    | nx =>
     simp only [eb] at a;exact λj c o s g k=>⟨j,O,L.trans s,g,(u.trans N).trans k,a⟩
    | cnt =>
     simp only [eb] at a;exact λj c o s g k=>⟨j,O,L.trans s,g,(u.trans N).trans k,a⟩
    | brk =>
     simp only [eb] at a;cases a;exact λj c o s g k=>q j c o (P.trans (L.trans s)) g ((u.trans N).trans k)
    | ret r =>
     simp only [eb] at a;cases a;exact λj c o v s g k z=>q j c o v (P.trans (L.trans s)) g ((u.trans N).trans k) z
 ·have e:i=f.length:=by symm
  subst e;rw[List.drop_length] at a;cases a;exact .inl ⟨ok.stop n (l.trans A.sub),q I d n (P.trans l) A u⟩
noncomputable def zdb (c:GT) (body:GS):Nat->GS
 |0,_=>Zb
 | n+1,b=>match c b with
  | some (a,Zd)=>match body a with
   |some (e,.nx)=>zdb c body n e
   |some (e,.cnt)=>zdb c body n e
   |some (e,.brk)=>Za (e,.nx)
   |some (e,.ret r)=>Za (e,.ret r)
   |none=>Zb
  |#v[a,6]=>Za (a,.nx)
  |none=>Zb
theorem zq3 (h:tS K mp (zdb c body n) D σ H):z2s (tT K c) (tS K mp body) D σ H:=by
 nofun;obtain⟨F,t,N,l,fl,R,h,q⟩:=h;refine qG ?_;refine⟨λm e M=>∃u i,Same F u/\Rel K u t i e M/\Keep mp σ e/\zdb c body m i=Za (l,fl),⟨n,F,N,.refl _,R,.refl _ _,h⟩,?_⟩;rintro m e M ⟨u,i,B,P,o,a⟩;cases m with
 |zero=>exact noSome a
 | succ m =>
  unfold zdb at a;cases ec:c i with
  |none=>simp only [ec] at a;exact noSome a
  | some p =>
   obtain⟨y,b⟩:=p;refine⟨u,t,i,y,b,P,ec,λL O J G=>?_⟩;cases b with
   | false =>
    simp only [ec] at a;cases a;exact iteF (q L e O (B.trans J) G o)
   | true =>
    simp only [ec] at a;refine iteT ⟨λσ2 E=>∃I A,Same F I/\Rel K I t A σ2 E/\Keep mp σ σ2/\zdb c body m A=Za (l,fl),λσ2 E z=>⟨m,Er m,z⟩,?_⟩;cases eb:body y with
    |none=>simp only [eb] at a;exact noSome a
    | some p =>
     obtain⟨x,C⟩:=p;refine⟨L,t,y,x,C,G,eb,?_⟩;have w:=B.trans J;cases C with
     | nx =>
      simp only [eb] at a;exact λg d j s f k=>⟨g,x,w.trans s,f,o.trans k,a⟩
     | cnt =>
      simp only [eb] at a;exact λg d j s f k=>⟨g,x,w.trans s,f,o.trans k,a⟩
     | brk =>
      simp only [eb] at a;cases a;exact λg d j s f k=>q g d j (w.trans s) f (o.trans k)
     | ret r =>
      simp only [eb] at a;cases a;exact λg d j v s f k z=>q g d j v (w.trans s) f (o.trans k) z
end
section
end
section
variable {K:Zg}
end
section
end
section
end
noncomputable def yah:Key->W
 |.inl i=>.int i
 |.inr x=>.str x
noncomputable def dkW:DKey->W
 |.inl k=>yah k
 |.inr a=>.tup (a.map yah)
section
variable {K:Zg}
end
theorem Rel.drop {K:Zg}(R:Rel K F pr en σ H)(e:en[i]?=Za (#v[w,5])):∃v,σ[i]?=Za (Za v)/\Rel K F pr (en.set i Zb) σ H/\Res K F H pr (en.set i Zb) σ (w,Zd) v:=by
 have n:=(Ah.mp e).1;nofun;obtain⟨a,p,f,t,c,d,l,r⟩:=R.own i w e;refine qG ?_;have g:∀(j:Nat) (x:W×Bool),(en.set i Zb)[j]?=Za (Za x)->j≠i/\en[j]?=Za (Za x):=λj x h=>by
  rcases zce n h with⟨_,q⟩|z
  ·cases q
  ·exact z
 refine⟨_,c,⟨by rw[Ee];exact R.len,R.sub,λj u q=>R.val j u (g j _ q).2,λj u q=>R.own j u (g j _ q).2,λj k b u s q m=>R.inj j k b u s (g j _ q).2 (g k _ m).2,λb o q=>⟨(R.prt b o q).1,(R.prt b o q).2.1,λj u z=>(R.prt b o q).2.2 j u (g j _ z).2⟩,R.tb⟩,a,p,f,t,rfl,d,l,r,λj u q z=>?_,λb o q z=>?_⟩
 ·exact (g j _ q).1 (R.inj j i a _ _ (g j _ q).2 e z c)
 ·subst z;exact (R.prt b o q).2.2 i w e c
section
end
noncomputable abbrev Cap:=List (Option Nat)
noncomputable def zfi (cap:Cap) (en:En):En:=cap.map λo=>match o with
 |some i=>(en[i]?).getD Zb
 |none=>Zb
noncomputable def zau (cap:Cap) (i:Nat):Option Nat:=cap.findIdx? (· == Za i)
noncomputable def zcu (cap:Cap):Bool:=(List.range cap.length).all λj=>match cap[j]? with
 |some (Za i)=>zau cap i==Za j
 |_=>Zd
noncomputable def capKeep (cap:Cap):List Nat:=(List.range cap.length).filter λj=>match cap[j]? with
 |some (Za _)=>Zd
 |_=>Zc
noncomputable def zas (cap:Cap) (en c:En):En:=en.mapIdx λi x=>match zau cap i with
 |some j=>(c[j]?).getD Zb
 |none=>x
theorem zbc (h:zau cap i=Za j):cap[j]?=Za (Za i):=by
 obtain⟨b,a,_⟩:=Ge.mp h;rw[Ad b];have:cap[j]=Za i:=by simpa using a
 rw[this]
theorem zc3 (h:zau cap i=Zb)(j:Nat):cap[j]?≠Za (Za i):=λe=>by
 have:=List.findIdx?_eq_none_iff.mp h (Za i) (Bm e);simp at this
theorem zf0 (h:zcu cap=Zd)(e:cap[j]?=Za (Za i)):zau cap i=Za j:=by
 have a:=(Ah.mp e).1;have:=Az.mp h j (By.mpr a);simp only [e] at this;simpa using this
theorem znq (e:cap[j]?=Za (Za i)):j∈capKeep cap:=by
 exact Bq.mpr ⟨By.mpr (Ah.mp e).1,by simp only [e]⟩
theorem zdj {j:Nat}{x:W×Bool} (h:(zfi cap en)[j]?=Za (Za x)):∃i,cap[j]?=Za (Za i)/\en[i]?=Za (Za x):=by
 unfold zfi at h;rw[Ar] at h;cases e:cap[j]? with
 |none=>rw[e] at h;exact noSome h
 | some o =>
  rw[e] at h;cases o with
  |none=>cases h
  | some i =>
   refine⟨i,rfl,?_⟩;have a:(en[i]?).getD Zb=Za x:=sI h;cases e2:en[i]? with
   |none=>rw[e2] at a;exact noSome a
   |some z=>rw[e2] at a;exact congrArg Za a
theorem zql {cap:Cap}{σ:St}{i j:Nat}(h:cap[j]?=Za (Za i)):(capSt cap σ)[j]?=Za ((σ[i]?).getD Zb):=by
 unfold capSt;rw[Ar,h]
 rfl
theorem zfc {i j:Nat}{v:V}(h:cap[j]?=Za (Za i))(a:σ[i]?=Za (Za v)):(capSt cap σ)[j]?=Za (Za v):=by
 rw[zql h,a];rfl
theorem backEn_get (h:(zas cap en ce)[i]?=Za (Za x)):(∃j,zau cap i=Za j/\ce[j]?=Za (Za x))\/(zau cap i=Zb/\en[i]?=Za (Za x)):=by
 unfold zas at h;rw[Gy] at h;cases e:en[i]? with
 |none=>rw[e] at h;exact noSome h
 | some o =>
  rw[e] at h;cases c:zau cap i with
  |none=>simp only [c] at h;exact .inr ⟨rfl,h⟩
  | some j =>
   simp only [c] at h;have a:=sI h;refine .inl ⟨j,rfl,?_⟩;cases e2:ce[j]? with
   |none=>rw[e2] at a;exact noSome a
   |some z=>rw[e2] at a;exact congrArg Za a
noncomputable def zbp (p:Prt) (cap:Cap) (en:En) (σ:St) (H:Hp):Prt:=λb o=>p b o\/∃(j:Nat) (w:W),en[j]?=Za (#v[w,5])/\zau cap j=Zb/\σ[j]?=Za (Za (V.ref b))/\H b=Za o
noncomputable def zhp (p:Prt) (a:Zh) (vs:List V):Prt:=λb o=>p b o\/(b=a/\o=.lst vs)
section
variable {K:Zg}
theorem Rel.ownT (R:Rel K F pr en σ H){j:Nat}{w:W}{b:Zh}{p:Array Ze}(e:en[j]?=Za (#v[w,5]))(s:σ[j]?=Za (Za (V.ref b))):H b≠Za (.tbl p):=λz=>by
 obtain⟨a,o,f,_,c,h,_,d⟩:=R.own j w e;rw[s] at c;cases c;rw[z] at h;obtain rfl:=sI h;cases d
theorem zh4 {b:Zh}{p:Array Ze}(R:Rel K F pr en σ H)(e:H b=Za (.tbl p))(h:∀o,¬ pr b o):∀o,¬ zbp pr cap en σ H b o:=λo z=>by
 rcases z with z|⟨j,w,a,_,q,_⟩
 ·exact h o z
 ·exact R.ownT a q e
theorem zhy (R:Rel K F pr en σ H)(z:zbp pr cap en σ H b (.tup xs)):pr b (.tup xs):=by
 rcases z with z|⟨j,w,q,_,f,e⟩
 ·exact z
 ·obtain⟨a,o,g, _,c,h,_,d⟩:=R.own j w q;rw[f] at c;cases c;rw[e] at h;obtain rfl:=sI h;cases d
theorem Rel.accUpd (R:Rel K F (zhp pb acc vs) en σ H)(j:∀b o,pb b o->b≠acc):Rel K F (zhp pb acc us) en σ (upd H acc (.lst us)):=by
 obtain⟨g,c,d⟩:=R.prt acc (.lst vs) (.inr ⟨rfl,rfl⟩);have n:∀b p,H b=Za (.tbl p)->b≠acc:=λb p e z=>by subst z;rw[g] at e;cases e
 refine⟨R.len,λb o e=>?_,R.val,λi w e=>?_,R.inj,λb o q=>?_,R.tb.go (λb A z=>z.elim .inl λz=>nomatch z.2) (λb p e f=>⟨by rw[upd_ne (n b p e)];exact e,f⟩) (.refl F) λb p e x o z=>z.elim (λz=>x o (.inl z)) λz=>n b p e z.1⟩
 ·have:b≠acc:=λz=>by subst z;rw[c] at e;exact noSome e
  rw[upd_ne this];exact R.sub _ _ e
 ·refine aG λG qG => ?_;obtain⟨a,v,t,r,h,s,l,u⟩:=R.own i w e;refine qG ?_;have:a≠acc:=λz=>by subst z;exact d i w e h
  exact⟨a,v,t,r,h,by rw[upd_ne this];exact s,l,u⟩
 ·rcases q with q|⟨rfl,rfl⟩
  ·obtain⟨y,m,k⟩:=R.prt b o (.inl q);exact⟨by rw[upd_ne (j b o q)];exact y,m,k⟩
  ·exact⟨upd_same,c,d⟩
theorem zsz (R:Rel K F pr en σ H)(h:H acc=Zb):∀b o,zbp pr cap en σ H b o->b≠acc:=λb o q=>by
 rcases q with q|⟨j,w,_,_,_,q⟩
 ·exact zac (R.prt b o q).1 h
 ·exact zac q h
theorem Rel.block {cap:Cap}{n:Zh}(R:Rel K F pr en σ H)(p:H n=Zb)(nd:zcu cap=Zd):Rel K F (zhp (zbp pr cap en σ H) n []) (zfi cap en) (capSt cap σ) (upd H n (.lst [])):=by
 have U:=R.sub.free p;have R2:=R.lay p (.lst []);refine⟨by unfold zfi capSt;rw[Af,Af],R2.sub,λj w e=>?_,λj w e=>?_,λj l a w w' C A B y=>?_,λb o q=>?_,R.tb.go (λb xs z=>z.elim (zhy R) λz=>nomatch z.2) (λb X e f=>⟨by rw[upd_ne (zac e p)];exact e,f⟩) (.refl F) λb X e Y o z=>z.elim (zh4 R e Y o) λz=>zac e p z.1⟩
 ·refine aG λG qG => ?_;obtain⟨i,c,e⟩:=zdj e;obtain⟨v,t,h⟩:=R.val i w e;refine qG ?_;exact⟨v,zfc c t,h⟩
 ·refine aG λG qG => ?_;obtain⟨i,c,e⟩:=zdj e;obtain⟨a,u,D,t,h,g,m,E⟩:=R2.own i w e;ac_rfl;exact⟨a,u,D,t,zfc c h,g,m,E⟩
 ·refine aG λG qG => ?_;obtain⟨i,M,C⟩:=zdj C;obtain⟨k,J,A⟩:=zdj A;obtain⟨i',s,B⟩:=capSt_get B;obtain⟨k',r,y⟩:=capSt_get y;ac_rfl;rw[M] at s;cases s;rw[J] at r;cases r;have:=R.inj i k a _ _ C A B y;subst this;have x:=zf0 nd M;rw[zf0 nd J] at x;exact (sI x).symm
 ·have d:∀(j:Nat) (w:W),(zfi cap en)[j]?=Za (Za (w,Zd))->∃(i:Nat) (a:Zh),cap[j]?=Za (Za i)/\en[i]?=Za (Za (w,Zd))/\σ[i]?=Za (Za (V.ref a))/\(capSt cap σ)[j]?=Za (Za (V.ref a))/\∃o,H a=Za o:=λj w e=>by
   nofun;obtain⟨i,c,e⟩:=zdj e;obtain⟨a,u,D,t,h,g,m,E⟩:=R.own i w e;refine qG ?_;exact⟨i,a,c,e,h,zfc c h,_,g⟩
  rcases q with (q|⟨N,P,O,T,I,L⟩)|⟨rfl,rfl⟩
  ·obtain⟨Z,S,Q⟩:=R2.prt b o q;refine⟨Z,S,λj w e=>?_⟩;nofun;obtain⟨i,a,_,e,h,g,_⟩:=d j w e;ac_rfl;rw[g];intro z;cases z;exact Q i w e h
  ·refine aG λG qG => ?_;obtain⟨a,u,D,t,h,g,m,E⟩:=R.own N P O;ac_rfl;rw[I] at h;cases h;refine⟨by rw[upd_ne (zac L p)];exact L,m,λj w e=>?_⟩;nofun;obtain⟨i,a,c,e,h,g,_⟩:=d j w e;ac_rfl;rw[g];intro z;cases z;have:=R.inj i N _ _ _ e O h I;subst this;exact zc3 T j c
  ·refine⟨upd_same,U,λj w e => ?_⟩;nofun;obtain⟨i,a,c,e,h,g,o,m⟩:=d j w e;ac_rfl;rw[g];intro z;cases z;rw[p] at m;exact noSome m
theorem Rel.unblock {cap:Cap}{n:Zh}{r H':Hp}{E:En}{σc:St}{vs:List V}{ws:List W} (R:Rel K F pr en σ H) (S:H n=Zb) (s:Same F r) (t:Rel K r (zhp (zbp pr cap en σ H) n vs) E σc H') (X:Keep (capKeep cap) (capSt cap σ) σc) (Y:Reps K r ws vs) :
  Rel K r pr (zas cap en E) σ H'/\Res K r H' pr (zas cap en E) σ (.lst ws,Zd) (.ref n):=by
 have slot:∀(i j:Nat) (v:V),zau cap i=Za j->σc[j]?=Za (Za v)->σ[i]?=Za (Za v):=λi j v c e=>by
  have T:=zbc c;rw[X j (znq T),zql T] at e;have J:=sI e;cases q:σ[i]? with
  |none=>rw[q] at J;exact noSome J
  |some z=>rw[q] at J;exact congrArg Za J
 obtain⟨U,Z,a3⟩:=t.prt n (.lst vs) (.inr ⟨rfl,rfl⟩);have un:∀(i:Nat) (w:W),zau cap i=Zb->en[i]?=Za (#v[w,5])->∃(a:Zh) (vs:HO) (ws:W),w=ws/\σ[i]?=Za (Za (V.ref a))/\H a=Za vs/\H' a=Za vs/\r a=Zb/\OwnR K F ws vs/\∀(j:Nat) (D:W),E[j]?=Za (#v[D,5])->σc[j]?≠Za (Za (V.ref a)):=λi w c e=>by
  nofun;obtain⟨a,vs,ws,p,h,g,C,B⟩:=R.own i w e;obtain⟨Q,O,N⟩:=t.prt a vs (.inl (.inr ⟨i,w,e,c,h,g⟩));refine qG ?_;exact⟨a,vs,ws,p,h,g,Q,O,B,N⟩
 have d:∀(i j:Nat) (w:W),zau cap i=Za j->E[j]?=Za (#v[w,5])->∃(a:Zh) (vs:HO) (ws:W),w=ws/\σ[i]?=Za (Za (V.ref a))/\σc[j]?=Za (Za (V.ref a))/\H' a=Za vs/\r a=Zb/\OwnR K r ws vs:=λi j w c e=>by
  nofun;obtain⟨a,vs,ws,p,h,g,C,B⟩:=t.own j w e;ac_rfl;exact⟨a,vs,ws,p,slot i j _ c h,h,g,C,B⟩
 refine⟨⟨by unfold zas;rw[List.length_mapIdx];exact R.len,t.sub,λi w e=>?_,λi w e=>?_,λi k a w D u m P L=>?_,λb o q=>?_,t.tb.go (λb xs z=>.inl (.inl z)) (λb ps e f=>⟨e,f⟩) (.refl r) λb ps e hh o z=>hh o (.inl (.inl z))⟩,n,_,_,rfl,rfl,U,Z,.lst Y,λi w e=>?_,λb o q=>zac (R.prt b o q).1 S⟩
 ·rcases backEn_get e with⟨j,c,e⟩|⟨c,e⟩
  ·obtain⟨v,p,h⟩:=t.val j w e;exact⟨v,slot i j v c p,h⟩
  ·obtain⟨v,p,h⟩:=R.val i w e;exact⟨v,p,h.mono s⟩
 ·rcases backEn_get e with⟨j,c,e⟩|⟨c,e⟩
  ·refine aG λG qG => ?_;obtain⟨a,vs,ws,p,h,_,g,C,B⟩:=d i j w c e;refine qG ?_;exact⟨a,vs,ws,p,h,g,C,B⟩
  ·refine aG λG qG => ?_;obtain⟨a,vs,ws,p,h,_,g,C,B,_⟩:=un i w c e;ac_rfl;exact⟨a,vs,ws,p,h,g,C,B.mono s⟩
 ·rcases backEn_get u with⟨j,c,u⟩|⟨c,u⟩
  ·refine aG λG qG => ?_;obtain⟨M,_,_,_,h,g,_⟩:=d i j w c u;ac_rfl;rw[P] at h;cases h;rcases backEn_get m with⟨l,A,m⟩|⟨A,m⟩
   ·refine aG λG qG => ?_;obtain⟨M,_,_,_,y,I,_⟩:=d k l D A m;refine qG ?_;rw[L] at y;cases y;have:=t.inj j l a _ _ u m g I;subst this;have x:=zbc c;rw[zbc A] at x;cases x;rfl
   ·refine aG λG qG => ?_;obtain⟨M,_,_,_,y,_,_,_,_,I⟩:=un k D A m;ac_rfl;rw[L] at y;cases y;exact absurd g (I j w u)
  ·refine aG λG qG => ?_;obtain⟨M,_,_,_,h,_,_,_,_,g⟩:=un i w c u;ac_rfl;rw[P] at h;cases h;rcases backEn_get m with⟨l,A,m⟩|⟨A,m⟩
   ·refine aG λG qG => ?_;obtain⟨M,_,_,_,y,I,_⟩:=d k l D A m;ac_rfl;rw[L] at y;cases y;exact absurd I (g l D m)
   ·exact R.inj i k a _ _ u m P L
 ·obtain⟨Q,O,N⟩:=t.prt b o (.inl (.inl q));refine⟨Q,O,λi w e=>?_⟩;rcases backEn_get e with⟨j,c,e⟩|⟨c,e⟩
  ·refine aG λG qG => ?_;obtain⟨a,_,_,_,h,g,_⟩:=d i j w c e;ac_rfl;rw[h];intro z;cases z;exact N j w e g
  ·exact (R.prt b o q).2.2 i w e
 ·rcases backEn_get e with⟨j,c,e⟩|⟨c,e⟩
  ·refine aG λG qG => ?_;obtain⟨a,_,_,_,h,g,_⟩:=d i j w c e;ac_rfl;rw[h];intro z;cases z;exact a3 j w e g
  ·refine aG λG qG => ?_;obtain⟨a,_,_,_,h,g,_⟩:=un i w c e;ac_rfl;rw[h];intro z;cases z;rw[S] at g;exact noSome g
end
noncomputable def zg7 (mp:List Nat) (T:Tg) (tc:GT) (te:GE):List W->En->Option (En×List W)
 |[],c=>Za (c,[])
 | w::b,c=>(tgSet mp T w c).bind λd=>match tc d with
  |#v[a,5]=>(te a).bind λp=>(zg7 mp T tc te b p.1).bind λq=>Za (q.1,p.2.1::q.2)
  |#v[a,6]=>zg7 mp T tc te b a
  |none=>Zb
noncomputable def zbu (cap:Cap) (T:Tg) (it:GL) (tc:GT) (te:GE):GE:=λe=>(it e).bind λp=>if zcu cap&&decide (p.2.length<=sizeLine) then (zg7 (capKeep cap) T tc te p.2 (zfi cap p.1)).bind λq=>Za (zas cap p.1 q.1,(.lst q.2,Zd)) else Zb
noncomputable def gYes:GT:=λe=>#v[e,5]
noncomputable def zei (mp:List Nat) (T:Tg) (tc:GT) (e:GL):List W->En->Option (En×List W)
 |[],c=>Za (c,[])
 | w::b,c=>(tgSet mp T w c).bind λd=>match tc d with
  |#v[a,5]=>(e a).bind λp=>(zei mp T tc e b p.1).bind λq=>Za (q.1,p.2++q.2)
  |#v[a,6]=>zei mp T tc e b a
  |none=>Zb
noncomputable def gOne (te:GE):GL:=λe=>(te e).bind λp=>Za (p.1,[p.2.1])
noncomputable def gTwo (mp:List Nat) (T:Tg) (it:GL) (tc:GT) (e:GL):GL:=λa=>(it a).bind λp=>zei mp T tc e p.2 p.1
noncomputable def zwg (cap:Cap) (T:Tg) (it:GL) (tc:GT) (e:GL):GE:=λa=>(it a).bind λp=>if zcu cap then (zei (capKeep cap) T tc e p.2 (zfi cap p.1)).bind λq=>if q.2.length<=sizeLine then Za (zas cap p.1 q.1,(.lst q.2,Zd)) else Zb else Zb
noncomputable def zuq (cap:Cap) (T:Tg) (it:GL) (tc:GT) (a:Tg) (i:GL) (t:GT) (te:GE):GE:=zwg cap T it tc (gTwo (capKeep cap) a i t (gOne te))
theorem zgl:∀{ws:List W}{a c:En}{out:List W},zg7 mp T tc te ws a=Za (c,out)->zei mp T tc (gOne te) ws a=Za (c,out)/\out.length<=ws.length
 |[],_,_,_,h=>by cases h;exact⟨rfl,Ag _⟩
 | w::ws,a,c,out,h=>by
  obtain ⟨g,k,h⟩:=bS (show (tgSet mp T w a).bind _=_ from h);have e:zei mp T tc (gOne te) (w::ws) a=match tc g with
   |#v[d,5]=>(gOne te d).bind λp=>(zei mp T tc (gOne te) ws p.1).bind λq=>Za (q.1,p.2++q.2)
   |#v[d,6]=>zei mp T tc (gOne te) ws d
   |none=>Zb:=by rw[zei,k];rfl
  rw[e];cases et:tc g with
  |none=>simp only [et] at h;exact noSome h
  | some p =>
   obtain⟨d,b⟩:=p;cases b with
   |false=>simp only [et] at h;exact⟨(zgl h).1,Nat.le_succ_of_le (zgl h).2⟩
   | true =>
    simp only [et] at h;obtain⟨⟨j,r⟩,i,h⟩:=bS h;obtain⟨⟨l,rest⟩,f,h⟩:=bS h;cases h;refine⟨?_,Nat.succ_le_succ (zgl f).2⟩;show (gOne te d).bind _=_;rw[gOne,i];show (zei mp T tc (gOne te) ws j).bind _=_;rw[(zgl f).1]
    rfl
noncomputable def MOk (K:Zg) (mp:List Nat) (p:Prt) (b:Zh) (g:GL) (t:TM):Prop:=∀(F:Hp) (e:En) (σ:St) (H:Hp) (v:List V) (c:En) (out:List W) (N:St->Hp->Prop),Rel K F (zhp p b v) e σ H->g e=Za (c,out)->v.length+out.length<=sizeLine ->
 (∀d a f u,Same F d->Rel K d (zhp p b (v++u)) c a f->Keep mp σ a->Reps K d out u->N a f)->t σ H N
section
variable {K:Zg}
theorem z8k (e:∀b o,pb b o->b≠acc):MOk K mp pb acc (gOne te) (zq9 acc (tE K te)):=by
 intro F m σ H a j out N R h p q;nofun;obtain⟨⟨g,r⟩,l,h⟩:=bS h;refine qG ?_;cases h;refine⟨F,_,m,g,r,R,l,λu t v s f y=>?_⟩;nofun;obtain⟨i,n,c,k⟩:=y.freeze f;obtain⟨d,_,_⟩:=c.prt acc (.lst a) (.inr ⟨rfl,rfl⟩);ac_rfl;exact⟨a,d,p,q i σ _ [v] (s.trans n) (c.accUpd e) (.refl _ _) (.cons k .nil)⟩
theorem zw1 (M:MOk K mp pb acc em tm) (R:Rel K F1 (zhp pb acc vs0) ce0 σ0 H0) (ok:ItOk K F1 J ws) (h:zei mp T tc em ws ce0=Za (ce',out)) (hz:vs0.length+out.length<=sizeLine)
  (q:∀F g H' u,Same F1 F->Rel K F (zhp pb acc (vs0++u)) ce' g H'->Keep mp σ0 g->Reps K F out u->N0 g H'):zmi J (TGof K T) (tT K tc) tm σ0 H0 N0:=by
 refine ⟨λi m σc H=>m=ws.length-i/\i<=ws.length/\∃F j d u rest,Same F1 F/\Rel K F (zhp pb acc (vs0++u)) j σc H/\Keep mp σ0 σc/\Reps K F d u/\zei mp T tc em (ws.drop i) j=Za (ce',rest)/\d++rest=out,
  ⟨_,rfl,Bk _,F1,ce0,[],[],out,.refl _,by rw[Cf];exact R,.refl _ _,.nil,h,rfl⟩,?_⟩
 rintro i m σc H ⟨rfl,hi,F,j,d,u,rest,f,l,A,rd,a,k⟩;by_cases c:i<ws.length
 ·refine .inr ⟨ok.go i H (f.trans l.sub) c, ?_⟩
  have V:=(Cw c);rw[V] at a;obtain⟨I,Z,a⟩:=bS (show (tgSet mp T ws[i] j).bind _=_ from a);refine⟨λσ2 n=>∃F j d u rest,Same F1 F/\Rel K F (zhp pb acc (vs0++u)) j σ2 n/\Keep mp σ0 σ2/\Reps K F d u/\zei mp T tc em (ws.drop (i+1)) j=Za (ce',rest)/\d++rest=out,λσ2 n z=>⟨ws.length-(i+1),by symm,rfl,c,z⟩,?_⟩;intro x n y;obtain⟨w,E,o⟩:=ok.yld i H x n (f.trans l.sub) c y;rw[Ad c] at E;obtain rfl:=sI E;nofun;obtain⟨Y,C,Q,z3⟩:=(o.mono f).close l;refine qG ?_;refine zno Q z3 Z λB R4 O=>?_;cases et:tc I with
  |none=>simp only [et] at a;exact noSome a
  | some p =>
   obtain⟨v,b⟩:=p;refine⟨Y,_,I,v,b,R4,et,λN W D L=>?_⟩;cases b with
   | false =>
    simp only [et] at a;exact iteF ⟨N,v,d,u,rest,f.trans (C.trans D),L,A.trans O,rd.mono (C.trans D),a,k⟩
   | true =>
    simp only [et] at a;nofun;obtain⟨⟨G,P⟩,h5,a⟩:=bS a;obtain⟨⟨c4,r⟩,h6,a⟩:=bS a;refine qG ?_;cases a;refine iteT (M N v B W (vs0++u) G P _ L h5 ?_ λF6 U H6 t X S k6 r6=>?_)
    ·dsimp only at k
     rw[<-k,Be,Be,rd.length] at hz;rw[Be];symm
    ·have s:=C.trans (D.trans X)
     exact⟨F6,G,d++P,u++t,r,f.trans s,by rw[<-Bd];exact S,A.trans (O.trans k6),(rd.mono s).append r6,h6,by rw[Bd];exact k⟩
 ·have e:i=ws.length:=by symm
  subst e;rw[List.drop_length] at a;cases a;rw[Cf] at k;subst k;exact .inl ⟨ok.stop H (f.trans l.sub),q F σc H u f l A rd⟩
theorem yb6 (M:MOk K mp pb acc em tm):MOk K mp pb acc (gTwo mp T it tc em) (tTwo (tI K it) (TGof K T) (tT K tc) tm):=by
 intro F i σ H v d out N R h k q;nofun;obtain⟨⟨e,w⟩,f,h⟩:=bS h;refine qG ?_;exact⟨F,_,i,e,w,R,f,λm l J g c ok=>zw1 M c ok h k λb a j u s=>q b a j u (g.trans s)⟩
end
theorem zhv {K:Zg}(M:∀(p:Prt) (a:Zh),(∀b o,p b o->b≠a)->MOk K (capKeep cap) p a em (tm a))(h:tE K (zwg cap T it tc em) σ H Q):zst (tI K it) cap (TGof K T) (tT K tc) tm σ H Q:=by
 nofun;obtain⟨F,e,j,v,r,R,h,q⟩:=h;obtain⟨⟨l,w⟩,n,h⟩:=bS h;refine qG ?_;refine⟨F,e,j,l,w,R,n,λD B J t d ok a c=>?_⟩;split at h
 ·rename_i nd;nofun;obtain⟨⟨m,out⟩,g,h⟩:=bS h;refine qG ?_;split at h
  ·rename_i A;cases h;refine zw1 (M _ a (zsz d c)) (d.block c nd) ok g (by rw[Ez,Ct];exact A) λk i y C s z x rd=>?_;obtain⟨f,u⟩:=d.unblock c s z x rd;exact q k y _ (t.trans s) f u
  ·exact noSome h
 ·exact noSome h
theorem zuy {K:Zg}(h:tE K (zbu cap T it tc te) σ H Q):zst (tI K it) cap (TGof K T) (tT K tc) (λa=>zq9 a (tE K te)) σ H Q:=by
 refine zhv (λl a b=>z8k b) ?_;obtain⟨F,p,k,e,r,R,h,q⟩:=h;refine⟨F,p,k,e,r,R,?_,q⟩;nofun;obtain⟨⟨g,w⟩,j,h⟩:=bS h;refine qG ?_;split at h
 ·rename_i z;rw[Ac] at z;nofun;obtain⟨⟨i,out⟩,f,h⟩:=bS h;refine qG ?_;obtain⟨c,d⟩:=zgl f;rw[zwg,j];show (if zcu cap=Zd then (zei (capKeep cap) T tc (gOne te) w (zfi cap g)).bind _ else Zb)=_;rw[if_pos z.1,c];show (if out.length<=sizeLine then _ else Zb)=_;rw[if_pos (Bu d (Ao z.2))];exact h
 ·exact noSome h
noncomputable def ych:GE:=λe=>Za (e,(.dic,Zc))
noncomputable def keyW:W->Bool
 |.int _=>Zd
 |.str _=>Zd
 |_=>Zc
noncomputable def ycp (k v:GE):GE:=λe=>(k e).bind λp=>if keyW p.2.1 then (v p.1).bind λq=>Za (q.1,(.dic,Zc)) else Zb
noncomputable def Src (h:Heap) (it l:Zh) (k:Nat) (xs:Array Ze):Prop:=(h.IsListIter it l k/\h.IsList l xs)\/(h.IsTupleIter it l k/\h.IsTuple l xs)
theorem Src.at (c:Src h it l k xs)(a:∀o,h.get? it=Za o->h'.get? it=Za o)(b:∀o,h.get? l=Za o->h'.get? l=Za o):Src h' it l k xs:=by
 rcases c with⟨p,q⟩|⟨p,q⟩
 ·exact .inl ⟨p.at a,q.at b⟩
 ·obtain⟨o,e,r⟩:=q;exact .inr ⟨p.at a,o,b o e,r⟩
theorem Src.iter (c:Src h it l k xs):∃o,h.get? it=Za o/\∀v,o.data≠.cell v:=by
 rcases c with⟨⟨o,e,_,d⟩,_⟩|⟨⟨o,e,_,d⟩,_⟩
 ·exact⟨o,e,λv z=>by rw[d] at z;cases z⟩
 ·exact⟨o,e,λv z=>by rw[d] at z;cases z⟩
theorem Src.src (c:Src h it l k xs):∃o,h.get? l=Za o:=by
 rcases c with⟨_,⟨o,e,_⟩⟩|⟨_,⟨o,e,_⟩⟩<;>exact⟨o,e⟩
section
theorem zcv (c:Src s.heap it l k xs) (i:xs[k]?=Za x) (n:l≠it)
  (q:∀h',Src h' it l (k+1) xs->Heap.SameBut it s.heap h'->Q x { s with heap:=h' }):wpAny (model prog w) A (Builtin.SmallTypes.nextOf (.ref it)) Q E s:=by
 rcases c with⟨f,h⟩|⟨f,h⟩
 ·exact wpAny_nextOf_list_item f h i λh' a b=>q h' (.inl ⟨a,h.at λo e=>(b.2 l n).trans e⟩) b
 ·refine aG λG qG => ?_;obtain⟨v,g,r,d⟩:=id f;obtain⟨p,j,u,t,m⟩:=id h;refine qG ?_;refine Aa (Ch f.typeIs Ga (Cz Ga f.typeIs F.entry_tuple_iterator_next ?_ (F.args_tuple_iterator_next_1 _)));refine (show wpAny _ _ (field (.ref it) 0>>=_) _ _ s from Aa (Ca g d rfl ?_));refine (show wpAny _ _ (if (Ze.ref l==Ze.none)=Zd then _ else _) _ _ s from ?_);refine (show wpAny _ _ (field (.ref it) 1>>=_) _ _ s from Aa (Ca g d rfl ?_));refine (show wpAny _ _ (seqItems? (.ref l)>>=_) _ _ s from Aa (Co j m ?_));simp only [Fe,i];refine Aa (wpAny_setField g d (by simp) (Ae ⟨x,rfl,Ae ?_⟩));refine q _ (.inr ⟨⟨_,Hg _ g (Obj.isFreed_of_fields (Obj.data_mapFields d _)),(Obj.cls_mapFields ..).trans r,by rw[Obj.data_mapFields d];simp [rawInt]⟩,p,?_,u,t,m⟩) (Cg ..);exact ((Cg ..).2 l n).trans j
theorem zfl (g:A.handled=Zb) (c:Src s.heap it l k xs) (h:xs[k]?=Zb)
  (q:∀h' e,Heap.ExtBut it s.heap h'->(∃o,h'.get? e=Za o/\o.cls=.type "StopIteration")->E (.ref e) { s with heap:=h' }):wpAny (model prog w) A (Builtin.SmallTypes.nextOf (.ref it)) Q E s:=by
 rcases c with⟨a,f⟩|⟨a,f⟩
 ·exact wpAny_nextOf_list_end g a f h q
 ·obtain⟨t,b,p,d⟩:=id a;obtain⟨m,i,r,n,j⟩:=id f;refine Aa (Ch a.typeIs Ga (Cz Ga a.typeIs F.entry_tuple_iterator_next ?_ (F.args_tuple_iterator_next_1 _)));refine (show wpAny _ _ (field (.ref it) 0>>=_) _ _ s from Aa (Ca b d rfl ?_));refine (show wpAny _ _ (if (Ze.ref l==Ze.none)=Zd then _ else _) _ _ s from ?_);refine (show wpAny _ _ (field (.ref it) 1>>=_) _ _ s from Aa (Ca b d rfl ?_));refine (show wpAny _ _ (seqItems? (.ref l)>>=_) _ _ s from Aa (Co i j ?_));simp only [Fe,h];refine Aa (Cd (Aa (wpAny_setField b d (by simp) (show wpAny _ _ (newExc (.type "StopIteration") []>>=_) _ _ _ from Aa ?_))));refine Aa (Dp (Aa (Gr (by first|rfl|(simp only [firstArgMember];rfl)) (Dp ?_ (by size_fits)))) (by size_fits));refine Aa (wpAny_handled ?_);rw[show A.in1.handled=Zb from g];exact Aa (Ae (wpAny_throw (q _ _ (((Cg ..).extBut.push _).push _) ⟨_,An _ rfl,rfl⟩)))
theorem z64 {z TI TO i h H L:Zh}{x y a b:Ze}{Q:Ze->Zf->Prop} (D:ZipApart z TI TO i h H L) (t:IsZip s.heap z TI TO .none) (Y:IsPair s.heap TI (.ref i) (.ref h)) (go:IsPair s.heap TO a b)
  (c1:Src s.heap i H k1 xs) (c2:Src s.heap h L k2 ys) (X:xs[k1]?=Za x) (ey:ys[k2]?=Za y)
  (q:∀h',IsZip h' z TI TO (rawInt s.heap.objs.size)->IsPair h' TO x y->Src h' i H (k1+1) xs->Src h' h L (k2+1) ys->IsPair h' s.heap.objs.size x y ->
   (∀c o,c≠z->c≠TO->c≠i->c≠h->s.heap.get? c=Za o->h'.get? c=Za o)->Q (.ref s.heap.objs.size) { s with heap:=h' }) :
  wpAny (model prog w) A (Builtin.«zip.__next__» ⟨[.ref z],[]⟩) (λfin s'=>∃v,fin=.done (.ret v)/\Q v s') E s:=by
 refine (show wpAny _ _ (field (.ref z) 2>>=_) _ _ _ from Aa (Ca t rfl rfl ?_));refine (show wpAny _ _ (field (.ref z) 3>>=_) _ _ _ from Aa (Ca t rfl rfl (Aa (Co Y rfl ?_))));refine (show wpAny _ _ (Builtin.SmallTypes.ownedTupleIsFree (.ref z)>>=_) _ _ _ from Aa ?_);refine Aa (Ca t rfl rfl (Ae ?_));simp only [Gf];refine Aa (Cd (Aa (Ca t rfl rfl (Aa (Eg t (by simp) λg1 z1 N=>?_)))));have G:=z1;refine Aa ?_;simp only [List.zipIdx_cons];have d : ∀c o,c≠z->s.heap.get? c=Za o->g1.get? c=Za o:=λc o n e=>N.extBut _ _ n e;refine Aa (Aa (wpAny_onRaise (show wpAny _ _ (Builtin.SmallTypes.nextOf (.ref i)>>=_) _ _ _ from Aa (zcv (c1.at (λo=>d _ o D.i1z) λo=>d _ o D.l1z) X D.l1i1 λg2 d2 J=>Ae ?_))));have f : ∀c o,c≠z->c≠i->s.heap.get? c=Za o->g2.get? c=Za o:=λc o n m e=>J.extBut _ _ m (d c o n e);refine Aa (Co (f _ _ D.TOz D.TOi1 go) rfl (Aa (wpAny_updateSeq_pair (f _ _ D.TOz D.TOi1 go) λg3 t3 F=>Aa (Gs (Ae ?_)))));have M:=t3;have k : ∀c o,c≠z->c≠i->c≠TO->s.heap.get? c=Za o->g3.get? c=Za o:=λc o n m r e=>F.extBut _ _ r (f c o n m e);refine Aa (Aa (wpAny_onRaise (show wpAny _ _ (Builtin.SmallTypes.nextOf (.ref h)>>=_) _ _ _ from Aa (zcv (c2.at (λo=>k _ o D.i2z D.i12.symm D.TOi2.symm) λo=>k _ o D.l2z D.l2i1 D.l2TO) ey D.l2i2 λg4 Z j=>Ae ?_))));have W:=j.extBut _ _ D.TOi2 M;refine Aa (Co W rfl (Aa (wpAny_updateSeq_pair W λg t5 u=>Aa (Gs (Ae (Ae ?_))))));have C:IsPair g TO x y:=t5;refine Aa (Co C rfl (Aa (wpAny_newTuple ?_)));have R:g.objs.size=s.heap.objs.size:=by rw[u.1,j.1,F.1,J.1,N.1]
 have O:=u.extBut _ _ D.TOz.symm (j.extBut _ _ D.i2z.symm (F.extBut _ _ D.TOz.symm (J.extBut _ _ D.i1z.symm G)));have k5:∀c o,c≠z->c≠TO->c≠i->c≠h->s.heap.get? c=Za o->g.get? c=Za o:=λc o n r m p e=>u.extBut _ _ r (j.extBut _ _ p (k c o n m r e));have I:=d2.at (λo e=>u.extBut _ _ D.TOi1.symm (j.extBut _ _ D.i12 (F.extBut _ _ D.TOi1.symm e))) λo e=>u.extBut _ _ D.l1TO (j.extBut _ _ D.l1i2 (F.extBut _ _ D.l1TO e));have K:=Z.at (λo e=>u.extBut _ _ D.TOi2.symm e) λo e=>u.extBut _ _ D.l2TO e;refine (show wpAny _ _ (Builtin.SmallTypes.ownedTupleHandOut (.ref z) (.ref g.objs.size)>>=_) _ _ _ from Aa ?_);have z6:IsZip (g.push { cls:=.type "tuple",data:=.seq #[x,y] }) z TI TO .ellipsis:=Ab _ O;refine Aa (Eg z6 (by simp) λg7 z7 P=>Eg (show IsZip g7 z TI TO (rawInt g.objs.size) from z7) (by simp) λU z8 T=>Ae ⟨_,rfl,?_⟩);have l:∀c o,c≠z->g.get? c=Za o->U.get? c=Za o:=λc o n e=>T.extBut _ _ n (P.extBut _ _ n (Ab _ e));have S:=Fu (Am O);have V:=T.extBut _ _ S (P.extBut _ _ S (An _ rfl));have B:=z8;rw[R] at V B;rw[R];exact q U B (l _ _ D.TOz C) (I.at (λo=>l _ o D.i1z) λo=>l _ o D.l1z) (K.at (λo=>l _ o D.i2z) λo=>l _ o D.l2z) V λc o n r m p e=>l c o n (k5 c o n r m p e)
theorem ybo {z TI TO i l H K:Zh} (I:A.handled=Zb) (D:ZipApart z TI TO i l H K) (h:IsZip s.heap z TI TO .none) (P:IsPair s.heap TI (.ref i) (.ref l)) (go:IsPair s.heap TO a b)
  (W:Src s.heap i H k1 xs) (T:Src s.heap l K k2 ys) (S:xs[k1]?=Zb\/ys[k2]?=Zb)
  (q:∀h' e,(∀c o,c≠z->c≠TO->c≠i->c≠l->s.heap.get? c=Za o->h'.get? c=Za o)->(∃o,h'.get? e=Za o/\o.cls=.type "StopIteration")->E (.ref e) { s with heap:=h' }) :
  wpAny (model prog w) A (Builtin.«zip.__next__» ⟨[.ref z],[]⟩) Q E s:=by
 refine (show wpAny _ _ (field (.ref z) 2>>=_) _ _ _ from Aa (Ca h rfl rfl ?_));refine (show wpAny _ _ (field (.ref z) 3>>=_) _ _ _ from Aa (Ca h rfl rfl (Aa (Co P rfl ?_))));refine (show wpAny _ _ (Builtin.SmallTypes.ownedTupleIsFree (.ref z)>>=_) _ _ _ from Aa ?_);refine Aa (Ca h rfl rfl (Ae ?_));simp only [Gf];refine Aa (Cd (Aa (Ca h rfl rfl (Aa (Eg h (by simp) λY X R=>?_)))));have j:=X;refine Aa ?_;simp only [List.zipIdx_cons];have k : ∀c o,c≠z->s.heap.get? c=Za o->Y.get? c=Za o:=λc o n e=>R.extBut _ _ n e;refine Aa (Aa (wpAny_onRaise (show wpAny _ _ (Builtin.SmallTypes.nextOf (.ref i)>>=_) _ _ _ from Aa ?_)));have J:=W.at (λo=>k _ o D.i1z) λo=>k _ o D.l1z;cases hx:xs[k1]? with
 | none =>
  refine zfl I J hx λL e u B=>?_;obtain⟨C,g,v⟩:=B;have O:=u _ _ D.i1z.symm j;have y:e≠z:=λr=>by subst r;rw[O] at g;obtain rfl:=sI g;simp at v
  exact Eg O (by simp) λF _ t=>q F e (λc o n _ m _ x=>t.extBut _ _ n (u _ _ m (k c o n x))) ⟨C,t.extBut _ _ y g,v⟩
 | some x =>
  have U:=S.resolve_left (by rw[hx];simp);refine zcv J hx D.l1i1 λL Z u=>Ae ?_;have f : ∀c o,c≠z->c≠i->s.heap.get? c=Za o->L.get? c=Za o:=λc o n m e=>u.extBut _ _ m (k c o n e);refine Aa (Co (f _ _ D.TOz D.TOi1 go) rfl (Aa (wpAny_updateSeq_pair (f _ _ D.TOz D.TOi1 go) λF t3 t=>Aa (Gs (Ae ?_)))));have d : ∀c o,c≠z->c≠i->c≠TO->s.heap.get? c=Za o->F.get? c=Za o:=λc o n m r e=>t.extBut _ _ r (f c o n m e);refine Aa (Aa (wpAny_onRaise (show wpAny _ _ (Builtin.SmallTypes.nextOf (.ref l)>>=_) _ _ _ from Aa (zfl I (T.at (λo=>d _ o D.i2z D.i12.symm D.TOi2.symm) λo=>d _ o D.l2z D.l2i1 D.l2TO) U λg4 e M B=>?_))));obtain⟨C,g,v⟩:=B;have G:=M _ _ D.i2z.symm (t.extBut _ _ D.TOz.symm (u.extBut _ _ D.i1z.symm j));have y:e≠z:=λr=>by subst r;rw[G] at g;obtain rfl:=sI g;simp at v
  exact Eg G (by simp) λV _ N=>q V e (λc o n r m p x=>N.extBut _ _ n (M _ _ p (d c o n m r x))) ⟨C,N.extBut _ _ y g,v⟩
theorem pn_item {z TI TO i d l e:Zh} (D:ZipApart z TI TO i d l e) (g:IsZip s.heap z TI TO .none) (j:IsPair s.heap TI (.ref i) (.ref d)) (go:IsPair s.heap TO a b)
  (u:Src s.heap i l k1 xs) (r:Src s.heap d e k2 ys) (h:xs[k1]?=Za x) (t:ys[k2]?=Za y)
  (q:∀h',IsZip h' z TI TO (rawInt s.heap.objs.size)->IsPair h' TO x y->Src h' i l (k1+1) xs->Src h' d e (k2+1) ys->IsPair h' s.heap.objs.size x y ->
   (∀c o,c≠z->c≠TO->c≠i->c≠d->s.heap.get? c=Za o->h'.get? c=Za o)->Q (Za (.ref s.heap.objs.size)) { s with heap:=h' }):wpAny (model prog w) A (pyNext (.ref z)) Q E s:=by
 have ty:s.TypeIs (.ref z) "zip" := ⟨_,g,rfl⟩;exact Aa (Et (Ch ty Eo (Cz Eo ty F.entry_zip_next (z64 D g j go u r h t λh' f m v n k p=>Ae (q h' f m v n k p)) (Hu _))))
theorem pn_end {z TI TO i d l h:Zh} (n:A.handled=Zb) (D:ZipApart z TI TO i d l h) (f:IsZip s.heap z TI TO .none) (m:IsPair s.heap TI (.ref i) (.ref d)) (go:IsPair s.heap TO a b)
  (p:Src s.heap i l k1 xs) (t:Src s.heap d h k2 ys) (r:xs[k1]?=Zb\/ys[k2]?=Zb)
  (q:∀h',(∀c o,c≠z->c≠TO->c≠i->c≠d->s.heap.get? c=Za o->h'.get? c=Za o)->Q Zb { s with heap:=h' }):wpAny (model prog w) A (pyNext (.ref z)) Q E s:=by
 have ty:s.TypeIs (.ref z) "zip" := ⟨_,f,rfl⟩;refine Aa (Et (Ch ty Eo (Cz Eo ty F.entry_zip_next (ybo n D f m go p t r λh' e k j=>?_) (Hu _))));obtain⟨o,g,u⟩:=j;exact Aa (Ey ⟨o,g,u⟩ isSubtype_stop (Ae (q _ k)))
end
noncomputable def zhz (h:Heap) (z TI TO T:Zh) (b:Bool):Prop:=h.get? z=Za { cls:=.type "zip",dict:=Zb,data:=.fields #[rawInt T,.bool b,.bool Zc,.ref TI,.ref TO],slots:=#[] }
section
variable {prog:Program}{w:World}{A:Around}{E:Ze->Zf->Prop}{s:Zf}{TI TO:Zh}
theorem z04 {Q:Option Obj->Zf->Prop}(h:Q (s.heap.get? a) s):wpAny (model prog w) A (loadIfAlive a) Q E s:=λb p _=>h
theorem zky {Q:Bool->Zf->Prop} (g:zhz s.heap z TI TO T b) (c:∃o,s.heap.get? T=Za o) (q:∀h',zhz h' z TI TO T Zd->Heap.SameBut z s.heap h'->Q Zc { s with heap:=h' }) :
  wpAny (model prog w) A (Builtin.SmallTypes.ownedTupleIsFree (.ref z)) Q E s:=by
 obtain⟨o,go⟩:=c;refine Aa (Ca g rfl rfl ?_);refine Aa (z04 ?_);rw[show s.heap.get? ((T:Int).toNat)=Za o from by rw[Fe];exact go];refine Aa (Ca g rfl rfl ?_);cases b with
 |true=>exact Ae (q _ g (Heap.SameBut.refl ..))
 |false=>exact Aa (Eg g (by simp) λh' a u=>Ae (q h' a u))
theorem z55 {Q:Ze->Zf->Prop} (D:ZipApart z TI TO i1 i2 l1 l2) (g:zhz s.heap z TI TO T b) (G:∃o,s.heap.get? T=Za o) (t:IsPair s.heap TI (.ref i1) (.ref i2))
  (H:Src s.heap i1 l1 k1 xs) (C:Src s.heap i2 l2 k2 ys) (r:xs[k1]?=Za x) (F:ys[k2]?=Za y)
  (q:∀h' d,zhz h' z TI TO T Zd->Src h' i1 l1 (k1+1) xs->Src h' i2 l2 (k2+1) ys->IsPair h' d x y->s.heap.objs.size<=d ->
   (∀c o,c≠z->c≠i1->c≠i2->s.heap.get? c=Za o->h'.get? c=Za o)->Q (.ref d) { s with heap:=h' }) :
  wpAny (model prog w) A (Builtin.«zip.__next__» ⟨[.ref z],[]⟩) (λfin s'=>∃v,fin=.done (.ret v)/\Q v s') E s:=by
 refine (show wpAny _ _ (field (.ref z) 2>>=_) _ _ _ from Aa (Ca g rfl rfl ?_));refine (show wpAny _ _ (field (.ref z) 3>>=_) _ _ _ from Aa (Ca g rfl rfl (Aa (Co t rfl ?_))));refine (show wpAny _ _ (Builtin.SmallTypes.ownedTupleIsFree (.ref z)>>=_) _ _ _ from Aa (zky g G λJ I h=>?_));have k : ∀c o,c≠z->s.heap.get? c=Za o->J.get? c=Za o:=λc o n e=>h.extBut _ _ n e;dsimp only;rw[<-Array.forIn_toList];refine Aa ?_;rw[Fa];refine Aa (Aa (Bh (show wpAny _ _ (Builtin.SmallTypes.nextOf (.ref i1)>>=_) _ _ _ from Aa (zcv (H.at (λo=>k _ o D.i1z) λo=>k _ o D.l1z) r D.l1i1 λj B f=>Ae (Ae ?_)))));have a : ∀c o,c≠z->c≠i1->s.heap.get? c=Za o->j.get? c=Za o:=λc o n m e=>f.extBut _ _ m (k c o n e);dsimp only;rw[Fa];refine Aa (Aa (Bh (show wpAny _ _ (Builtin.SmallTypes.nextOf (.ref i2)>>=_) _ _ _ from Aa (zcv (C.at (λo=>a _ o D.i2z D.i12.symm) λo=>a _ o D.l2z D.l2i1) F D.l2i2 λK l i=>Ae (Ae ?_)))));refine Ae ?_;refine Aa (wpAny_newTuple ?_ (by show 2<=sizeLine;decide));refine Ae ⟨_,rfl,?_⟩;have u:∀c o,c≠i2->j.get? c=Za o->(K.push { cls:=.type "tuple",data:=.seq #[x,y] }).get? c=Za o:=λc o n e=>Ab _ (i.extBut _ _ n e);refine q _ _ (u _ _ D.i2z.symm (f.extBut _ _ D.i1z.symm I)) (B.at (λo=>u _ o D.i12) λo=>u _ o D.l1i2) (l.at (λo=>Ab _) λo=>Ab _) (An _ rfl) ?_ λc o n m p e=>u c o p (a c o n m e);rw[i.1,f.1,h.1];exact Ag _
theorem zrj {Q:Fin->Zf->Prop} (h:A.handled=Zb) (D:ZipApart z TI TO i1 i2 l1 l2) (g:zhz s.heap z TI TO T b) (C:∃o,s.heap.get? T=Za o) (j:IsPair s.heap TI (.ref i1) (.ref i2))
  (F:Src s.heap i1 l1 k1 xs) (t:Src s.heap i2 l2 k2 ys) (r:xs[k1]?=Zb\/ys[k2]?=Zb)
  (q:∀h' e,(∀c o,c≠z->c≠i1->c≠i2->s.heap.get? c=Za o->h'.get? c=Za o)->(∃o,h'.get? e=Za o/\o.cls=.type "StopIteration")->E (.ref e) { s with heap:=h' }) :
  wpAny (model prog w) A (Builtin.«zip.__next__» ⟨[.ref z],[]⟩) Q E s:=by
 refine (show wpAny _ _ (field (.ref z) 2>>=_) _ _ _ from Aa (Ca g rfl rfl ?_));refine (show wpAny _ _ (field (.ref z) 3>>=_) _ _ _ from Aa (Ca g rfl rfl (Aa (Co j rfl ?_))));refine (show wpAny _ _ (Builtin.SmallTypes.ownedTupleIsFree (.ref z)>>=_) _ _ _ from Aa (zky g C λG J l=>?_));have k : ∀c o,c≠z->s.heap.get? c=Za o->G.get? c=Za o:=λc o n e=>l.extBut _ _ n e;dsimp only;rw[<-Array.forIn_toList];refine Aa ?_;have i:=F.at (λo=>k _ o D.i1z) λo=>k _ o D.l1z;refine Aa (Aa (Bh (show wpAny _ _ (Builtin.SmallTypes.nextOf (.ref i1)>>=_) _ _ _ from Aa ?_)));cases hx:xs[k1]? with
 |none=>exact zfl h i hx λd e u f=>q d e (λc o n m _ y=>u _ _ m (k c o n y)) f
 | some x =>
  have v:=r.resolve_left (by rw[hx];simp);refine zcv i hx D.l1i1 λd I u=>Ae (Ae ?_);have a : ∀c o,c≠z->c≠i1->s.heap.get? c=Za o->d.get? c=Za o:=λc o n m e=>u.extBut _ _ m (k c o n e);exact Aa (Aa (Bh (show wpAny _ _ (Builtin.SmallTypes.nextOf (.ref i2)>>=_) _ _ _ from Aa (zfl h (t.at (λo=>a _ o D.i2z D.i12.symm) λo=>a _ o D.l2z D.l2i1) v λH e B f=>q H e (λc o n m p y=>B _ _ p (a c o n m y)) f))))
noncomputable def ZU (h:Heap) (z TI TO c d l e C:Zh) (xs ys:Array Ze) (i:Nat):Prop :=
 IsPair h TI (.ref c) (.ref d)/\Src h c l i xs/\Src h d e i ys/\((IsZip h z TI TO .none/\∃a b,IsPair h TO a b)\/∃T b,zhz h z TI TO T b/\(∃o,h.get? T=Za o)/\T ∉ [z,c,d,C])
theorem ZU.frame (x:ZU h z TI TO i1 i2 l1 l2 C xs ys i)(n:C ∉ [z,TI,TO,i1,i2,l1,l2])(k:∀c o,c≠C->h.get? c=Za o->h'.get? c=Za o):ZU h' z TI TO i1 i2 l1 l2 C xs ys i:=by
 obtain⟨p,s,w,r⟩:=x;simp only [Ak,Bb,Dk,not_or] at n;obtain⟨f,q,u,v,j,l,m⟩:=n;refine⟨k _ _ (Ne.symm q) p,s.at (λo=>k _ o (Ne.symm v)) λo=>k _ o (Ne.symm l),w.at (λo=>k _ o (Ne.symm j)) λo=>k _ o (Ne.symm m),?_⟩;rcases r with⟨g,a,b,go⟩|⟨T,b,g,⟨o,t⟩,d⟩
 ·exact .inl ⟨k _ _ (Ne.symm f) g,a,b,k _ _ (Ne.symm u) go⟩
 ·exact .inr ⟨T,b,k _ _ (Ne.symm f) g,⟨o,k _ _ (λe=>d (by simp [e])) t⟩,d⟩
theorem z6q {Q:Option Ze->Zf->Prop} (D:ZipApart z TI TO i1 i2 l1 l2) (st:ZU s.heap z TI TO i1 i2 l1 l2 C xs ys i) (L:C<s.heap.objs.size) (B:xs[i]?=Za x) (H:ys[i]?=Za y)
  (q:∀h' f,ZU h' z TI TO i1 i2 l1 l2 C xs ys (i+1)->IsPair h' f x y->s.heap.objs.size<=f->(∀c o,c ∉ [z,TO,i1,i2]->s.heap.get? c=Za o->h'.get? c=Za o)->Q (Za (.ref f)) { s with heap:=h' }):wpAny (model prog w) A (pyNext (.ref z)) Q E s:=by
 obtain⟨j,t,p,r⟩:=st;have lt:∀{c o},s.heap.get? c=Za o->s.heap.objs.size≠c:=λe=>Fu (Am e);obtain⟨P,K,_⟩:=t.iter;obtain⟨O,J,_⟩:=p.iter;rcases r with⟨g,a,b,go⟩|⟨T,b,g,⟨G,I⟩,n⟩
 ·refine pn_item D g j go t p B H λh' l N u m k d=>q h' _ ⟨d _ _ D.TIz D.TITO D.TIi1 D.TIi2 j,u,m,.inr ⟨s.heap.objs.size,Zc,l,⟨_,k⟩, ?_⟩⟩ k (Ag _) λc o h e => ?_
  ·simp only [Ak,Bb,Dk,not_or];exact⟨lt g,lt K,lt J,Fu L⟩
  ·simp only [Ak,Bb,Dk,not_or] at h;exact d c o h.1 h.2.1 h.2.2.1 h.2.2.2 e
 ·have ty:s.TypeIs (.ref z) "zip" := ⟨_,g,rfl⟩;have v:=n;simp only [Ak,not_or] at n;refine Aa (Et (Ch ty Eo (Cz Eo ty F.entry_zip_next (z55 D g ⟨G,I⟩ j t p B H λh' f l u m k M d=>Ae (q h' f ⟨d _ _ D.TIz D.TIi1 D.TIi2 j,u,m,.inr ⟨T,Zd,l,⟨G,d _ _ n.1 n.2.1 n.2.2.1 I⟩,v⟩⟩ k M λc o h e=>?_)) (Hu _))));simp only [Ak,Bb,Dk,not_or] at h;exact d c o h.1 h.2.2.1 h.2.2.2 e
theorem yal {Q:Option Ze->Zf->Prop} (j:A.handled=Zb) (D:ZipApart z TI TO i1 i2 l1 l2) (st:ZU s.heap z TI TO i1 i2 l1 l2 C xs ys i) (m:xs[i]?=Zb\/ys[i]?=Zb)
  (q:∀h',(∀c o,c ∉ [z,TO,i1,i2]->s.heap.get? c=Za o->h'.get? c=Za o)->Q Zb { s with heap:=h' }):wpAny (model prog w) A (pyNext (.ref z)) Q E s:=by
 obtain⟨f,l,n,r⟩:=st;rcases r with⟨g,a,b,go⟩|⟨T,b,g,t,v⟩
 ·refine pn_end j D g f go l n m λh' k=>q h' λc o h e => ?_;simp only [Ak,Bb,Dk,not_or] at h;exact k c o h.1 h.2.1 h.2.2.1 h.2.2.2 e
 ·have ty:s.TypeIs (.ref z) "zip" := ⟨_,g,rfl⟩;refine Aa (Et (Ch ty Eo (Cz Eo ty F.entry_zip_next (zrj j D g t f l n m λh' e k p=>?_) (Hu _))));obtain⟨o,d,u⟩:=p;refine Aa (Ey ⟨o,d,u⟩ isSubtype_stop (Ae (q _ λc o h e=>?_)));simp only [Ak,Bb,Dk,not_or] at h;exact k c o h.1 h.2.2.1 h.2.2.2 e
end
noncomputable def SrcO (h:Heap) (b:Bool) (l:Zh) (xs:Array Ze):Prop:=match b with
 |true=>h.IsList l xs
 |false=>h.IsTuple l xs
noncomputable def itO (b:Bool) (l:Zh):Obj:={ cls:=.type (if b then "list_iterator" else "tuple_iterator"),data:=.fields #[.ref l,.int 0 0] }
theorem SrcO.push (c:SrcO h b l xs) (o:Obj):SrcO (h.push o) b l xs:=by
 cases b with
 |true=>exact Heap.IsList.push c o
 | false =>
  obtain⟨q,e,r⟩:=c;exact⟨q,Ab _ e,r⟩
section
theorem zgj (c:SrcO s.heap b l xs)(q:Q (.ref s.heap.objs.size) { s with heap:=s.heap.push (itO b l) }):wpAny (model prog w) A (pyIter (.ref l)) Q E s:=by
 cases b with
 |true=>exact Ep c q
 |false=>exact Gp c q
end
noncomputable abbrev zA (h:Heap) (b:Bool) (l:Zh):Heap:=h.push (itO b l)
noncomputable abbrev zB (h:Heap) (b c:Bool) (l m:Zh):Heap:=(zA h b l).push (itO c m)
noncomputable abbrev zC (h:Heap) (b c:Bool) (l m:Zh):Heap:=(zB h b c l m).push { cls:=.type "tuple",data:=.seq #[.ref h.objs.size,.ref (zA h b l).objs.size] }
noncomputable abbrev zD (h:Heap) (b c:Bool) (l m:Zh):Heap:=(zC h b c l m).push { cls:=.type "tuple",data:=.seq #[.none,.none] }
noncomputable abbrev zE (h:Heap) (b c:Bool) (l m:Zh):Heap:=(zD h b c l m).push { cls:=.type "zip",data:=.fields #[.none,.bool Zc,.bool Zc,.ref (zB h b c l m).objs.size,.ref (zC h b c l m).objs.size] }
theorem zsv (b c:Bool)(l m:Zh)(xs ys:Array Ze):Meets (Builtin.«zip.__new__» ⟨[.type "zip",.ref l,.ref m],[]⟩) (λ_ R s=>SrcO s.heap b l xs/\SrcO s.heap c m ys/\R (.ok (.ret (.ref (zD s.heap b c l m).objs.size))) { s with heap:=zE s.heap b c l m }) :=
 .of_wp λprog w A R s h=>by
  obtain⟨e,g,d,t,o⟩:=s;obtain⟨x,f,h⟩:=h;have a:=sub_zip;have y:=x;have i:SrcO (Zf.heap ⟨e.push (itO b l),g,d,t,o⟩) c m ys:=SrcO.push f _
  wp_walk using zgj y,zgj i
  exact⟨_,rfl,h⟩
section
theorem z2r (c:SrcO h b l xs)(e:h.get? it=Za (itO b l)):Src h it l 0 xs:=by
 cases b with
 |true=>exact .inl ⟨⟨_,e,rfl,rfl⟩,c⟩
 |false=>exact .inr ⟨⟨_,e,rfl,rfl⟩,c⟩
theorem zpy (p:SrcO s.heap b l xs) (q:SrcO s.heap c m ys)
  (h:∀h',IsZip h' (s.heap.objs.size+4) (s.heap.objs.size+2) (s.heap.objs.size+3) .none->IsPair h' (s.heap.objs.size+2) (.ref s.heap.objs.size) (.ref #v[5,10])->IsPair h' (s.heap.objs.size+3) .none .none ->
   h'.get? s.heap.objs.size=Za (itO b l)->h'.get? #v[5,10]=Za (itO c m)->(∀c o,s.heap.get? c=Za o->h'.get? c=Za o)->Q (.ref (s.heap.objs.size+4)) { s with heap:=h' }) :
  wpAny (model prog w) A (call (.type "zip") [.ref l,.ref m]) Q E s:=by
 refine callType_new F.called_zip #v[0,9] (F.typeCall_zip_2 _ _) (F.newCall_zip_2 _ _) (λobj=>F.args_object_init_3 obj _ _) F.entry_zip_new (zsv b c l m xs ys) ⟨p,q,?_⟩;have n:(zA s.heap b l).objs.size=s.heap.objs.size+1:=Cr ..;have a:(zB s.heap b c l m).objs.size=s.heap.objs.size+2:=by rw[Cr,n]
 have d:(zC s.heap b c l m).objs.size=s.heap.objs.size+3:=by rw[Cr,a]
 have j:(zD s.heap b c l m).objs.size=s.heap.objs.size+4:=by rw[Cr,d]
 have u:∀r o,s.heap.get? r=Za o->(zE s.heap b c l m).get? r=Za o:=λr o x=>Ab _ (Ab _ (Ab _ (Ab _ (Ab _ x))));have e:(zE s.heap b c l m).get? (zD s.heap b c l m).objs.size=Za _:=An _ rfl;have g:(zE s.heap b c l m).get? (zC s.heap b c l m).objs.size=Za _:=Ab _ (An _ rfl);have i:(zE s.heap b c l m).get? (zB s.heap b c l m).objs.size=Za _:=Ab _ (Ab _ (An _ rfl));have f:(zE s.heap b c l m).get? (zA s.heap b l).objs.size=Za (itO c m):=Ab _ (Ab _ (Ab _ (An _ rfl)));have k:(zE s.heap b c l m).get? s.heap.objs.size=Za (itO b l):=Ab _ (Ab _ (Ab _ (Ab _ (An _ rfl))));show _/\_;rw[a,d,j] at e;rw[n,a] at i;rw[d] at g;rw[n] at f;rw[j];exact⟨⟨_,e,rfl⟩,h _ e i g k f u⟩
end
noncomputable def SqK (K:Zg) (k:Bool) (H:Hp) (a:Zh) (xs:List V):Prop:=match k with
 |true=>SqL K H a xs
 |false=>SqT K H a xs
noncomputable def ItI (h:Heap) (k:Bool) (it l:Zh) (i:Nat):Prop:=match k with
 |true=>h.IsListIter it l i
 |false=>h.IsTupleIter it l i
theorem SqK.mono {K:Zg}(s:Same F H)(h:SqK K k F a xs):SqK K k H a xs:=by
 cases k with
 |true=>exact s.seq h
 |false=>exact zb9 s h
theorem Inv.sqK (I:Inv X pins σ H s)(h:SqK X.K k H a xs):∃i:List Ze,Vals xs i/\SrcO s.heap k a i.toArray:=by
 cases k with
 |true=>obtain⟨i,r,p,_⟩:=I.list h;exact⟨i,r,p.isList⟩
 |false=>obtain⟨i,r,p,_⟩:=I.tuple h;exact⟨i,r,p⟩
theorem Inv.sqK_inj (I:Inv X pins σ H s)(h:SqK X.K k H a xs)(h':SqK X.K k H a ys):xs=ys:=by
 cases k with
 |true=>exact I.list_inj h h'
 |false=>exact I.tuple_inj h h'
theorem ItI.src (a:ItI h k it l i)(b:SrcO h k l xs):Src h it l i xs:=by
 cases k with
 |true=>exact .inl ⟨a,b⟩
 |false=>exact .inr ⟨a,b⟩
theorem Src.itI (c:Src h it l i xs) (b:SrcO h k l xs):ItI h k it l i:=by
 cases k with
 | true =>
  rcases c with⟨c,_⟩|⟨_,⟨o,e,q,_⟩⟩
  ·exact c
  ·obtain ⟨f, a, d, _⟩:=b
   rw[e] at a;obtain rfl:=sI a;rw[q] at d;simp at d
 | false =>
  rcases c with⟨_,⟨o,e,q,_⟩⟩|⟨c,_⟩
  ·obtain ⟨f, a, d, _⟩:=b
   rw[e] at a;obtain rfl:=sI a;rw[q] at d;simp at d
  ·exact c
theorem ItI.at (a:ItI h k it l i)(q:∀o,h.get? it=Za o->h'.get? it=Za o):ItI h' k it l i:=by
 cases k with
 |true=>exact Heap.IsListIter.at a q
 |false=>exact Heap.IsTupleIter.at a q
theorem ItI.obj (a:ItI h k it l i):∃o,h.get? it=Za o/\∀v,o.data≠.cell v:=by
 cases k with
 |true=>obtain⟨o,e,_,d⟩:=a;exact⟨o,e,λv z=>by rw[d] at z;cases z⟩
 |false=>obtain⟨o,e,_,d⟩:=a;exact⟨o,e,λv z=>by rw[d] at z;cases z⟩
noncomputable def Itz (K:Zg) (e k:Bool) (a b:Zh):It :=
 ⟨λi H=>∃d c x y,SqK K e H a d/\SqK K k H b c/\d[i]?=Za x/\c[i]?=Za y,
  λi H x f=>∃p v u,x=.ref p/\H p=Zb/\f=upd H p (.tup [v,u])/\(∀d,SqK K e H a d->d[i]?=Za v)/\(∀c,SqK K k H b c->c[i]?=Za u),
  λi H=>∃d c,SqK K e H a d/\SqK K k H b c/\(d.length<=i\/c.length<=i)⟩
noncomputable def zSt (e k:Bool) (z TI TO c d a b:Zh) (i:Nat) (h:Heap):Prop:=IsZip h z TI TO .none/\IsPair h TI (.ref c) (.ref d)/\(∃u v,IsPair h TO u v)/\ItI h e c a i/\ItI h k d b i
theorem z1j {K:Zg}{x1}(M N:Bool)(z TI TO m p a b:Zh)(D:ZipApart z TI TO m p a b):Turn P w K (.Tuple es x1 px) (Itz K M N a b) [z,TI,TO,m,p] z (zSt M N z TI TO m p a b) where
 mem:=by simp
 obj:=λi h t c L=>by
  nofun;obtain⟨l,n,⟨u,v,go⟩,A,B⟩:=t;ac_rfl;simp only [Ak,Aw,Bb,Dk] at L;rcases L with rfl|rfl|rfl|rfl|rfl
  ·exact⟨_,l,λv q=>by cases q⟩
  ·exact⟨_,n,λv q=>by cases q⟩
  ·exact⟨_,go,λv q=>by cases q⟩
  ·exact A.obj
  ·exact B.obj
 keep:=λi h Y t k=>by
  nofun;obtain⟨l,n,⟨u,v,go⟩,A,B⟩:=t;ac_rfl;exact⟨k z (by simp) _ l,k TI (by simp) _ n,⟨u,v,k TO (by simp) _ go⟩,A.at λo e=>k m (by simp) o e,B.at λo e=>k p (by simp) o e⟩
 item:=by
  intro X hP hw hK L i pins s σ H E I W t hg;subst hP hw hK;nofun;obtain⟨xs,ys,x,y,V,U,e1,e2⟩:=hg;obtain⟨l,n,⟨u0,v0,go⟩,A,B⟩:=t;obtain⟨R,r1,f⟩:=I.sqK V;obtain⟨its',Z,j⟩:=I.sqK U;obtain⟨u,hu,ru⟩:=r1.get e1;obtain⟨v,hv,rv⟩:=Z.get e2;ac_rfl;refine pn_item D l n go (A.src f) (B.src j) (x:=u) (y:=v) (by simpa using hu) (by simpa using hv) λY g1 g2 g3 g4 g5 F=>⟨_,rfl,?_⟩;refine wpAny_letOwnedTupleGo_zip g1 λg k1 C=>?_;have lt:∀c o,s.heap.get? c=Za o->c≠s.heap.objs.size:=λc o e=>Ba (Am e);have kk:∀c o,c ∉ [z,TI,TO,m,p]->s.heap.get? c=Za o->g.get? c=Za o:=λc o d e=>by
   simp only [Ak,Aw,Bb,Dk,not_or] at d;exact (C.2 c d.1).trans (F c o d.1 d.2.2.1 d.2.2.2.1 d.2.2.2.2 e)
  have Q:SrcO Y M a R.toArray:=by
   cases M with
   |true=>exact f.at λo e=>F a o D.l1z D.l1TO D.l1i1 D.l1i2 e
   |false=>obtain⟨o,e,r⟩:=f;exact⟨o,F a o D.l1z D.l1TO D.l1i1 D.l1i2 e,r⟩
  have T:SrcO Y N b its'.toArray:=by
   cases N with
   |true=>exact j.at λo e=>F b o D.l2z D.l2TO D.l2i1 D.l2i2 e
   |false=>obtain⟨o,e,r⟩:=j;exact⟨o,F b o D.l2z D.l2TO D.l2i1 D.l2i2 e,r⟩
  have S:ItI g M m a (i+1):=(g3.itI Q).at λo e=>(C.2 m D.i1z).trans e;have O:ItI g N p b (i+1):=(g4.itI T).at λo e=>(C.2 p D.i2z).trans e;have J:IsPair g TI (.ref m) (.ref p):=(C.2 TI D.TIz).trans (F TI _ D.TIz D.TITO D.TIi1 D.TIi2 n);have G:IsPair g TO u v:=(C.2 TO D.TOz).trans g2;have Tz:s.heap.objs.size≠z:=(lt z _ l).symm;refine⟨.ref s.heap.objs.size,upd H s.heap.objs.size (.tup [x,y]),I.turnLay kk (λc d=>?_) W (Ag _) ⟨by show 2<=sizeLine;decide,[u,v],.cons ru (.cons rv .nil),?_⟩,rfl,⟨_,x,y,rfl,I.hok.fresh (Ag _),rfl,λzs hz=>by rw[I.sqK_inj hz V];exact e1,λzs hz=>by rw[I.sqK_inj hz U];exact e2⟩,⟨k1,J,⟨u,v,G⟩,S,O⟩,λc d=>?_⟩
  ·simp only [Ak,Aw,Bb,Dk] at d;rcases d with rfl|rfl|rfl|rfl|rfl
   ·exact⟨_,k1⟩
   ·exact⟨_,J⟩
   ·exact⟨_,G⟩
   ·obtain⟨o,e,_⟩:=S.obj;exact⟨o,e⟩
   ·obtain⟨o,e,_⟩:=O.obj;exact⟨o,e⟩
  ·exact⟨_,(C.2 _ Tz).trans g5,⟨rfl,_,rfl⟩,rfl⟩
  ·have ne:c≠s.heap.objs.size:=by
    simp only [Ak,Aw,Bb,Dk] at d;rcases d with rfl|rfl|rfl|rfl|rfl
    ·exact lt _ _ l
    ·exact lt _ _ n
    ·exact lt _ _ go
    ·obtain⟨o,e,_⟩:=A.obj;exact lt _ _ e
    ·obtain⟨o,e,_⟩:=B.obj;exact lt _ _ e
   rw[upd_ne ne];exact (W c d).1
 done:=by
  intro X hP hw hK L i pins s σ H E I W t hg;subst hP hw hK;nofun;obtain⟨xs,ys,V,U,he⟩:=hg;obtain⟨l,n,⟨u0,v0,go⟩,A,B⟩:=t;obtain⟨R,r1,f⟩:=I.sqK V;obtain⟨its',Z,j⟩:=I.sqK U;ac_rfl;have l1:=r1.length;have l2:=Z.length;refine pn_end (I.ok.hd L) D l n go (A.src f) (B.src j) ?_ λY k=>⟨rfl,I.turnL (t':=s.toks) (ch:=[z,TI,TO,m,p]) (λc o d e=>?_) W⟩
  ·rcases he with he|he
   ·exact .inl (Dn (by simp;symm))
   ·exact .inr (Dn (by simp;symm))
  ·simp only [Ak,Aw,Bb,Dk,not_or] at d;exact k c o d.1 d.2.2.1 d.2.2.2.1 d.2.2.2.2 e
 self:=λ_ _ _ _ _ t h=>wpAny_pyIter_zip t.1 h
theorem zp0:bootBuiltins "zip" = Za (.type "zip"):=by decide +kernel
section
noncomputable def iZip (K:Zg) (t:TA):TI:=λσ H R=>t σ H λv c=>∃a b d k x y,v=[.ref a,.ref b]/\SqK K d c a x/\SqK K k c b y/\R (Itz K d k a b) c
theorem z8v {E} (K:Gl X "zip") (S:X.mg "zip" = Zb) (O:PA X [l,m] tl) (U:starEach [l,m] X.env=[(Zc,eval l X.env),(Zc,eval m X.env)]) (j:starEach [m] X.env=[(Zc,eval m X.env)]) :
  PI X (.Tuple es E px) (.Call (.Name "zip" p) [l,m] [] pos) (iZip X.K tl):=by
 intro pins s σ H R I h;refine Call_ (zc5 I K S zp0 (Bt (thn (O pos pins s σ H _ I h) λus d ⟨vs,N,i,M,L⟩=>?_) (by rw[U,j]) (by rw[j];rfl)));nofun;obtain⟨a,b,t,v,xs,ys,e,F,V,q⟩:=L;refine qG ?_;subst e;cases M with
 | cons r x =>
  cases x with
  | cons P x =>
   cases x;cases r;cases P;refine aG λ_ qG=>?_;obtain ⟨Y,G,f⟩:=i.sqK F;obtain ⟨its',J,g⟩:=i.sqK V;refine qG ?_;refine zpy f g λA B W g3 Z Q u=>wpAny_pyIter_zip B ?_;have n:a<d.heap.objs.size:=by
    cases t with
    |true=>obtain⟨o,e,_⟩:=f;exact Am e
    |false=>obtain⟨o,e,_⟩:=f;exact Am e
   have w:b<d.heap.objs.size:=by
    cases v with
    |true=>obtain⟨o,e,_⟩:=g;exact Am e
    |false=>obtain⟨o,e,_⟩:=g;exact Am e
   have D:ZipApart (d.heap.objs.size+4) (d.heap.objs.size+2) (d.heap.objs.size+3) d.heap.objs.size (d.heap.objs.size+1) a b:=by
    have u:∀{c:Zh} (k:Nat),c<d.heap.objs.size->c≠d.heap.objs.size+k:=λk h=>Ba (Bc h (Cm _ k));refine⟨?_,?_,?_,?_,?_,?_,?_,?_,?_,?_,u 4 n,u 3 n,u 0 n,u 1 n,u 4 w,u 3 w,u 0 w,u 1 w⟩<;>(intro z;have z':(_:Nat)=_:=z;symm)
   have C:ItI A t d.heap.objs.size a 0:=by cases t<;>exact⟨_,Z,rfl,rfl⟩
   have T:ItI A v (d.heap.objs.size+1) b 0:=by cases v<;>exact⟨_,Q,rfl,rfl⟩
   refine ⟨_,_,_,_,N,rfl,i.kept (t':=d.toks) u,z1j t v _ _ _ _ _ a b D,⟨B,W,⟨_,_,g3⟩,C,T⟩,λc y=>?_,q⟩;have le:d.heap.objs.size<=c:=by
    simp only [Ak,Bb,Dk] at y;rcases y with rfl|rfl|rfl|rfl|rfl
    ·exact Cm _ _
    ·exact Cm _ _
    ·exact Cm _ _
    ·exact Ag _
    ·exact Cm _ _
   exact i.fpOk le (i.hok.fresh le)
end
noncomputable def zipW:List W->List W->List W
 |x::b,y::a=>.tup [x,y]::zipW b a
 |_,_=>[]
theorem zeb:∀(xs ys:List W),(zipW xs ys).length=min xs.length ys.length
 |[],_=>by simp [zipW]
 |_::_,[]=>by simp [zipW]
 |_::xs,_::ys=>by simp only [zipW,Bf,zeb xs ys];symm
theorem ziv:∀{xs ys:List W}{i:Nat}{x y:W},xs[i]?=Za x->ys[i]?=Za y->(zipW xs ys)[i]?=Za (.tup [x,y])
 |[],_,_,_,_,e,_=>by simp at e
 |_::_,[],_,_,_,_,e=>by simp at e
 |_::xs,_::ys,0,_,_,e,a=>by simp at e a;subst e a;rfl
 | _::xs,_::ys,i+1,x,y,e,a=>by
  show (zipW xs ys)[i]?=_;exact ziv (by simpa using e) (by simpa using a)
noncomputable def gZip (g g':GE):GL:=λe=>(g e).bind λp=>(g' p.1).bind λq=>(seqW p.2.1).bind λw=>(seqW q.2.1).bind λu=>Za (q.1,zipW w u)
section
variable {K:Zg}
theorem zbw (y:Rep K F w v) (h:seqW w=Za ws):∃a k vs,v=.ref a/\SqK K k F a vs/\Reps K F ws vs:=by
 cases w with
 | lst x=>obtain rfl:=sI h;cases y with
  |lst y r=>exact⟨_,Zd,_,rfl,SqL.of' y,r⟩
 | frl x=>obtain rfl:=sI h;cases y with
  |frl y r=>exact⟨_,Zd,_,rfl,y,r⟩
 | tup x=>obtain rfl:=sI h;cases y with
  |tup y r=>exact⟨_,Zc,_,rfl,.inl (.inl y),r⟩
 |_=>exact noSome h
theorem yaq (h:SqK K ka F a vs)(h':SqK K kb F b us)(r:Reps K F ws vs)(c:Reps K F zs us):ItOk K F (Itz K ka kb a b) (zipW ws zs) where
 go:=λi H s d=>by
  rw[zeb] at d;have l:i<vs.length:=by rw[<-r.length];symm
  have m:i<us.length:=by rw[<-c.length];symm
  exact⟨vs,us,vs[i],us[i],h.mono s,h'.mono s,Ad l,Ad m⟩
 stop:=λH s=>⟨vs,us,h.mono s,h'.mono s,by rw[zeb,r.length,c.length];symm⟩
 yld:=λi H x z s d y=>by
  nofun;obtain⟨p,v,u,k,j,f,e,t⟩:=y;refine qG ?_;subst k f;nofun;obtain⟨w,o,q⟩:=r.getV (e vs (h.mono s));obtain⟨A,g,n⟩:=c.getV (t us (h'.mono s));ac_rfl;exact⟨_,ziv o g,.tup j (.cons q (.cons n .nil))⟩
theorem zx7 (h:tI K (gZip g g') σ H R):iZip K (ze8 (tE K g) (ze8 (tE K g') tNil)) σ H R:=by
 nofun;obtain⟨F,p,t,N,W,Re,h,q⟩:=h;obtain⟨⟨i,A⟩,D,h⟩:=bS h;obtain⟨⟨w,r⟩,m,h⟩:=bS h;obtain⟨X,M,h⟩:=bS h;obtain⟨U,e,h⟩:=bS h;refine qG ?_;cases h;refine⟨F,p,t,i,A,Re,D,λY V v I B z=>?_⟩;nofun;obtain⟨G,x,R2,y⟩:=z.freeze B;ac_rfl;refine⟨G,p,i,w,r,R2,m,λT Q Z k n l=>?_⟩;nofun;obtain⟨S,s,d,O⟩:=l.freeze n;obtain⟨a,J,o,C,j,u⟩:=zbw (y.mono (k.trans s)) M;obtain⟨b,L,c,P,f,E⟩:=zbw O e;ac_rfl;subst C P;exact⟨a,b,J,L,o,c,rfl,j.mono d.sub,f.mono d.sub,q S Q _ (I.trans (x.trans (k.trans s))) d (yaq j f u E)⟩
end
open AutoSeq1 (wpAny_loadPart')
section
variable {prog:Program}{w:World}{A:Around}{E:Ze->Zf->Prop}{s:Zf}
theorem zu9 {it l:Zh}{xs:Array Ze}(n:l≠it)(t:A.handled=Zb):Draws prog w A.in1 it [it,l] xs.size (λi x=>xs[i]?=Za x) (λk h=>h.IsTupleIter it l k/\h.IsTuple l xs) where
 live:=λi h a=>let ⟨⟨o,e,_⟩,_⟩:=a;⟨o,e⟩
 frame:=λi h m a k=>⟨a.1.at λo e=>k it (by simp) o e,let ⟨o,e,r⟩:=a.2;⟨o,k l (by simp) o e,r⟩⟩
 item:=λi s Q E j a q=>zcv (k:=i) (xs:=xs) (x:=xs[i]) (.inr a) (Fy j) n λm c d=>by
  rcases c with⟨⟨o,e,B,_⟩,b⟩|c
  ·obtain ⟨C, z, u, _⟩:=a.1;have:=a.2;exact absurd b (λb=>by
   obtain⟨D,g,f,_⟩:=b;obtain⟨F,p,y,_⟩:=a.2;rw[(d.2 l n).trans p] at g;obtain rfl:=sI g;rw[y] at f;exact absurd (Ze.type.inj f) #v[0,9])
  ·exact q xs[i] m s.toks (Fy j) c d
 done:=λs Q E a q=>zfl (k:=xs.size) (xs:=xs) (show A.in1.handled=Zb from t) (.inr a) (Dn (Ag _)) q
theorem zmu (l:Zh) (items:Array Ze) (n:Nat) (dct:Option Zh) (i:Array (Option Ze)) :
  Meets (Builtin.«enumerate.__new__» ⟨[.type "enumerate",.ref l],[]⟩) (λ_ R s=>s.heap.get? l=Za { cls:=.type "tuple",dict:=dct,data:=.seq items n,slots:=i } /\
   R (.ok (.ret (.ref (s.heap.push { cls:=.type "tuple_iterator",data:=.fields #[.ref l,.int 0 0] }).objs.size)))
    { s with heap:=(s.heap.push { cls:=.type "tuple_iterator",data:=.fields #[.ref l,.int 0 0] }).push { cls:=.type "enumerate",data:=.fields #[.none,.bool Zc,.ref s.heap.objs.size,rawInt 0,.none,.none] } }) :=
 .of_wp λprog w A R s h=>by
  obtain⟨f,g,d,t,o⟩:=s;obtain⟨a,h⟩:=h;have e:=sub_enumerate;have b:Heap.IsTuple (Zf.heap ⟨f,g,d,t,o⟩) l items:=⟨_,a,rfl,n,rfl⟩
  wp_walk using Cp a
  refine wpAny_stack_any λj=>Ae ?_;split
  ·rename_i c _ _ _ _ _;cases (c==Ze.type "enumerate")<;>(wp_walk using Cp a,Gp b)<;>exact⟨_,rfl,h⟩
  ·wp_walk using Cp a,Gp b
   exact⟨_,rfl,h⟩
theorem zrn (g:s.heap.IsTuple l items)
  (h:∀h',IsEnum h' #v[5,10] s.heap.objs.size 0 .none->h'.IsTupleIter s.heap.objs.size l 0->(∀b o,s.heap.get? b=Za o->h'.get? b=Za o)->Q (.ref #v[5,10]) { s with heap:=h' }) :
  wpAny (model prog w) A (call (.type "enumerate") [.ref l]) Q E s:=by
 nofun;obtain⟨⟨c,dct,i,f⟩,j,e,n,k⟩:=g;ac_rfl;cases (show c=.type "tuple" from e);cases (show i=.seq items n from k);refine callType_new F.called_enumerate #v[0,9] (F.typeCall_enumerate_1 _) (F.newCall_enumerate_1 _) (λobj=>F.args_object_init_2 obj _) F.entry_enumerate_new (zmu l items n dct f) ⟨j,?_⟩;have d:(s.heap.push { cls:=.type "tuple_iterator",data:=.fields #[.ref l,.int 0 0] }).objs.size=s.heap.objs.size+1:=Cr ..;show _/\_;rw[d];have a:=An (s.heap.push { cls:=.type "tuple_iterator",data:=.fields #[.ref l,.int 0 0] }) (o:={ cls:=.type "enumerate",data:=.fields #[.none,.bool Zc,.ref s.heap.objs.size,rawInt 0,.none,.none] }) rfl;rw[d] at a;exact⟨⟨_,a,rfl⟩,h _ a ⟨_,Ab _ (An _ rfl),rfl,rfl⟩ λb o x=>Ab _ (Ab _ x)⟩
end
noncomputable def IteT (K:Zg) (a:Zh):It :=
 ⟨λi H=>∃b x,SqT K H a b/\b[i]?=Za x,λi H x c=>∃p v,x=.ref p/\H p=Zb/\c=upd H p (.tup [.int i,v])/\∀b,SqT K H a b->b[i]?=Za v,λi H=>∃b,SqT K H a b/\b.length<=i⟩
theorem zqz {K:Zg}{x1}(a e it:Zh)(B:e≠it)(Y:e≠a)(Q:a≠it):Turn P w K (.Tuple es x1 px) (IteT K a) [e,it] e (λi h=>(∃g,IsEnum h e it i g)/\h.IsTupleIter it a i) where
 mem:=by simp
 obj:=λi h r b f=>by
  nofun;obtain⟨⟨g,j⟩,o,hi,c,d⟩:=r;ac_rfl;rcases Ak.mp f with rfl|f
  ·exact⟨_,j,λv z=>by cases z⟩
  ·have:b=it:=by simpa using f
   subst this;exact⟨o,hi,λv z=>by rw[d] at z;cases z⟩
 keep:=λi h h' r k=>⟨let ⟨g,j⟩:=r.1;⟨g,k e (by simp) _ j⟩,r.2.at λo z=>k it (by simp) o z⟩
 item:=by
  intro X W Z hK R i pins s σ H E I J r O;subst W Z hK;nofun;obtain⟨xs,x,L,hx⟩:=O;obtain⟨m,rv,p,hz⟩:=I.tuple L;obtain⟨u,hu,ru⟩:=rv.get hx;obtain⟨⟨g,j⟩,t⟩:=r;ac_rfl;have hT:s.heap.IsTuple a m.toArray:=p;have lt:i<m.toArray.size:=by
   rw[Ai];exact (Ah.mp hu).1
  refine wpAny_pyNext_enum_itemD (zu9 Q (I.ok.hd R)) j ⟨t,hT⟩ lt B (by simp [B,Y]) λy h' tk V M S N hsz hk=>⟨_,rfl,?_⟩;have eu:y=u:=by
   have:m[i]?=Za y:=by simpa using V
   rw[hu] at this;exact (sI this).symm
  subst eu;refine wpAny_letOwnedTupleGo_enum M λD A l=>?_;have kk:∀b o,b ∉ [e,it]->s.heap.get? b=Za o->D.get? b=Za o:=λb o f q=>by
   have h1:b≠e:=λz=>f (by simp [z]);have h2:b≠it:=λz=>f (by simp [z]);exact (l.2 b h1).trans (hk b o h1 h2 q)
  have G:s.heap.objs.size≠e:=λz=>absurd (Am j) (by rw[z];exact Bp _);have n:D.IsTupleIter it a (i+1):=S.1.at λo y=>(l.2 it B.symm).trans y;refine⟨.ref s.heap.objs.size,upd H s.heap.objs.size (.tup [.int i,x]),I.turnLay kk (λb f=>?_) J (Ag _) ⟨by show 2<=sizeLine;decide,[.int i tk,y],.cons ⟨_,rfl⟩ (.cons ru .nil),?_⟩,rfl,⟨_,x,rfl,I.hok.fresh (Ag _),rfl,λys V=>by rw[I.tuple_inj V L];exact hx⟩,⟨⟨_,by simpa using A⟩,n⟩,λb f=>?_⟩
  ·rcases Ak.mp f with rfl|f
   ·exact⟨_,A⟩
   ·have:b=it:=by simpa using f
    subst this;obtain⟨o,z,_⟩:=n;exact⟨o,z⟩
  ·exact⟨_,(l.2 _ G).trans N,⟨rfl,_,rfl⟩,rfl⟩
  ·have:b≠s.heap.objs.size:=by
    rcases Ak.mp f with rfl|f
    ·exact G.symm
    ·have e2:b=it:=by simpa using f
     subst e2;obtain⟨o,z,_⟩:=t;exact Ba (Am z)
   rw[upd_ne this];exact (J b f).1
 done:=by
  intro X W Z hK R i pins s σ H E I J r O;subst W Z hK;nofun;obtain⟨xs,L,hx⟩:=O;obtain⟨m,rv,p,hz⟩:=I.tuple L;obtain⟨⟨g,j⟩,t⟩:=r;obtain⟨f0,f1,f2,f3,f4,f5⟩:=J it (by simp);ac_rfl;have hl:=rv.length;have hT:s.heap.IsTuple a m.toArray:=p;have C:s.TypeIs (.ref e) "enumerate" := ⟨_,j,rfl⟩;unfold pyNext;refine Aa (Et (Ch (name:=Str.ofString "__next__") C F.slot_enumerate_next (Cz F.slot_enumerate_next C F.entry_enumerate_next ?_ (F.args_enumerate_next_1 _))));show wpAny _ _ (field (.ref e) 2>>=_) _ _ _;refine Aa (Ca j rfl (x:=.ref it) rfl ?_);refine Aa (zfl (show _=Zb from I.ok.hd R) (.inr ⟨t,hT⟩) (Dn (by simp;symm)) λh' x eb hx'=>?_);obtain⟨o,M,U⟩:=hx';refine Aa (Ey (T := "StopIteration") (b:=Zd) ⟨o,M,U⟩ isSubtype_stop ?_);exact Ae ⟨rfl,I.turned (t':=s.toks) (λb o f e=>eb b o f e) f0 f1 f3 f4 f5⟩
 self:=λ_ _ _ _ _ r h=>let ⟨_,j⟩:=r.1;Hs j h
section
noncomputable def z21 (K:Zg) (t:TA):TI:=λσ H R=>t σ H λv b=>∃a x,v=[.ref a]/\(SqL K b a x/\R (Ite K a) b\/SqT K b a x/\R (IteT K a) b)
theorem zyq {x} (v:Gl X "enumerate") (B:X.mg "enumerate" = Zb) (z:PA X [l] tl) (C:starEach [l] X.env=[(Zc,eval l X.env)]:=by rfl) :
  PI X (.Tuple es x px) (.Call (.Name "enumerate" p) [l] [] pos) (z21 X.K tl):=by
 intro pins s σ H R I h;refine Call_ (zc5 I v B boot_enumerate (Bt (thn (z pos pins s σ H _ I h) λL c ⟨J,m,f,y,w⟩=>?_) C rfl));obtain⟨a,K,e,q⟩:=w;subst e;cases y with
 | cons r E =>
  cases E;cases r;have fp:∀b∈[c.heap.objs.size+1,c.heap.objs.size],FpOk X pins m b:=λb j=>by
   have e:c.heap.objs.size<=b:=by
    rcases Ak.mp j with rfl|j
    ·exact Nat.le_succ _
    ·have u:b=c.heap.objs.size:=by simpa using j
     rw[u];exact Ag _
   exact f.fpOk e (f.hok.fresh e)
  rcases q with⟨n,q⟩|⟨n,q⟩
  ·obtain ⟨i,G,k, F⟩:=f.list n
   refine call_enumerate_list k.isList λA g d D t=>Hs g ?_;exact⟨c.heap.objs.size+1,[c.heap.objs.size+1,c.heap.objs.size],_,_,m,rfl,f.kept (t':=c.toks) t,zu4 a _ _ (Nat.succ_ne_self _),⟨⟨_,by simpa using g⟩,d⟩,fp,q⟩
  ·obtain ⟨i,G,k, F⟩:=f.tuple n
   have hT:c.heap.IsTuple a i.toArray:=k;have al:a<c.heap.objs.size:=let ⟨o,e,_⟩:=hT;Am e;refine zrn hT λA g d t=>Hs g ?_;exact⟨c.heap.objs.size+1,[c.heap.objs.size+1,c.heap.objs.size],_,_,m,rfl,f.kept (t':=c.toks) t,zqz a _ _ (Nat.succ_ne_self _) (Fu (Dl al)) (Ba al),⟨⟨_,by simpa using g⟩,d⟩,fp,q⟩
end
section
variable {K:Zg}
theorem zzr (h:SqT K F a vs)(r:Reps K F ws vs):ItOk K F (IteT K a) (zfu ws 0) where
 go:=λi H s b=>by rw[zci] at b;exact⟨vs,vs[i]'(by rw[<-r.length];exact b),zb9 s h,by rw[Ad]⟩
 stop:=λH s=>⟨vs,zb9 s h,by rw[zci,r.length];exact Ag _⟩
 yld:=λi H x f s b y=>by
  nofun;obtain⟨p,v,e,d,c,y⟩:=y;ac_rfl;subst e c;obtain⟨w,e,q⟩:=r.getV (y vs (zb9 s h));refine⟨_,zej e,?_⟩;rw[Ct];exact .tup d (.cons (.int _) (.cons q .nil))
noncomputable def zmr (g:GE):GL:=λe=>(g e).bind λp=>(seqW p.2.1).bind λw=>Za (p.1,zfu w 0)
theorem ztn (h:tI K (zmr g) σ H R):z21 K (ze8 (tE K g) tNil) σ H R:=by
 nofun;obtain⟨F,p,j,t,w,Re,h,q⟩:=h;obtain⟨⟨l,u⟩,n,h⟩:=bS h;obtain⟨x,o,h⟩:=bS h;ac_rfl;cases h;refine⟨F,p,j,l,u,Re,n,λA d v f m z=>?_⟩;nofun;obtain⟨i,s,R2,y⟩:=z.freeze m;obtain⟨a,k,c,e,b,r⟩:=zbw y o;ac_rfl;subst e;cases k with
 |true=>exact⟨a,c,rfl,.inl ⟨R2.sub.seq b,q i d _ (f.trans s) R2 (z34 b r)⟩⟩
 |false=>exact⟨a,c,rfl,.inr ⟨zb9 R2.sub b,q i d _ (f.trans s) R2 (zzr b r)⟩⟩
end
end L2
namespace L2
open PySem PySem.Spec PyProof.Rows
section
end
section
variable {K:Zg}
end
noncomputable abbrev Fn:=List W->Option (List W×(W×Bool))
noncomputable def zav (m:List Bool) (ws:List W):En:=List.zipWith (λw b=>Za (w,b)) ws m
noncomputable def spF (K:Zg) (m:List Bool) (Φ:Fn):Sp:=λc H Q _=>∃F p a w r,a.length=m.length/\w.length=m.length/\Rel K F p (zav m a) (c.map Za) H/\Φ a=Za (w,r) /\
 ∀d b v,Same F d->Rel K d p (zav m w) (c.map Za) b->Res K d b p (zav m w) (c.map Za) r v->Q v b
theorem zey {k:Nat}{w:W}{b:Bool}:(zav m ws)[k]?=Za (Za (w,b))↔ws[k]?=Za w/\m[k]?=Za b:=by
 unfold zav;rw[List.getElem?_zipWith];cases ws[k]?<;>cases m[k]?<;>simp
theorem zeh (h:ws.length=m.length):(zav m ws).length=m.length:=by
 unfold zav;rw[Em,h,Gi]
theorem zux {K:Zg}(h:spF K m Φ vs H Q E):vs.length=m.length:=by
 obtain⟨F,p,b,w,r,a,_,R,_⟩:=h;have:=R.len;rw[zeh a,Af] at this;exact this.symm
noncomputable def isR:W ⊕ Nat->Bool
 |.inr _=>Zd
 |.inl _=>Zc
noncomputable def za7 (xs:List (W ⊕ Nat)):Cap:=xs.map λx=>match x with
 |.inr i=>Za i
 |.inl _=>Zb
noncomputable def zat (en:En) (xs:List (W ⊕ Nat)):Bool:=xs.all λx=>match x with
 | .inr i=>match en[i]? with
  |some (#v[_,5])=>Zd
  |_=>Zc
 |.inl _=>Zd
noncomputable def gCall (m:List Bool) (Φ:Fn) (as:GAs):GE:=λe=>(as e).bind λp=>if decide (p.2.map isR=m)&&zat p.1 p.2&&zcu (za7 p.2) then (za4 p.1 p.2).bind λw=>(Φ w).bind λq=>if q.1.length=m.length then Za (zas (za7 p.2) p.1 (zav m q.1),q.2) else Zb else Zb
theorem ArgRs.get {K:Zg}:∀{xs:List (W ⊕ Nat)}{vs:List V}{k:Nat}{x:W ⊕ Nat},ArgRs K F σ xs vs->xs[k]?=Za x->∃v,vs[k]?=Za v/\ArgR K F σ x v
 |_,_,_,_,.nil,e=>by simp at e
 |_,_,0,_,.cons h _,e=>by simp at e;subst e;exact⟨_,rfl,h⟩
 | _,_,k+1,x,.cons _ r,e=>by
  obtain⟨v,a,b⟩:=ArgRs.get r (by simpa using e);exact⟨v,by simpa using a,b⟩
theorem ArgRs.length {K:Zg}:∀{xs:List (W ⊕ Nat)}{vs:List V},ArgRs K F σ xs vs->xs.length=vs.length
 |_,_,.nil=>rfl
 |_,_,.cons _ r=>congrArg (· + 1) (ArgRs.length r)
theorem zk8:∀{xs:List (W ⊕ Nat)}{ws:List W},za4 en xs=Za ws->ws.length=xs.length
 |[],_,e=>by obtain rfl:=sI e;rfl
 | x::xs,_,e=>by
  obtain⟨w,_,e⟩:=bS e;obtain⟨ws,h,e⟩:=bS e;obtain rfl:=sI e;exact congrArg (· + 1) (zk8 h)
theorem zlt:∀{xs:List (W ⊕ Nat)}{ws:List W}{k:Nat}{w:W},za4 en xs=Za ws->ws[k]?=Za w->∃x,xs[k]?=Za x/\resA en x=Za w
 |[],_,_,_,e,h=>by obtain rfl:=sI e;simp at h
 | x::xs,_,k,w,e,h=>by
  obtain⟨u,d,e⟩:=bS e;obtain⟨f,c,e⟩:=bS e;obtain rfl:=sI e;cases k with
  |zero=>simp at h;subst h;exact⟨x,rfl,d⟩
  |succ k=>obtain⟨y,a,b⟩:=zlt c (by simpa using h);exact⟨y,by simpa using a,b⟩
theorem zec {xs:List (W ⊕ Nat)}{k i:Nat}:(za7 xs)[k]?=Za (Za i)↔xs[k]?=Za (.inr i):=by
 unfold za7;rw[Ar];cases e:xs[k]? with
 |none=>simp
 |some x=>cases x<;>simp
section
variable {K:Zg}
theorem Rel.back (R:Rel K F pr en σ H) (s:Same F F') (D:Rel K F' (zbp pr cap en σ H) ce σc H') (slot:∀(i j:Nat) (v:V),zau cap i=Za j->σc[j]?=Za (Za v)->σ[i]?=Za (Za v)) :
  Rel K F' pr (zas cap en ce) σ H'/\∀r v,Res K F' H' (zbp pr cap en σ H) ce σc r v->Res K F' H' pr (zas cap en ce) σ r v:=by
 have un:∀(i:Nat) (w:W),zau cap i=Zb->en[i]?=Za (Za (w,Zd))->∃(a:Zh) (m:HO) (n:W),w=n/\σ[i]?=Za (Za (V.ref a))/\H a=Za m/\H' a=Za m/\F' a=Zb/\OwnR K F n m/\∀(j:Nat) (y:W),ce[j]?=Za (Za (y,Zd))->σc[j]?≠Za (Za (V.ref a)):=λi w c e=>by
  obtain⟨a,m,n,u,h,g,E,B⟩:=R.own i w e;obtain⟨Q,P,N⟩:=D.prt a m (.inr ⟨i,w,e,c,h,g⟩);exact⟨a,m,n,u,h,g,Q,P,B,N⟩
 have d:∀(i j:Nat) (w:W),zau cap i=Za j->ce[j]?=Za (Za (w,Zd))->∃(a:Zh) (m:HO) (n:W),w=n/\σ[i]?=Za (Za (V.ref a))/\σc[j]?=Za (Za (V.ref a))/\H' a=Za m/\F' a=Zb/\OwnR K F' n m:=λi j w c e=>by
  obtain⟨a,m,n,u,h,g,E,B⟩:=D.own j w e;exact⟨a,m,n,u,slot i j _ c h,h,g,E,B⟩
 refine⟨⟨by unfold zas;rw[List.length_mapIdx];exact R.len,D.sub,λi w e=>?_,λi w e=>?_,λi k a w y A t L I=>?_,λb o q=>?_,D.tb.go (λb xs z=>.inl z) (λb X e f=>⟨e,f⟩) (.refl F') λb X e Z o z=>Z o (.inl z)⟩,λr v z=>?_⟩
 ·rcases backEn_get e with ⟨j,c,e⟩ | ⟨c,e⟩
  ·obtain ⟨v,u,h⟩:=D.val j w e
   exact⟨v,slot i j v c u,h⟩
  ·obtain ⟨v,u,h⟩:=R.val i w e
   exact⟨v,u,h.mono s⟩
 ·rcases backEn_get e with ⟨j,c,e⟩ | ⟨c,e⟩
  ·obtain ⟨a,m,n,u,h,_,g,E,B⟩:=d i j w c e
   exact⟨a,m,n,u,h,g,E,B⟩
  ·obtain ⟨a,m,n,u,h,_,g,E,B,_⟩:=un i w c e
   exact⟨a,m,n,u,h,g,E,B.mono s⟩
 ·rcases backEn_get A with ⟨j,c,A⟩ | ⟨c,A⟩
  ·obtain ⟨J, _,_,_,h,g,_⟩:=d i j w c A
   rw[L] at h;cases h;rcases backEn_get t with⟨l,G,t⟩|⟨G,t⟩
   ·obtain ⟨J, _,_,_,C,M,_⟩:=d k l y G t
    rw[I] at C;cases C;have:=D.inj j l a _ _ A t g M;subst this;have x:=zbc c;rw[zbc G] at x;cases x;rfl
   ·obtain ⟨J, _,_,_,C,_,_,_,_,M⟩:=un k y G t
    rw[I] at C;cases C;exact absurd g (M j w A)
  ·obtain ⟨J, _,_,_,h,_,_,_,_,g⟩:=un i w c A
   rw[L] at h;cases h;rcases backEn_get t with⟨l,G,t⟩|⟨G,t⟩
   ·obtain ⟨J, _,_,_,C,M,_⟩:=d k l y G t
    rw[I] at C;cases C;exact absurd M (g l y t)
   ·exact R.inj i k a _ _ A t L I
 ·obtain ⟨Q,P,N⟩:=D.prt b o (.inl q)
  refine⟨Q,P,λi w e=>?_⟩;rcases backEn_get e with⟨j,c,e⟩|⟨c,e⟩
  ·obtain ⟨a,_,_,_,h,g,_⟩:=d i j w c e
   rw[h];intro z;cases z;exact N j w e g
  ·exact (R.prt b o q).2.2 i w e
 ·obtain ⟨w,fl⟩:=r
  cases fl with
  |false=>exact z
  | true =>
   obtain⟨a,m,n,L,I,Y,T,q5,U,S⟩:=z;refine⟨a,m,n,L,I,Y,T,q5,λi y e=>?_,λb o p=>S b o (.inl p)⟩;rcases backEn_get e with⟨j,c,e⟩|⟨c,e⟩
   ·obtain ⟨J, _,_,_,h,g,_⟩:=d i j y c e
    rw[h];intro z;cases z;exact U j y e g
   ·obtain ⟨J, O, ws', u,h,g,E,B⟩:=R.own i y e
    rw[h];intro z;cases z;exact S a O (.inr ⟨i,y,e,c,h,g⟩) rfl
theorem zwu {m:List Bool}{Φ:Fn}{xs:List (W ⊕ Nat)}{e1 en':En}{F H:Hp}{vs:List V}{r:W×Bool}{Q:VK}{E:XK} (R:Rel K F pr e1 σ H) (I:ArgRs K F σ xs vs)
  (h:(if decide (xs.map isR=m)&&zat e1 xs&&zcu (za7 xs) then (za4 e1 xs).bind λws=>(Φ ws).bind λq=>if q.1.length=m.length then Za (zas (za7 xs) e1 (zav m q.1),q.2) else Zb else Zb)=Za (en',r))
  (q:∀J H' v,Same F J->Rel K J pr en' σ H'->Res K J H' pr en' σ r v->Q v H'):spF K m Φ vs H Q E:=by
 split at h
 ·rename_i z
  rw[Ac,Ac] at z;obtain⟨⟨z1,z2⟩,nd⟩:=z;have X:=Ao z1;nofun;obtain⟨ws,S,h⟩:=bS h;obtain⟨⟨P,r'⟩,h3,h⟩:=bS h;refine qG ?_;split at h
  ·rename_i hl
   cases h;have lx:=zk8 S;have lm:xs.length=m.length:=by rw[<-X,Af]
   have lv:=I.length;have at' : ∀(k:Nat) (w:W) (b:Bool),(zav m ws)[k]?=Za (Za (w,b))->∃x v,xs[k]?=Za x/\isR x=b/\resA e1 x=Za w/\vs[k]?=Za v/\ArgR K F σ x v:=λk w b e=>by
    nofun;obtain⟨s,d⟩:=zey.mp e;obtain⟨x,g,n⟩:=zlt S s;obtain⟨v,B,g6⟩:=I.get g;refine qG ?_;rw[<-X,Ar,g] at d;exact⟨x,v,g,sI d,n,B,g6⟩
   have t:∀(k:Nat) (w:W),(zav m ws)[k]?=Za (Za (w,Zd))->∃i v,xs[k]?=Za (.inr i)/\e1[i]?=Za (Za (w,Zd))/\vs[k]?=Za v/\σ[i]?=Za (Za v):=λk w e=>by
    nofun;obtain⟨x,v,s,d,g,n,B⟩:=at' k w Zd e;ac_rfl;cases x with
    |inl _=>cases d
    | inr i =>
     refine⟨i,v,s,?_,n,B⟩;have o:=Az.mp z2 _ (Bm s);simp only at o;split at o
     ·rename_i w0 Z
      unfold resA at g;simp only [Z] at g;obtain rfl:=sI g;exact Z
     ·cases o
   have RC:Rel K F (zbp pr (za7 xs) e1 σ H) (zav m ws) (vs.map Za) H:=by
    refine⟨by rw[zeh #v[],Af];symm,R.sub,λk w e=>?_,λk w e=>?_,λk l a w M s d g n=>?_,λb o p=>?_,R.tb.go (λb xs z=>zhy R z) (λb ps e f=>⟨e,f⟩) (.refl F) λb ps e hh o z=>zh4 R e hh o z⟩
    ·refine aG λN qG => ?_
     obtain⟨x,v,s,d,g,n,B⟩:=at' k w Zc e;refine qG ?_;cases x with
     |inr _=>cases d
     |inl u=>obtain rfl:=sI g;exact⟨v,by rw[Ar,n];rfl,B⟩
    ·refine aG λN qG => ?_
     obtain⟨i,v,s,d,g,n⟩:=t k w e;obtain⟨a,Y,U,C,G,D,L,p5⟩:=R.own i w d;ac_rfl;rw[n] at G;cases G;exact⟨a,Y,U,C,by rw[Ar,g];rfl,D,L,p5⟩
    ·refine aG λN qG => ?_
     obtain⟨i,v,k1,k2,k3,k4⟩:=t k w s;obtain⟨i',v',l1,l2,l3,l4⟩:=t l M d;ac_rfl;rw[Ar,k3] at g;cases g;rw[Ar,l3] at n;cases n;have:=R.inj i i' a _ _ k2 l2 k4 l4;subst this;have y:=zf0 nd (zec.mpr k1);rw[zf0 nd (zec.mpr l1)] at y;exact (sI y).symm
    ·rcases p with p | ⟨j,w,C,G,D,L⟩
     ·obtain ⟨b1,b2,b3⟩:=R.prt b o p
      refine⟨b1,b2,λk w e=>?_⟩;nofun;obtain⟨i,v,s,d,g,n⟩:=t k w e;refine qG ?_;rw[Ar,g];intro y;cases y;exact b3 i w d n
     ·refine aG λN qG => ?_
      obtain⟨a,Y,U,p1',A,p3',O,p5'⟩:=R.own j w C;ac_rfl;rw[D] at A;cases A;refine⟨L,O,λk M e=>?_⟩;nofun;obtain⟨i,v,s,d,g,n⟩:=t k M e;ac_rfl;rw[Ar,g];intro y;cases y;have:=R.inj i j _ _ _ d C n D;subst this;exact zc3 G k (zec.mpr s)
   refine ⟨F,zbp pr (za7 xs) e1 σ H,ws,P,_,by symm,hl,RC,h3,λF2 H2 v T R2 y2=>?_⟩;obtain ⟨Ro,rz⟩:=R.back T R2 λi j v c e=>by
    have c':=zec.mp (zbc c);obtain⟨v',s,d⟩:=I.get c';rw[Ar,s] at e;cases e;exact d
   exact q F2 H2 v T Ro (rz _ _ y2)
  ·cases h
 ·cases h
theorem zv3 (h:tE K (gCall m Φ as) σ H Q):z6m (spF K m Φ) [] E0 (tAs K as) σ H Q:=by
 nofun;obtain⟨F,p,k,f,r,R,h,q⟩:=h;obtain⟨⟨e,x⟩,d,h⟩:=bS h;refine qG ?_;refine⟨F,p,k,e,x,R,d,λn i c j g a=>?_⟩;show spF K m Φ (c++[]) i Q E0;rw[Cf];exact zwu g a h λl b v s=>q l b v (j.trans s)
end
noncomputable def zcb:List Bool->List W->En->Option (List W)
 |[],[],_=>Za []
 |true::m,_::a,#v[w,5]::e=>(zcb m a e).bind λr=>Za (w::r)
 |false::m,w::a,_::e=>(zcb m a e).bind λr=>Za (w::r)
 |_,_,_=>Zb
noncomputable def mpOf (m:List Bool):List Nat:=(List.range m.length).filter λk=>m[k]? == Za Zd
noncomputable def zad (m:List Bool) (n:Nat) (g:GS):Fn:=λa=>if a.length=m.length then match g (zav m a++List.replicate (n-m.length) Zb) with
 |some (e,.ret r)=>(zcb m a e).bind λw=>Za (w,r)
 |some (e,.nx)=>(zcb m a e).bind λw=>Za (w,(.non,Zc))
 |_=>Zb else Zb
theorem zjk:∀{m:List Bool}{ws:List W}{en:En}{ws':List W},zcb m ws en=Za ws'->ws'.length=m.length/\∀(k:Nat) (w:W),ws'[k]?=Za w->(m[k]?=Za Zd->en[k]?=Za (Za (w,Zd)))/\(m[k]?=Za Zc->ws[k]?=Za w)
 |[],[],_,_,e=>by obtain rfl:=sI e;exact⟨rfl,λk w h=>by simp at h⟩
 | true::m,_::ws,Za (u,Zd)::en,_,e=>by
  obtain⟨r,h,e⟩:=bS (show (zcb m ws en).bind _=_ from e);obtain rfl:=sI e;obtain⟨c,b⟩:=zjk h;refine⟨congrArg (· + 1) c,λk w a=>?_⟩;cases k with
  |zero=>simp at a;subst a;exact⟨λ_=>rfl,λz=>by simp at z⟩
  | succ k =>
   have:=b k w (by simpa using a);exact⟨λz=>by simpa using this.1 (by simpa using z),λz=>by simpa using this.2 (by simpa using z)⟩
 | false::m,u::ws,_::en,_,e=>by
  obtain⟨r,h,e⟩:=bS (show (zcb m ws en).bind _=_ from e);obtain rfl:=sI e;obtain⟨c,b⟩:=zjk h;refine⟨congrArg (· + 1) c,λk w a=>?_⟩;cases k with
  |zero=>simp at a;subst a;exact⟨λz=>by simp at z,λ_=>rfl⟩
  | succ k =>
   have:=b k w (by simpa using a);exact⟨λz=>by simpa using this.1 (by simpa using z),λz=>by simpa using this.2 (by simpa using z)⟩
 |[],_::_,_,_,e=>by exact noSome e
 |true::_,[],_,_,e=>by exact noSome e
 |false::_,[],_,_,e=>by exact noSome e
 |true::_,_::_,[],_,e=>by exact noSome e
 |false::_,_::_,[],_,e=>by exact noSome e
 |true::_,_::_,Zb::_,_,e=>by exact noSome e
 |true::_,_::_,#v[_,6]::_,_,e=>by exact noSome e
theorem zs6 {K:Zg}{vs:List V}{H:Hp}{Q:VK}{E:XK} (h:spF K m (zad m N.length g) vs H Q E):tS K (mpOf m) g { nx:=λ_ H'=>Q .non H',rt:=Q } (start N vs) H:=by
 have hv:=zux h;refine aG λ_ qG=>?_;obtain ⟨F,G,I,T,r,h1,h2,R,n,q⟩:=h;refine qG ?_;unfold zad at n;rw [if_pos h1] at n;have la:=zeh h1;have f:∀(i:Nat) (x:W×Bool),(zav m I++List.replicate (N.length-m.length) Zb)[i]?=Za (Za x)->(zav m I)[i]?=Za (Za x):=λi x e=>by
  by_cases hi:i<(zav m I).length
  ·rw[Do hi] at e;exact e
  ·rw [Fm (by symm),List.getElem?_replicate] at e
   split at e<;>cases e
 have st:∀(i:Nat) (v:V),(vs.map Za)[i]?=Za (Za v)->(start N vs)[i]?=Za (Za v):=λi v e=>by
  unfold start;rw[Do (by have:=(Ah.mp e).1;exact this)];exact e
 have B : ∀(i:Nat) (v:V),i<m.length->(start N vs)[i]?=Za (Za v)->(vs.map Za)[i]?=Za (Za v):=λi v hi e=>by
  unfold start at e;rw[Do (by rw[Af];symm)] at e;exact e
 have R0:Rel K F G (zav m I++List.replicate (N.length-m.length) Zb) (start N vs) H:=by
  refine⟨?_,R.sub,λi w e=>?_,λi w e=>?_,λi j a w w' X U M L=>?_,λb o p=>?_,R.tb⟩
  ·unfold start
   rw[Be,Be,Da,Da,Af,la,hv]
  ·obtain ⟨v,s,d⟩:=R.val i w (f i _ e)
   exact⟨v,st i v s,d⟩
  ·refine aG λGg qG => ?_
   obtain⟨a,O,u,s,d,S⟩:=R.own i w (f i _ e);refine qG ?_;exact⟨a,O,u,s,st i _ d,S⟩
  ·have Y:i<m.length:=by have:=(Ah.mp (f i _ X)).1;symm
   have l2:j<m.length:=by have:=(Ah.mp (f j _ U)).1;symm
   exact R.inj i j a w w' (f i _ X) (f j _ U) (B i _ Y M) (B j _ l2 L)
  ·obtain ⟨b1,b2,Z⟩:=R.prt b o p
   refine⟨b1,b2,λi w e z=>?_⟩;have Y:i<m.length:=by have:=(Ah.mp (f i _ e)).1;symm
   exact Z i w (f i _ e) (B i _ Y z)
 have back:∀(A:En) (u:List W) (t:Hp) (c:St) (H':Hp),zcb m I A=Za u->Same F t->Rel K t G A c H'->Keep (mpOf m) (start N vs) c ->
   Rel K t G (zav m u) (vs.map Za) H'/\∀r v,Res K t H' G A c r v->Res K t H' G (zav m u) (vs.map Za) r v:=λA u t c H' J D C P=>by
  obtain ⟨o1,o2⟩:=zjk J;have own:∀(k:Nat) (w:W),(zav m u)[k]?=Za (Za (w,Zd))->A[k]?=Za (Za (w,Zd))/\∀v,c[k]?=Za (Za v)↔(vs.map Za)[k]?=Za (Za v):=λk w e=>by
   obtain⟨s,d⟩:=zey.mp e;have lk:=(Ah.mp d).1;have hk:k∈mpOf m:=Bq.mpr ⟨By.mpr lk,by rw[d];simp⟩;refine⟨(o2 k w s).1 d,λv=>?_⟩;rw[P k hk];exact⟨B k v lk,st k v⟩
  refine⟨⟨by rw[zeh o1,Af,hv],C.sub,λk w e=>?_,λk w e=>?_,λk l a w w' X U M L=>?_,λb o p=>?_,C.tb⟩,λr v z=>?_⟩
  ·refine aG λGg qG => ?_
   obtain⟨s,d⟩:=zey.mp e;obtain⟨v,S,g4⟩:=R.val k w (zey.mpr ⟨(o2 k w s).2 d,d⟩);ac_rfl;exact⟨v,S,g4.mono D⟩
  ·refine aG λGg qG => ?_
   obtain⟨s,d⟩:=own k w e;obtain⟨a,O,u,p1,p2,p3⟩:=C.own k w s;ac_rfl;exact⟨a,O,u,p1,(d _).mp p2,p3⟩
  ·obtain ⟨s,d⟩:=own k w X
   obtain⟨S,g4⟩:=own l w' U;exact C.inj k l a _ _ s S ((d _).mpr M) ((g4 _).mpr L)
  ·obtain ⟨b1,b2,Z⟩:=C.prt b o p
   refine⟨b1,b2,λk w e z=>?_⟩;obtain⟨s,d⟩:=own k w e;exact Z k w s ((d _).mpr z)
  ·obtain ⟨w0,fl⟩:=r
   cases fl with
   |false=>exact z
   | true =>
    nofun;obtain⟨a,O,wz',M,L,q3,q4,q5,q6,q7⟩:=z;refine qG ?_;refine⟨a,O,wz',M,L,q3,q4,q5,λk w e y=>?_,q7⟩;obtain⟨s,d⟩:=own k w e;exact q6 k w s ((d _).mpr y)
 cases eg:g (zav m I++List.replicate (N.length-m.length) Zb) with
 |none=>simp only [eg] at n;exact noSome n
 | some p =>
  obtain⟨A,fl⟩:=p;refine⟨F,G,_,A,fl,R0,eg,?_⟩;cases fl with
  |brk=>simp only [eg] at n;exact noSome n
  |cnt=>simp only [eg] at n;exact noSome n
  | nx =>
   simp only [eg] at n;obtain⟨u,J,n⟩:=bS n;cases n;intro t c H' D C P;obtain⟨Rb,_⟩:=back A T t c H' J D C P;exact q t H' .non D Rb .non
  | ret r' =>
   simp only [eg] at n;obtain⟨u,J,n⟩:=bS n;cases n;intro t c H' v D C P z;obtain⟨Rb,rb⟩:=back A T t c H' J D C P;exact q t H' v D Rb (rb _ _ z)
end L2
set_option maxHeartbeats 4000000
namespace L2
open PySem PyProof.Rows
namespace Tim
noncomputable def gal:Bool->Keyed->Array Keyed->Nat->Nat->Nat->StateT SortSt Sem (Option Nat):=sortPriv% PySem.Builtin.gallop
noncomputable def mLo:Array Keyed->Array Keyed->StateT SortSt Sem (Array Keyed):=sortPriv% PySem.Builtin.mergeLo
noncomputable def mHi:Array Keyed->Array Keyed->StateT SortSt Sem (Array Keyed):=sortPriv% PySem.Builtin.mergeHi
theorem aG {P:Prop}(h:∀G:Prop,(P->G)->G):P:=h P id
structure Ord (lt:Keyed->Keyed->Bool) (bf le:Keyed->Keyed->Prop):Prop where
 tr:∀{x y z},le x y->le y z->le x z
 tot:∀x y,le x y\/le y x
 f1:∀{x y},bf x y->(lt y x=Zc↔le x y)
 f2:∀{x y},lt x y=Zd->le x y
 irr:∀x,lt x x=Zc
 ltr:∀{x y z},lt x y=Zd->lt y z=Zd->lt x z=Zd
 nt:∀{x z} (y),lt x z=Zd->lt x y=Zd\/lt y z=Zd
section
variable (O:Ord lt bf le)
include O
theorem Ord.rf (x:Keyed):le x x:=(O.tot x x).elim id id
theorem Ord.f3 (h:bf x y)(q:lt y x=Zd):¬ le x y:=λz=>by rw[(O.f1 h).mpr z] at q;cases q
end
noncomputable abbrev d0:Keyed:=(Ze.none,Ze.none)
noncomputable def G (xs:Array Keyed) (i:Nat):Keyed:=(xs[i]?).getD d0
theorem G_some (h:i<xs.size):xs[i]?=Za (G xs i):=by unfold G;rw[getElem?_pos xs i h];rfl
theorem z6n (p:xs.Perm a₀)(h:i<xs.size):G xs i∈a₀.toList:=by
 refine (Fq.mp p).mem_iff.mp ?_;unfold G;rw[getElem?_pos xs i h];simp
theorem zgi (h:xs[i]?=ys[j]?):G xs i=G ys j:=by unfold G;rw[h]
noncomputable def Asks (prog:Program) (w:World) (A:Around) (E:Ze->Zf->Prop) (s:Zf) (κ:SortKind) (a₀:Array Keyed) (lt:Keyed->Keyed->Bool):Prop :=
 ∀(x y:Keyed) (a:SortSt) (Q:Option Bool->SortSt->Prop),x∈a₀.toList->y∈a₀.toList->kindOf a=κ->Q (Za (lt x y)) a->wpS (model prog w) A E s (lt' x y) Q a
section
variable {st:SortSt}
theorem zar (a:i<arr.size)(h:Q (G arr i) st):wpS (model prog w) A E s (elem' arr i) Q st:=by
 rw[elem'_eq,G_some a];exact Av h
theorem zh6 (C:Asks prog w A E s κ a₀ lt) (a:kindOf st=κ) (p:(arrOf st).Perm a₀) (b:i<a₀.size) (c:j<a₀.size) (h:Q (Za (lt (G (arrOf st) i) (G (arrOf st) j))) st) :
  wpS (model prog w) A E s (ltAt' i j) Q st:=by
 have e:=p.size_eq;rw[ltAt'_eq];refine Aq (Hw ?_);exact Aq (zar #v[] (Aq (zar #v[] (C _ _ _ _ (z6n p #v[]) (z6n p #v[]) a h))))
theorem zr2 {base n hint:Nat}{B:Nat->Bool}{Q:Option Nat->SortSt->Prop} (C:Asks prog w A E s κ a₀ lt) (P:kindOf st=κ) (J:key∈a₀.toList)
  (T:base+n<=arr.size) (O:∀i,i<n->G arr (base+i)∈a₀.toList) (hB:∀i,i<n->B i=if left then lt (G arr (base+i)) key else !lt key (G arr (base+i)))
  (mono:∀i j,i<=j->j<n->B j=Zd->B i=Zd) (S:hint<n)
  (h:∀k,k<=n->(∀i,i<k->B i=Zd)->(∀i,k<=i->i<n->B i=Zc)->Q (Za k) st):wpS (model prog w) A E s (gal left key arr base n hint) Q st:=by
 have t : ∀i j,i<=j->j<n->B i=Zc->B j=Zc:=λi j H D N=>by
  cases q:B j with
  |false=>rfl
  |true=>rw[mono i j H D q] at N;cases N
 let F:Nat->StateT SortSt Sem (Option Bool):=λi=>do
  let x <- elem' arr (base+i)
  if left=Zd then lt' x key else do
   let r <- lt' key x
   pure (r.map (!·))
 have K:∀(i:Nat) (R:Option Bool->SortSt->Prop),i<n->R (Za (B i)) st->wpS (model prog w) A E s (F i) R st:=λi R a hR=>by
  refine Aq (zar #v[] ?_);have e:=hB i a;cases left with
  | true =>
   rw[if_pos rfl] at e;exact C _ _ _ _ (O i a) J P (by rw[<-e];exact hR)
  | false =>
   rw[if_neg #v[0,9]] at e;exact Aq (C _ _ _ _ J (O i a) P (Av (by show R (Za (!lt key (G arr (base+i)))) st;rw[<-e];exact hR)))
 refine Aq (K _ _ S ?_);cases q:B hint with
 | true =>
  refine Aq (Eb (Ck (I:=λx c f=>f=st/\∃l o,c=(Zb,l,o)/\l<o/\x<o/\hint+l<n/\B (hint+l)=Zd)
   (Q:=λc f=>f=st/\∃l o,c=(Zb,l,o)/\l<o/\hint+l<n/\B (hint+l)=Zd/\(n-hint<=o\/hint+o<n/\B (hint+o)=Zc)) ?step ?fin ⟨rfl,0,1,rfl,by symm,by symm,by symm,q⟩) ?post)
  case fin =>
   rintro c f ⟨rfl,l,o,rfl,z,u,y,m⟩;exact⟨rfl,l,o,rfl,z,y,m,.inl #v[]⟩
  case step =>
   rintro x c f _ M ⟨rfl,l,o,rfl,z,u,y,m⟩;dsimp only;by_cases g:o ≥ n-hint
   ·rw [if_pos g]
    exact Av ⟨rfl,l,o,rfl,z,y,m,.inl g⟩
   ·rw [if_neg g]
    refine Aq (K _ _ #v[] ?_);cases q2:B (hint+o) with
    | true =>
     exact Av ⟨rfl,o,2*o+1,rfl,by symm,by symm,by symm,q2⟩
    | false =>
     dsimp only;exact Av ⟨rfl,l,o,rfl,z,y,m,.inr ⟨by symm,q2⟩⟩
  case post =>
   rintro c f ⟨rfl,l,o,rfl,z,y,m,p⟩;dsimp only;refine Aq (Eb (Ck (I:=λx c d=>d=f/\∃b a,c=(Zb,b,a)/\b<=a/\a<=n/\a-b<=n-x/\(∀i,i<b->B i=Zd)/\∀i,a<=i->i<n->B i=Zc)
    (Q:=λc d=>d=f/\∃b a,c=(Zb,b,a)/\b=a/\a<=n/\(∀i,i<b->B i=Zd)/\∀i,a<=i->i<n->B i=Zc) ?s3 ?f3 ⟨rfl,hint+l+1,hint+min o (n-hint),rfl,by symm,by symm,by symm,λi a=>mono i _ #v[] y m,λi H D=>p.elim (λp=>by symm) λp=>t _ i #v[] D p.2⟩) ?p3)
   case f3 =>
    rintro c d ⟨rfl,b,a,rfl,z,u,y,m,p⟩;exact⟨rfl,b,a,rfl,by symm,u,m,p⟩
   case s3 =>
    rintro x c d _ M ⟨rfl,b,a,rfl,z,u,y,m,p⟩;dsimp only;by_cases g:b ≥ a
    ·rw [if_pos g]
     exact Av ⟨rfl,b,a,rfl,by symm,u,m,p⟩
    ·rw [if_neg g]
     refine Aq (K _ _ #v[] ?_);cases q:B (b+(a-b)/2) with
     | true =>
      refine Av ⟨rfl,b+(a-b)/2+1,a,rfl,by symm,u,by symm,λi L=>?_,p⟩;exact mono i _ #v[] #v[] q
     | false =>
      dsimp only;refine Av ⟨rfl,b,b+(a-b)/2,rfl,by symm,by symm,by symm,m,λi H D=>?_⟩;exact t _ i H D q
   case p3 =>
    rintro c d ⟨rfl,b,a,rfl,rfl,u,m,p⟩;exact Av (h b u m p)
 | false =>
  refine Aq (Eb (Ck (I:=λx c f=>f=st/\∃l o,c=(Zb,l,o)/\l<o/\x<o/\l<=hint/\B (hint-l)=Zc)
   (Q:=λc f=>f=st/\∃l o,c=(Zb,l,o)/\l<o/\l<=hint/\B (hint-l)=Zc/\(hint+1<=o\/o<=hint/\B (hint-o)=Zd)) ?step ?fin ⟨rfl,0,1,rfl,by symm,by symm,by symm,q⟩) ?post)
  case fin =>
   rintro c f ⟨rfl,l,o,rfl,z,u,y,m⟩;exact⟨rfl,l,o,rfl,z,y,m,.inl #v[]⟩
  case step =>
   rintro x c f _ M ⟨rfl,l,o,rfl,z,u,y,m⟩;dsimp only;by_cases g:o ≥ hint+1
   ·rw [if_pos g]
    exact Av ⟨rfl,l,o,rfl,z,y,m,.inl g⟩
   ·rw [if_neg g]
    refine Aq (K _ _ #v[] ?_);cases q2:B (hint-o) with
    | true =>
     dsimp only;exact Av ⟨rfl,l,o,rfl,z,y,m,.inr ⟨by symm,q2⟩⟩
    | false =>
     dsimp only;rw[if_neg #v[0,9]];exact Av ⟨rfl,o,2*o+1,rfl,by symm,by symm,by symm,q2⟩
  case post =>
   rintro c f ⟨rfl,l,o,rfl,z,y,m,p⟩;dsimp only;refine Aq (Eb (Ck (I:=λx c d=>d=f/\∃b a,c=(Zb,b,a)/\b<=a/\a<=n/\a-b<=n-x/\(∀i,i<b->B i=Zd)/\∀i,a<=i->i<n->B i=Zc)
    (Q:=λc d=>d=f/\∃b a,c=(Zb,b,a)/\b=a/\a<=n/\(∀i,i<b->B i=Zd)/\∀i,a<=i->i<n->B i=Zc) ?s4 ?f4 ⟨rfl,hint+1-min o (hint+1),hint-l,rfl,by symm,by symm,by symm,λi a=>p.elim (λp=>by symm) λp=>mono i _ #v[] #v[] p.2,λi H D=>t _ i H D m⟩) ?p4)
   case f4 =>
    rintro c d ⟨rfl,b,a,rfl,z,u,y,m,p⟩;exact⟨rfl,b,a,rfl,by symm,u,m,p⟩
   case s4 =>
    rintro x c d _ M ⟨rfl,b,a,rfl,z,u,y,m,p⟩;dsimp only;by_cases g:b ≥ a
    ·rw [if_pos g]
     exact Av ⟨rfl,b,a,rfl,by symm,u,m,p⟩
    ·rw [if_neg g]
     refine Aq (K _ _ #v[] ?_);cases q:B (b+(a-b)/2) with
     | true =>
      dsimp only;rw[if_pos rfl];refine Av ⟨rfl,b+(a-b)/2+1,a,rfl,by symm,u,by symm,λi L=>?_,p⟩;exact mono i _ #v[] #v[] q
     | false =>
      dsimp only;rw[if_neg #v[0,9]];refine Av ⟨rfl,b,b+(a-b)/2,rfl,by symm,by symm,by symm,m,λi H D=>?_⟩;exact t _ i H D q
   case p4 =>
    rintro c d ⟨rfl,b,a,rfl,rfl,u,m,p⟩;exact Av (h b u m p)
end
end Tim
namespace Tim
noncomputable def Srt (le:Keyed->Keyed->Prop) (xs:Array Keyed) (l h:Nat):Prop:=∀i j,l<=i->i<j->j<h->le (G xs i) (G xs j)
noncomputable def Cut (b:Keyed->Keyed->Prop) (xs:Array Keyed) (c:Nat):Prop:=∀i j,i<c->c<=j->j<xs.size->b (G xs i) (G xs j)
structure Re (xs ys:Array Keyed) (lo hi:Nat):Prop where
 perm:ys.Perm xs
 out:∀i,i<lo\/hi<=i->G ys i=G xs i
 inn:∀i,lo<=i->i<hi->∃j,lo<=j/\j<hi/\G ys i=G xs j
theorem Re.refl (xs:Array Keyed)(l h:Nat):Re xs xs l h:=⟨.refl _,λ_ _=>rfl,λi b a=>⟨i,b,a,rfl⟩⟩
theorem Re.trans {l c:Nat}(a:Re xs ys l c)(b:Re ys zs l c):Re xs zs l c :=
 ⟨b.perm.trans a.perm,λi h=>(b.out i h).trans (a.out i h),λi m f=>by
  obtain⟨j,p,n,e⟩:=b.inn i m f;obtain⟨k,g,o,d⟩:=a.inn j p n;exact⟨k,g,o,e.trans d⟩⟩
theorem Re.mono {f d l b:Nat}(a:Re xs ys f d)(o:l<=f)(m:d<=b):Re xs ys l b :=
 ⟨a.perm,λi h=>a.out i #v[],λi k g=>by
  by_cases c:f<=i/\i<d
  ·obtain⟨j,n,p,e⟩:=a.inn i c.1 c.2;exact⟨j,by symm,by symm,e⟩
  ·exact⟨i,k,g,a.out i #v[]⟩⟩
theorem Re.size {l h:Nat}(a:Re xs ys l h):ys.size=xs.size:=a.perm.size_eq
theorem Cut.re {l f c:Nat}(h:Cut bf xs c)(a:Re xs ys l f)(z:f<=xs.size)(y:c<=l\/f<=c):Cut bf ys c:=λi j s p x=>by
 have e:=a.size;have r:∃d,d<c/\G ys i=G xs d:=by
  by_cases k:l<=i/\i<f
  ·obtain⟨d, u,t,e⟩:=a.inn i k.1 k.2;exact⟨d,by symm,e⟩
  ·exact⟨i,s,a.out i #v[]⟩
 have w:∃b,c<=b/\b<xs.size/\G ys j=G xs b:=by
  by_cases k:l<=j/\j<f
  ·obtain⟨b, u,t,e⟩:=a.inn j k.1 k.2;exact⟨b,by symm,by symm,e⟩
  ·exact⟨j,p,by symm,a.out j #v[]⟩
 obtain⟨d,q,m⟩:=r;obtain⟨b,n,g,o⟩:=w;rw[m,o];exact h d b q n g
theorem Srt.re {l c a b:Nat}(h:Srt le xs a b)(r:Re xs ys l c)(g:b<=l\/c<=a):Srt le ys a b:=λi j f e d=>by
 rw[r.out i #v[],r.out j #v[]];exact h i j f e d
noncomputable def mir (xs:Array Keyed) (i j:Nat):Array Keyed:=mirror xs i j ((j-i)/2)
theorem zhr (a:j<=xs.size)(k:Nat):G (mir xs i j) k=if i<=k/\k<j then G xs (i+j-1-k) else G xs k:=by
 have e:=getElem?_mirror_all (i:=i) a k;by_cases h:i<=k/\k<j
 ·rw[if_pos h] at e ⊢;exact zgi e
 ·rw[if_neg h] at e ⊢;exact zgi e
theorem Re.mir (a:j<=xs.size):Re xs (mir xs i j) i j :=
 ⟨mirror_perm _ _ _ _,λk h=>by rw[zhr a,if_neg #v[]],λk b c=>⟨i+j-1-k,by symm,by symm,by rw[zhr a,if_pos ⟨b,c⟩]⟩⟩
theorem z0z (b:src<xs.size)(c:d<=src)(k:Nat):G (bubble xs src d) k=if k=src-d then G xs src else if src-d<k/\k<=src then G xs (k-1) else G xs k:=by
 have e:=getElem?_bubble b d c k;by_cases h:k=src-d
 ·rw[if_pos h] at e ⊢;exact zgi e
 ·rw[if_neg h] at e ⊢;by_cases a:src-d<k/\k<=src
  ·rw[if_pos a] at e ⊢;exact zgi e
  ·rw[if_neg a] at e ⊢;exact zgi e
theorem Re.bub (a:src<xs.size)(b:d<=src):Re xs (bubble xs src d) (src-d) (src+1) :=
 ⟨bubble_perm _ _ _,λk h=>by rw[z0z a b,if_neg #v[],if_neg #v[]],λk e f=>by
  rw[z0z a b];by_cases c:k=src-d
  ·exact⟨src,by symm,by symm,by rw[if_pos c]⟩
  ·exact⟨k-1,by symm,by symm,by rw[if_neg c,if_pos ⟨by symm,by symm⟩]⟩⟩
structure SI (κ:SortKind) (a₀:Array Keyed) (pd:Array (Nat×Nat×Nat)) (st:SortSt):Prop where
 kind:kindOf st=κ
 failed:failedOf st=Zb
 perm:(arrOf st).Perm a₀
 pend:pendingOf st=pd
theorem SI.size {κ a₀ p st}(h:SI κ a₀ p st):(arrOf st).size=a₀.size:=h.perm.size_eq
theorem SI.set {κ a₀ a st}(h:SI κ a₀ a st)(p:ys.Perm (arrOf st)):SI κ a₀ a (setArr st ys):=⟨h.kind,h.failed,p.trans h.perm,h.pend⟩
section
variable {st:SortSt}
theorem z02 (h:Q () (setArr st (mir (arrOf st) i j))):wpS (model prog w) A E s (reverseSlice' i j) Q st:=by
 exact wpS_modify h
theorem z9t (h:Q () (setArr st (bubble (arrOf st) i (i-j)))):wpS (model prog w) A E s (moveDown' i j) Q st:=by
 exact wpS_modify h
theorem grp (O:Ord lt bf le) {l n c:Nat} (s:l<=c) (t:c<l+n) (e:∀k,G ys k=if c<=k/\k<l+n then G xs (c+(l+n)-1-k) else G xs k)
  (p:∀i j,l<=i->i<j->j<c->le (G xs j) (G xs i)) (g:∀i j,l<=i->i<c->c<=j->j<l+n->lt (G xs j) (G xs i)=Zd)
  (m:∀i j,c<=i->i<j->j<l+n->le (G xs i) (G xs j)) (r:∀i j,c<=i->i<l+n->c<=j->j<l+n->lt (G xs i) (G xs j)=Zc) :
  (∀i j,l<=i->i<j->j<l+n->le (G ys j) (G ys i))/\∀y,lt y (G xs (l+n-1))=Zd->∀i,l<=i->i<l+n->lt y (G ys i)=Zd:=by
 constructor
 ·intro i j d f o;rw[e i,e j];by_cases a:j<c
  ·rw[if_neg #v[],if_neg #v[]];exact p i j d f a
  ·rw[if_pos ⟨by symm,o⟩];by_cases b:i<c
   ·rw[if_neg #v[]];exact O.f2 (g i _ d b #v[] #v[])
   ·rw[if_pos ⟨by symm,by symm⟩];exact m _ _ #v[] #v[] #v[]
 ·intro y h i d f;rw[e i];by_cases b:c<=i/\i<l+n
  ·rw[if_pos b];exact (O.nt _ h).resolve_right (λq=>by rw[r _ _ #v[] #v[] #v[] #v[]] at q;cases q)
  ·rw[if_neg b];exact O.ltr h (g i _ d #v[] #v[] #v[])
structure DI (lt:Keyed->Keyed->Bool) (le:Keyed->Keyed->Prop) (lo n neq:Nat) (xs:Array Keyed):Prop where
 nq:neq+1<=n
 d1:∀i j,lo<=i->i<j->j<lo+n-(neq+1)->le (G xs j) (G xs i)
 d2:∀i j,lo<=i->i<lo+n-(neq+1)->lo+n-(neq+1)<=j->j<lo+n->lt (G xs j) (G xs i)=Zd
 d3:∀i j,lo+n-(neq+1)<=i->i<j->j<lo+n->le (G xs i) (G xs j)
 d4:∀i j,lo+n-(neq+1)<=i->i<lo+n->lo+n-(neq+1)<=j->j<lo+n->lt (G xs i) (G xs j)=Zc
theorem DI.turn (O:Ord lt bf le) {l n neq:Nat} (d:DI lt le l n neq xs) (h:l+n<=xs.size) :
  (∀i j,l<=i->i<j->j<l+n->le (G (mir xs (l+n-(neq+1)) (l+n)) j) (G (mir xs (l+n-(neq+1)) (l+n)) i))/\∀y,lt y (G xs (l+n-1))=Zd->∀i,l<=i->i<l+n->lt y (G (mir xs (l+n-(neq+1)) (l+n)) i)=Zd :=
 grp O (by have:=d.nq;symm) (by have:=d.nq;symm) (λk=>zhr h k) d.d1 d.d2 d.d3 d.d4
theorem DI.turn0 (O:Ord lt bf le) {l n:Nat} (d:DI lt le l n 0 xs) :
  (∀i j,l<=i->i<j->j<l+n->le (G xs j) (G xs i))/\∀y,lt y (G xs (l+n-1))=Zd->∀i,l<=i->i<l+n->lt y (G xs i)=Zd :=
 grp O (by have:=d.nq;symm) (by have:=d.nq;symm) (λk=>by
  split
  ·congr 1;symm
  ·rfl) d.d1 d.d2 d.d3 d.d4
theorem DI.next (O:Ord lt bf le){l n:Nat}(h:∀i j,l<=i->i<j->j<l+n->le (G xs j) (G xs i))(f:∀i,l<=i->i<l+n->lt (G xs (l+n)) (G xs i)=Zd):DI lt le l (n+1) 0 xs :=
 ⟨by symm,λi j a b c=>h i j a b #v[],λi j a b c d=>by
  have e:j=l+n:=by symm
  rw[e];exact f i a #v[],λi j a b c=>by symm,λi j a b c d=>by
  have e:j=i:=by symm
  rw[e];exact O.irr _⟩
theorem DI.like (O:Ord lt bf le) {l n neq:Nat} (d:DI lt le l n neq xs) (o:∀i,l<=i->i<l+n->bf (G xs i) (G xs (l+n))) (p:lt (G xs (l+n)) (G xs (l+n-1))=Zc) (m:lt (G xs (l+n-1)) (G xs (l+n))=Zc):DI lt le l (n+1) (neq+1) xs:=by
 have u:=d.nq;have s:l+(n+1)-(neq+1+1)=l+n-(neq+1):=by symm
 have t:∀i,l+n-(neq+1)<=i->i<l+n->lt (G xs (l+n)) (G xs i)=Zc:=λi a b=>by
  cases q:lt (G xs (l+n)) (G xs i) with
  |false=>rfl
  | true =>
   rcases O.nt (G xs (l+n-1)) q with z|z
   ·rw[p] at z;cases z
   ·rw[d.d4 _ _ #v[] #v[] a b] at z;cases z
 have r:∀i,l+n-(neq+1)<=i->i<l+n->lt (G xs i) (G xs (l+n))=Zc:=λi a b=>by
  cases q:lt (G xs i) (G xs (l+n)) with
  |false=>rfl
  | true =>
   rcases O.nt (G xs (l+n-1)) q with z|z
   ·rw[d.d4 _ _ a b #v[] #v[]] at z;cases z
   ·rw[m] at z;cases z
 refine⟨by symm,?_,?_,?_,?_⟩<;>rw[s]
 ·exact d.d1
 ·intro i j a b c e
  by_cases k:j<l+n
  ·exact d.d2 i j a b c k
  ·have f:j=l+n:=by symm
   rw[f];exact (O.nt (G xs (l+n)) (d.d2 i (l+n-1) a b #v[] #v[])).resolve_left (λz=>by rw[m] at z;cases z)
 ·intro i j a b c
  by_cases k:j<l+n
  ·exact d.d3 i j a b k
  ·have f:j=l+n:=by symm
   rw[f];exact (O.f1 (o i #v[] #v[])).mp (t i a #v[])
 ·intro i j a b c e
  by_cases k:j<l+n
  ·by_cases h:i<l+n
   ·exact d.d4 i j a h c k
   ·have g:i=l+n:=by symm
    rw[g];exact t j c k
  ·have f:j=l+n:=by symm
   rw[f];by_cases h:i<l+n
   ·exact r i a h
   ·have g:i=l+n:=by symm
    rw[g];exact O.irr _
theorem z99 {α:Type}{c:Prop} [Decidable c] {x y:StateT SortSt Sem α}{Q:α->SortSt->Prop}{T:SortSt->Prop}(h:∀a,T a->wpS (model prog w) A E s y Q a)(b:¬ c->T st)(d:c->(∀a,T a->wpS (model prog w) A E s y Q a)->wpS (model prog w) A E s x Q st):wpS (model prog w) A E s (if c then x else y) Q st:=by
 by_cases k:c
 ·rw[if_pos k];exact d k h
 ·rw[if_neg k];exact h st (b k)
theorem z6u (C:Asks prog w A E s κ a₀ lt) (O:Ord lt bf le) {l a:Nat}{Q:Option Nat->SortSt->Prop} (I:SI κ a₀ pd st) (hsz:l+a<=a₀.size) (B:1<=a) (hc:∀c,l<=c->Cut bf (arrOf st) c)
  (h:∀m u,SI κ a₀ pd u->1<=m->m<=a->Re (arrOf st) (arrOf u) l (l+m)->Srt le (arrOf u) l (l+m)->Q (Za m) u):wpS (model prog w) A E s (countRun' l a) Q st:=by
 have sz:=I.size;refine Aq (Eb (Ck (I:=λx c d=>d=st/\c=(Zb,x)/\1<=x/\x<=a/\Srt le (arrOf st) l (l+x))
  (Q:=λc d=>d=st/\∃k,c=(Zb,k)/\1<=k/\k<=a/\Srt le (arrOf st) l (l+k)/\(k=a\/lt (G (arrOf st) (l+k)) (G (arrOf st) (l+k-1))=Zd)) ?as1 ?af1 ⟨rfl,rfl,Ag _,B,(λi j L K g3=>by symm)⟩) ?ap1)
 case af1 =>
  rintro c d ⟨t,rfl,U,S,g⟩;rw[show max 1 a=a by symm] at *
  exact⟨t,a,rfl,by symm,Ag _,g,.inl rfl⟩
 case as1 =>
  rintro x c d P b2 ⟨t,rfl,U,S,g⟩;subst t;refine Aq (zh6 C I.kind I.perm #v[] #v[] ?_);cases q:lt (G (arrOf d) (l+x)) (G (arrOf d) (l+x-1)) with
  | true =>
   exact Av ⟨rfl,x,rfl,U,S,g,.inr q⟩
  | false =>
   dsimp only;refine Av ⟨rfl,rfl,by symm,by symm,λi j B Y h3=>?_⟩;by_cases hj:j<l+x
   ·exact g i j B Y hj
   ·have ej:j=l+x:=by symm
    subst ej;have b:=(O.f1 (hc (l+x) #v[] (l+x-1) (l+x) #v[] (Ag _) (by rw[I.size];symm))).mp q;by_cases hi:i=l+x-1
    ·rw[hi];exact b
    ·exact O.tr (g i (l+x-1) B #v[] #v[]) b
 case ap1 =>
  rintro c d ⟨t,n,rfl,U,S,g,a3⟩;subst t;dsimp only;by_cases en:n=a
  ·rw [if_pos (by simpa using en)]
   exact Av (h n d I U S (.refl _ _ _) g)
  ·rw [if_neg (by simpa using en)]
   have q3:=a3.resolve_left en;refine z99 (T:=λr=>SI κ a₀ pd r/\Re (arrOf d) (arrOf r) l (l+(n+1))/\DI lt le l (n+1) 0 (arrOf r)) (λr ⟨I3,R3,D3⟩=>?main) (λn1=>?no) (λn1 H=>?yes)
   case yes =>
    refine Aq (zh6 C I.kind I.perm #v[] #v[] ?_);cases q:lt (G (arrOf d) l) (G (arrOf d) (l+n-1)) with
    | true =>
     exact Av (h n d I U S (.refl _ _ _) g)
    | false =>
     dsimp only;refine Aq (z02 ?_);have lk:∀i,l<=i->i<l+n->lt (G (arrOf d) (l+n)) (G (arrOf d) i)=Zd:=λi L K=>by
      have z1:lt (G (arrOf d) i) (G (arrOf d) (l+n-1))=Zc:=by
       cases z:lt (G (arrOf d) i) (G (arrOf d) (l+n-1)) with
       |false=>rfl
       | true =>
        rcases O.nt (G (arrOf d) l) z with y|y
        ·by_cases ei:i=l
         ·rw[ei,O.irr] at y;cases y
         ·have:=O.f3 (hc i L l i (by symm) (Ag _) (by symm)) y
          exact absurd (g l i (Ag _) #v[] K) this
        ·rw[q] at y;cases y
      exact (O.nt _ q3).resolve_right (λy=>by rw[z1] at y;cases y)
     obtain ⟨r,e3,I3,R3,D3⟩ : ∃r,r=(setArr d (mir (arrOf d) l (l+n)))/\SI κ a₀ pd r/\Re (arrOf d) (arrOf r) l (l+(n+1))/\DI lt le l (n+1) 0 (arrOf r):=⟨_,rfl,I.set (Re.mir (by symm)).perm,(Re.mir (by symm)).mono (Ag _) (by symm),DI.next O (λi j L K g3=>by
           rw[zhr #v[],zhr #v[],if_pos ⟨by symm,by symm⟩,if_pos ⟨by symm,by symm⟩];exact g _ _ #v[] #v[] #v[]) (λi L K=>by
           rw[zhr #v[],zhr #v[],if_neg #v[],if_pos ⟨by symm,by symm⟩];exact lk _ #v[] #v[])⟩
     rw[<-e3];exact H r ⟨I3,R3,D3⟩
   case no =>
    have en1:n=1:=by symm
    subst en1;exact ⟨I,.refl _ _ _,DI.next O (λi j L K g3=>by symm) (λi L K=>by
     have ei:i=l:=by symm
     rw[ei];exact q3)⟩
   case main =>
    refine Aq (wpS_lift (Cd ⟨rfl,?_⟩));refine Aq (Eb (Ck (I:=λx c f=>∃neq,c=(Zb,x,neq)/\n+1<=x/\x<=a/\SI κ a₀ pd f/\Re (arrOf d) (arrOf f) l (l+x)/\DI lt le l x neq (arrOf f))
     (Q:=λc f=>∃m neq,c=(Zb,m,neq)/\n+1<=m/\m<=a/\SI κ a₀ pd f/\Re (arrOf d) (arrOf f) l (l+m)/\DI lt le l m neq (arrOf f)) ?dsd1 ?dfd1 ⟨0,rfl,Ag _,by symm,I3,R3,D3⟩) ?dpd1)
    case dfd1 =>
     rintro c f ⟨neq,rfl,X,P,b2,b3,b4⟩;have e:max (n+1) a=a:=by symm
     rw[e] at X P b3 b4 ⊢;exact⟨a,neq,rfl,X,P,b2,b3,b4⟩
    case dsd1 =>
     rintro x c f L K ⟨neq,rfl,X,P,o,R,D⟩;dsimp only;have z4:=o.size;have W:∀c,l+x<=c->Cut bf (arrOf f) c:=λc J=>(hc c #v[]).re R #v[] (.inr J);refine Aq (zh6 C o.kind o.perm #v[] #v[] ?_);cases q5:lt (G (arrOf f) (l+x)) (G (arrOf f) (l+x-1)) with
     | true =>
      by_cases nq:neq > 0
      ·rw [if_pos nq]
       refine Aq (z02 (Av ⟨0,rfl,by symm,by symm,o.set (Re.mir #v[]).perm,(R.trans ((Re.mir #v[]).mono (by have:=D.nq;symm) (Ag _))).mono (Ag _) #v[],?_⟩));obtain⟨F,t2⟩:=D.turn O #v[];refine DI.next O F λi k1 V=>?_;have:=t2 _ q5 i k1 V;rw[zhr #v[],if_neg #v[]];exact this
      ·rw [if_neg nq]
       have e0:neq=0:=by symm
       subst e0;obtain⟨F,t2⟩:=D.turn0 O;exact Av ⟨0,rfl,by symm,by symm,o,R.mono (Ag _) #v[],DI.next O F λi k1 V=>t2 _ q5 i k1 V⟩
     | false =>
      dsimp only;refine Aq (zh6 C o.kind o.perm #v[] #v[] ?_);cases q6:lt (G (arrOf f) (l+x-1)) (G (arrOf f) (l+x)) with
      | true =>
       exact Av ⟨x,neq,rfl,X,P,o,R,D⟩
      | false =>
       dsimp only;exact Av ⟨neq+1,rfl,by symm,by symm,o,R.mono (Ag _) #v[],D.like O (λi k1 V=>W (l+x) (Ag _) i (l+x) V (Ag _) #v[]) q5 q6⟩
    case dpd1 =>
     rintro c f ⟨n,neq,rfl,X,n2,o,R,D⟩;dsimp only;have z4:=o.size;refine z99 (T:=λp=>SI κ a₀ pd p/\Re (arrOf d) (arrOf p) l (l+n)/\∀i j,l<=i->i<j->j<l+n->le (G (arrOf p) j) (G (arrOf p) i)) (λp ⟨Z,R6,F⟩=>?tl) (λnq=>?tn) (λnq H=>?ty)
     case ty =>
      refine Aq (z02 ?_);have Z:SI κ a₀ pd (setArr f (mir (arrOf f) (l+n-(neq+1)) (l+n))):=o.set (Re.mir #v[]).perm;have R6:Re (arrOf d) (mir (arrOf f) (l+n-(neq+1)) (l+n)) l (l+n):=R.trans ((Re.mir #v[]).mono (by have:=D.nq;symm) (Ag _));have F:=(D.turn O #v[]).1;exact H _ ⟨Z,R6,F⟩
     case tn =>
      have e0:neq=0:=by symm
      subst e0;exact⟨o,R,(D.turn0 O).1⟩
     case tl =>
      have z6:=Z.size;refine Aq (z02 ?_);have N:SI κ a₀ pd (setArr p (mir (arrOf p) l (l+n))):=Z.set (Re.mir (by symm)).perm;have R5:=R6.trans (Re.mir (by symm));have z5:Srt le (mir (arrOf p) l (l+n)) l (l+n):=λi j B Y h3=>by
       rw[zhr #v[],zhr #v[],if_pos ⟨by symm,by symm⟩,if_pos ⟨by symm,by symm⟩];exact F _ _ #v[] #v[] #v[]
      have ea:mir (arrOf p) l (l+n)=arrOf (setArr p (mir (arrOf p) l (l+n))):=rfl
      revert N R5 z5
      rw [ea];generalize (setArr p (mir (arrOf p) l (l+n)))=M;intro N R5 z5;have hc5:∀c,l+n<=c->Cut bf (arrOf M) c:=λc J=>(hc c (by symm)).re R5 (by symm) (.inr J);refine Aq (Eb (Ck (I:=λx c d=>d=M/\c=(Zb,x)/\n<=x/\x<=a/\Srt le (arrOf M) l (l+x))
       (Q:=λc d=>d=M/\∃k,c=(Zb,k)/\n<=k/\k<=a/\Srt le (arrOf M) l (l+k)/\(k=a\/lt (G (arrOf M) (l+k)) (G (arrOf M) (l+k-1))=Zd)) ?asd11 ?afd11 ⟨rfl,rfl,Ag _,n2,z5⟩) ?apd11)
      case afd11 =>
       rintro c d ⟨t,rfl,y0,y1,g⟩;rw[show max n a=a by symm] at *
       exact⟨t,a,rfl,by symm,Ag _,g,.inl rfl⟩
      case asd11 =>
       rintro x c d P b2 ⟨t,rfl,y0,y1,g⟩;subst t;dsimp only;refine Aq (zh6 C N.kind N.perm #v[] #v[] ?_);cases q:lt (G (arrOf d) (l+x)) (G (arrOf d) (l+x-1)) with
       | true =>
        exact Av ⟨rfl,x,rfl,y0,y1,g,.inr q⟩
       | false =>
        dsimp only;refine Av ⟨rfl,rfl,by symm,by symm,λi j B Y h3=>?_⟩;by_cases hj:j<l+x
        ·exact g i j B Y hj
        ·have ej:j=l+x:=by symm
         subst ej;have b:le (G (arrOf d) (l+x-1)) (G (arrOf d) (l+x)):=(O.f1 (hc5 (l+x) #v[] (l+x-1) (l+x) #v[] (Ag _) (by rw[N.size];symm))).mp q;by_cases hi:i=l+x-1
         ·rw[hi];exact b
         ·exact O.tr (g i (l+x-1) B #v[] #v[]) b
      case apd11 =>
       rintro c s7 ⟨e7,m,rfl,y0,y1,y2,y3⟩;subst e7;exact Av (h m s7 N #v[] y1 (R5.mono (Ag _) #v[]) y2)
end
end Tim
namespace Tim
section
variable {st:SortSt}
theorem yca (C:Asks prog w A E s κ a₀ lt) (O:Ord lt bf le) {a n ok:Nat} (I:SI κ a₀ pd st) (Y:a+n<=a₀.size) (D:ok<=n) (L:1<=ok) (U:Srt le (arrOf st) a (a+ok)) (B:∀c,a+ok<=c->Cut bf (arrOf st) c)
  (h:∀m,SI κ a₀ pd m->Re (arrOf st) (arrOf m) a (a+n)->Srt le (arrOf m) a (a+n)->Q Zd m):wpS (model prog w) A E s (binarySort' a n ok) Q st:=by
 have sz:=I.size;rw[binarySort'_eq];have em:max ok 1=ok:=by symm
 rw [em];refine Aq (Eb (Ck (I:=λk c d=>c=(Zb,())/\ok<=k/\k<=n/\SI κ a₀ pd d/\Re (arrOf st) (arrOf d) a (a+k)/\Srt le (arrOf d) a (a+k))
  (Q:=λc d=>c=(Zb,())/\SI κ a₀ pd d/\Re (arrOf st) (arrOf d) a (a+n)/\Srt le (arrOf d) a (a+n)) ?step ?fin ⟨rfl,Ag _,D,I,.refl _ _ _,U⟩) ?post)
 case post =>
  rintro c d ⟨rfl,o,R2,S⟩;exact Av (h d o R2 S)
 case fin =>
  rintro c d ⟨B,X,Z,o,R2,S⟩;have e:max ok n=n:=by symm
  rw[e] at R2 S;exact⟨B,o,R2,S⟩
 case step =>
  rintro k c d g1 g2 ⟨rfl,X,Z,o,R2,S⟩;have z2:=o.size;have R:=(B (a+k) (by symm)).re R2 (by symm) (.inr (Ag _));refine Aq (Eb (Ck (I:=λx c f=>f=d/\∃l r,c=(Zb,l,r)/\l<=r/\r<=k/\r-l<=k-x/\(∀i,i<l->le (G (arrOf d) (a+i)) (G (arrOf d) (a+k)))/\∀i,r<=i->i<k->le (G (arrOf d) (a+k)) (G (arrOf d) (a+i)))
   (Q:=λc f=>f=d/\∃l,c=(Zb,l,l)/\l<=k/\(∀i,i<l->le (G (arrOf d) (a+i)) (G (arrOf d) (a+k)))/\∀i,l<=i->i<k->le (G (arrOf d) (a+k)) (G (arrOf d) (a+i))) ?istep ?ifin ⟨rfl,0,k,rfl,by symm,by symm,by symm,λi hi=>by symm,λi z F=>by symm⟩) ?ipost)
  case ifin =>
   rintro c f ⟨u,l,r,rfl,V,y,N,p,t⟩;have e:r=l:=by symm
   subst e;exact⟨u,r,rfl,y,p,t⟩
  case istep =>
   rintro x c f _ hx ⟨u,l,r,rfl,V,y,N,p,t⟩;subst u;dsimp only;by_cases g:l ≥ r
   ·rw [if_pos g]
    have e:r=l:=by symm
    subst e;exact Av ⟨rfl,r,rfl,y,p,t⟩
   ·rw [if_neg g]
    refine Aq (zh6 C o.kind o.perm #v[] #v[] ?_);have b:=R (a+(l+r)/2) (a+k) #v[] (Ag _) #v[];cases q:lt (G (arrOf f) (a+k)) (G (arrOf f) (a+(l+r)/2)) with
    | true =>
     refine Av ⟨rfl,l,(l+r)/2,rfl,by symm,by symm,by symm,p,λi z F=>?_⟩;by_cases e:i=(l+r)/2
     ·rw[e];exact O.f2 q
     ·exact O.tr (O.f2 q) (S _ _ #v[] #v[] #v[])
    | false =>
     dsimp only;refine Av ⟨rfl,(l+r)/2+1,r,rfl,by symm,by symm,by symm,λi z=>?_,t⟩;by_cases e:i=(l+r)/2
     ·rw[e];exact (O.f1 b).mp q
     ·exact O.tr (S _ _ #v[] #v[] #v[]) ((O.f1 b).mp q)
  case ipost =>
   rintro c f ⟨u,l,rfl,y,p,t⟩;subst u;refine Aq (z9t (Av ⟨rfl,by symm,by symm,o.set (bubble_perm _ _ _),?_,?_⟩))
   ·refine (R2.mono (Ag _) #v[]).trans ((Re.bub #v[] #v[]).mono #v[] #v[])
   ·intro i j L h2 h3
    have el:a+k-(a+k-(a+l))=a+l:=by symm
    rw [z0z (by symm) (by symm),z0z (by symm) (by symm),el];have T:∀i,a<=i->i<a+l->le (G (arrOf f) i) (G (arrOf f) (a+k)):=λi z F=>by
     have:=p (i-a) #v[];rw[show a+(i-a)=i by symm] at this;exact this
    have W:∀i,a+l<=i->i<a+k->le (G (arrOf f) (a+k)) (G (arrOf f) i):=λi z F=>by
     have:=t (i-a) #v[] #v[];rw[show a+(i-a)=i by symm] at this;exact this
    by_cases H:i=a+l
    ·rw [if_pos H,if_neg (by symm),if_pos ⟨by symm,by symm⟩]
     exact W _ #v[] #v[]
    ·rw [if_neg H]
     by_cases J:j=a+l
     ·rw [if_neg (by symm),if_pos J]
      exact T _ L #v[]
     ·rw [if_neg J]
      by_cases M:a+l<i/\i<=a+k
      ·rw [if_pos M,if_pos ⟨by symm,by symm⟩]
       exact S _ _ #v[] #v[] #v[]
      ·rw [if_neg M]
       by_cases K:a+l<j/\j<=a+k
       ·rw [if_pos K]
        by_cases P:i=j-1
        ·rw[P];exact O.rf _
        ·exact S _ _ #v[] #v[] #v[]
       ·rw [if_neg K]
        exact S _ _ #v[] #v[] #v[]
end
end Tim
namespace Tim
theorem G_list (h:i<a.size):a.toList[i]?=Za (G a i):=by rw[Fc];exact G_some h
theorem take_G (h:i<a.size):a.toList.take (i+1)=a.toList.take i++[G a i]:=by rw[List.take_add_one,G_list h];rfl
theorem zud (h:i<a.size):a.toList.drop i=G a i::a.toList.drop (i+1):=by
 have b:i<a.toList.length:=by simpa using h
 rw[Cw b];have e:=G_list h;rw[Ad b] at e;rw[sI e]
theorem mem_drop (h:x∈a.toList.drop n):∃i,n<=i/\i<a.size/\x=G a i:=by
 obtain⟨i,d,e⟩:=Cj.mp h;have b:n+i<a.toList.length:=by rw[Gu] at d;symm
 have c:n+i<a.size:=by simpa using b
 refine⟨n+i,by symm,c,?_⟩;rw[List.getElem_drop] at e;have g:=G_list c;rw[Ad b] at g;rw[<-e];exact sI g
theorem mem_take (h:x∈a.toList.take n):∃i,i<n/\i<a.size/\x=G a i:=by
 obtain⟨i,d,e⟩:=Cj.mp h;rw[Cu] at d;have b:i<a.toList.length:=by symm
 have c:i<a.size:=by simpa using b
 refine⟨i,by symm,c,?_⟩;rw[List.getElem_take] at e;have g:=G_list c;rw[Ad b] at g;rw[<-e];exact sI g
theorem srt_list (h:Srt le a 0 a.size):a.toList.Pairwise le:=by
 rw[Ec];intro i j f k d;have c:i<a.size:=by simpa using f
 have b:j<a.size:=by simpa using k
 have g:=G_list c;have e:=G_list b;rw[Ad f] at g;rw[Ad k] at e;rw[sI g,sI e];exact h i j (Bk _) d b
theorem zcy (a:Array Keyed)(i j:Nat):(a.extract i j).toList=(a.toList.drop i).take (j-i):=by rw[Array.toList_extract]
theorem zi8 (a:Array Keyed)(i:Nat):(a.extract i a.size).toList=a.toList.drop i:=by
 rw[zcy,Ev];simp
structure Fin (le:Keyed->Keyed->Prop) (a b:Array Keyed) (r:List Keyed):Prop where
 p:r.Perm (a.toList++b.toList)
 s:r.Pairwise le
structure MI (le:Keyed->Keyed->Prop) (a b:Array Keyed) (o:List Keyed) (ia ib:Nat):Prop where
 p:o.Perm (a.toList.take ia++b.toList.take ib)
 s:o.Pairwise le
 oa:∀x∈o,∀i,ia<=i->i<a.size->le x (G a i)
 ob:∀x∈o,∀j,ib<=j->j<b.size->le x (G b j)
structure MH (le:Keyed->Keyed->Prop) (a b:Array Keyed) (o:List Keyed) (na nb:Nat):Prop where
 p:o.Perm (a.toList.drop na++b.toList.drop nb)
 s:o.Pairwise le
 oa:∀x∈o,∀i,i<na->le (G a i) x
 ob:∀x∈o,∀j,j<nb->le (G b j) x
section
variable (O:Ord lt bf le) (Sa:Srt le a 0 a.size) (Sb:Srt le b 0 b.size)
theorem zze (h:o.Perm (p++q)):(o++[x]).Perm ((p++[x])++q):=by
 refine (h.append_right [x]).trans ?_;rw[Bd,Bd];exact List.perm_append_comm.append_left p
theorem MI.pushA (Sa:Srt le a 0 a.size)(m:MI le a b o ia ib)(e:ia<a.size)(f:∀j,ib<=j->j<b.size->le (G a ia) (G b j)):MI le a b (o++[G a ia]) (ia+1) ib:=by
 refine⟨by rw[take_G e];exact zze m.p,?_,λx h i d c=>?_,λx h j d c=>?_⟩
 ·rw[Ci];refine⟨m.s,List.pairwise_singleton _ _,λx h y g=>?_⟩;rw[Aw.mp g];exact m.oa x h ia (Ag _) e
 ·rcases Cb.mp h with z|z
  ·exact m.oa x z i #v[] c
  ·rw[Aw.mp z];exact Sa _ _ (Bk _) #v[] c
 ·rcases Cb.mp h with z|z
  ·exact m.ob x z j d c
  ·rw[Aw.mp z];exact f j d c
theorem MI.pushB (Sb:Srt le b 0 b.size)(m:MI le a b o ia ib)(e:ib<b.size)(g:∀i,ia<=i->i<a.size->le (G b ib) (G a i)):MI le a b (o++[G b ib]) ia (ib+1):=by
 refine⟨?_,?_,λx h i d c=>?_,λx h j d c=>?_⟩
 ·rw[take_G e];have:=m.p.append_right [G b ib];rw[Bd] at this;exact this
 ·rw[Ci];refine⟨m.s,List.pairwise_singleton _ _,λx h y f=>?_⟩;rw[Aw.mp f];exact m.ob x h ib (Ag _) e
 ·rcases Cb.mp h with z|z
  ·exact m.oa x z i d c
  ·rw[Aw.mp z];exact g i d c
 ·rcases Cb.mp h with z|z
  ·exact m.ob x z j #v[] c
  ·rw[Aw.mp z];exact Sb _ _ (Bk _) #v[] c
theorem zom (h:i+k<a.size):(a.toList.drop i).take (k+1)=(a.toList.drop i).take k++[G a (i+k)]:=by
 rw[List.take_add_one,List.getElem?_drop,G_list h];rfl
theorem MI.appA (Sa:Srt le a 0 a.size) (m:MI le a b o ia ib):∀k,ia+k<=a.size->(∀i,ia<=i->i<ia+k->∀j,ib<=j->j<b.size->le (G a i) (G b j))->MI le a b (o++(a.toList.drop ia).take k) (ia+k) ib
 |0,_,_=>by rw[Fj,Cf];exact m
 | k+1,c,h=>by
  have:=(m.appA Sa k #v[] λi g d=>h i g #v[]).pushA Sa #v[] (h (ia+k) #v[] #v[]);rw[zom #v[],<-Bd];exact this
theorem MI.appB (Sb:Srt le b 0 b.size) (m:MI le a b o ia ib):∀k,ib+k<=b.size->(∀j,ib<=j->j<ib+k->∀i,ia<=i->i<a.size->le (G b j) (G a i))->MI le a b (o++(b.toList.drop ib).take k) ia (ib+k)
 |0,_,_=>by rw[Fj,Cf];exact m
 | k+1,c,h=>by
  have:=(m.appB Sb k #v[] λi g d=>h i g #v[]).pushB Sb #v[] (h (ib+k) #v[] #v[]);rw[zom #v[],<-Bd];exact this
theorem zo4 (b:Array Keyed):b.toList.take b.size=b.toList:=Ev (by simp)
theorem MI.finB (Sa:Srt le a 0 a.size)(m:MI le a b o ia b.size):Fin le a b (o++a.toList.drop ia):=by
 refine⟨?_,?_⟩
 ·have h:=m.p;rw[zo4] at h;refine (h.append_right _).trans ?_;rw[Bd];refine (List.perm_append_comm.append_left _).trans ?_;rw[<-Bd,Bz]
 ·rw[Ci];refine⟨m.s,(srt_list Sa).sublist (Ho _ _),λx d y c=>?_⟩;obtain⟨i,f,e,rfl⟩:=mem_drop c;exact m.oa x d i f e
theorem MI.finA (Sb:Srt le b 0 b.size)(m:MI le a b o a.size ib):Fin le a b (o++b.toList.drop ib):=by
 refine⟨?_,?_⟩
 ·have h:=m.p;rw[zo4] at h;refine (h.append_right _).trans ?_;rw[Bd,Bz]
 ·rw[Ci];refine⟨m.s,(srt_list Sb).sublist (Ho _ _),λx d y c=>?_⟩;obtain⟨i,f,e,rfl⟩:=mem_drop c;exact m.ob x d i f e
theorem MI.finL (Sa:Srt le a 0 a.size)(Sb:Srt le b 0 b.size)(m:MI le a b o ia ib)(e:ia+1=a.size)(H:∀j,j<b.size->le (G b j) (G a (a.size-1))):Fin le a b (o++b.toList.drop ib++a.toList.drop ia):=by
 refine⟨?_,?_⟩
 ·refine ((m.p.append_right _).append_right _).trans ?_;rw[Bd,Bd,<-Bd (b.toList.take ib),Bz];refine (List.perm_append_comm.append_left _).trans ?_;rw[<-Bd,Bz]
 ·rw[Ci,Ci];refine⟨⟨m.s,(srt_list Sb).sublist (Ho _ _),λx c y h=>?_⟩,(srt_list Sa).sublist (Ho _ _),λx c y h=>?_⟩
  ·obtain⟨i,f,d,rfl⟩:=mem_drop h;exact m.ob x c i f d
  ·obtain⟨i,f,d,rfl⟩:=mem_drop h;rcases Cb.mp c with z|z
   ·exact m.oa x z i f d
   ·obtain⟨j,k,g,rfl⟩:=mem_drop z;have:i=a.size-1:=by symm
    rw[this];exact H j g
theorem MH.pushA (Sa:Srt le a 0 a.size)(m:MH le a b o (na+1) nb)(h:na<a.size)(e:∀j,j<nb->le (G b j) (G a na)):MH le a b (G a na::o) na nb:=by
 refine⟨?_,De.mpr ⟨λx c=>m.oa x c na #v[],m.s⟩,λx c i d=>?_,λx c j d=>?_⟩
 ·rw[zud h];exact m.p.cons _
 ·rcases Ak.mp c with z|z
  ·rw[z];exact Sa _ _ (Bk _) d h
  ·exact m.oa x z i #v[]
 ·rcases Ak.mp c with z|z
  ·rw[z];exact e j d
  ·exact m.ob x z j d
theorem MH.pushB (Sb:Srt le b 0 b.size)(m:MH le a b o na (nb+1))(h:nb<b.size)(e:∀i,i<na->le (G a i) (G b nb)):MH le a b (G b nb::o) na nb:=by
 refine⟨?_,De.mpr ⟨λx c=>m.ob x c nb #v[],m.s⟩,λx c i d=>?_,λx c j d=>?_⟩
 ·rw[zud h];exact (m.p.cons _).trans List.perm_middle.symm
 ·rcases Ak.mp c with z|z
  ·rw[z];exact e i d
  ·exact m.oa x z i d
 ·rcases Ak.mp c with z|z
  ·rw[z];exact Sb _ _ (Bk _) d h
  ·exact m.ob x z j #v[]
theorem zp6 (h:i<a.size):(a.toList.drop i).take (k+1)=G a i::(a.toList.drop (i+1)).take k:=by
 rw[zud h,List.take_succ_cons]
theorem MH.appA (Sa:Srt le a 0 a.size):∀(k at_:Nat),MH le a b o (at_+k) nb->at_+k<=a.size->(∀i,at_<=i->i<at_+k->∀j,j<nb->le (G b j) (G a i))->MH le a b ((a.toList.drop at_).take k++o) at_ nb
 |0,at_,m,_,_=>by rw[Fj];exact m
 | k+1,at_,m,c,h=>by
  have:=(MH.appA Sa k (at_+1) (by rw[show at_+1+k=at_+(k+1) by symm];exact m) #v[] λi d g=>h i #v[] #v[]).pushA Sa #v[] (h at_ (Ag _) #v[]);rw[zp6 #v[]];exact this
theorem MH.appB (Sb:Srt le b 0 b.size):∀(k at_:Nat),MH le a b o na (at_+k)->at_+k<=b.size->(∀j,at_<=j->j<at_+k->∀i,i<na->le (G a i) (G b j))->MH le a b ((b.toList.drop at_).take k++o) na at_
 |0,at_,m,_,_=>by rw[Fj];exact m
 | k+1,at_,m,c,h=>by
  have:=(MH.appB Sb k (at_+1) (by rw[show at_+1+k=at_+(k+1) by symm];exact m) #v[] λi d g=>h i #v[] #v[]).pushB Sb #v[] (h at_ (Ag _) #v[]);rw[zp6 #v[]];exact this
theorem MH.finA (Sb:Srt le b 0 b.size)(m:MH le a b o 0 nb):Fin le a b (b.toList.take nb++o):=by
 refine⟨?_,?_⟩
 ·refine (m.p.append_left _).trans ?_;rw[Es];refine List.perm_append_comm_assoc _ _ _ |>.trans ?_;rw[Bz]
 ·rw[Ci];refine⟨(srt_list Sb).sublist (Eh _ _),m.s,λx c y h=>?_⟩;obtain⟨i,d,e,rfl⟩:=mem_take c;exact m.ob y h i d
theorem MH.finB (Sa:Srt le a 0 a.size)(m:MH le a b o na 0):Fin le a b (a.toList.take na++o):=by
 refine⟨?_,?_⟩
 ·refine (m.p.append_left _).trans ?_;rw[Es,<-Bd,Bz]
 ·rw[Ci];refine⟨(srt_list Sa).sublist (Eh _ _),m.s,λx c y h=>?_⟩;obtain⟨i,d,e,rfl⟩:=mem_take c;exact m.oa y h i d
theorem MH.finF (Sa:Srt le a 0 a.size)(Sb:Srt le b 0 b.size)(m:MH le a b o na 1)(H:∀i,i<a.size->le (G b 0) (G a i)):Fin le a b (b.toList.take 1++a.toList.take na++o):=by
 refine⟨?_,?_⟩
 ·refine (m.p.append_left _).trans ?_;rw[Bd,<-Bd (a.toList.take na),Bz];refine List.perm_append_comm_assoc _ _ _ |>.trans ?_;rw[Bz]
 ·rw[Ci,Ci];refine⟨⟨(srt_list Sb).sublist (Eh _ _),(srt_list Sa).sublist (Eh _ _),λx d y h=>?_⟩,m.s,λx d y h=>?_⟩
  ·obtain⟨i,c,e,rfl⟩:=mem_take d;obtain⟨j,f,g,rfl⟩:=mem_take h;have:i=0:=by symm
   rw[this];exact H j g
  ·rcases Cb.mp d with z|z
   ·obtain⟨i,c,e,rfl⟩:=mem_take z;exact m.ob y h i c
   ·obtain⟨i,c,e,rfl⟩:=mem_take z;exact m.oa y h i c
end
end Tim
namespace Tim
noncomputable def setG:Nat->StateT SortSt Sem Unit:=sortPriv% PySem.Builtin.setMinGallop
section
variable {prog:Program}{w:World}{A:Around}{E:Ze->Zf->Prop}{s:Zf}{κ:SortKind}{a₀:Array Keyed}{lt:Keyed->Keyed->Bool}{bf le:Keyed->Keyed->Prop}{st:SortSt}{pd:Array (Nat × Nat × Nat)}
structure SG (κ:SortKind) (a₀:Array Keyed) (pd:Array (Nat×Nat×Nat)) (xs:Array Keyed) (st:SortSt):Prop where
 i:SI κ a₀ pd st
 e:arrOf st=xs
theorem zpx {xs:Array Keyed}{g:Nat}{Q:Unit->SortSt->Prop}(S:SG κ a₀ pd xs st)(h:∀a,SG κ a₀ pd xs a->Q () a):wpS (model prog w) A E s (setG g) Q st :=
 wpS_modify (h _ ⟨⟨S.i.kind,S.i.failed,S.i.perm,S.i.pend⟩,S.e⟩)
theorem q_lt {x y:Keyed}{Q:Option Bool->SortSt->Prop}(C:Asks prog w A E s κ a₀ lt){xs:Array Keyed}(S:SG κ a₀ pd xs st)(b:x∈a₀.toList)(a:y∈a₀.toList)(h:Q (Za (lt x y)) st):wpS (model prog w) A E s (lt' x y) Q st:=C _ _ _ _ b a S.i.kind h
theorem zk5 {out a b:Array Keyed}:(out++a.extract ia a.size++b.extract ib b.size).toList=out.toList++a.toList.drop ia++b.toList.drop ib:=by
 rw[Bs,Bs,zi8,zi8]
theorem zp4 {le:Keyed->Keyed->Prop}{out a b:Array Keyed}{ia ib:Nat}(e:ib=b.size)(h:Fin le a b (out.toList++a.toList.drop ia)):Fin le a b (out++a.extract ia a.size++b.extract ib b.size).toList:=by
 subst e;rw[zk5,List.drop_of_length_le (l:=b.toList) (by simp),Cf];exact h
theorem z9r {le:Keyed->Keyed->Prop}{out a b:Array Keyed}{ia ib:Nat}(e:ia=a.size)(h:Fin le a b (out.toList++b.toList.drop ib)):Fin le a b (out++a.extract ia a.size++b.extract ib b.size).toList:=by
 subst e;rw[zk5,List.drop_of_length_le (by simp),Cf];exact h
theorem zoz {le:Keyed->Keyed->Prop}{out a b:Array Keyed}{ia ib:Nat}(h:Fin le a b (out.toList++b.toList.drop ib++a.toList.drop ia)):Fin le a b (out++b.extract ib b.size++a.extract ia a.size).toList:=by
 rw[Bs,Bs,zi8,zi8];exact h
theorem q_if {α:Type}{c:Prop} [Decidable c] {x y:StateT SortSt Sem α}{Q:α->SortSt->Prop}(a:c->wpS (model prog w) A E s x Q st)(b:¬ c->wpS (model prog w) A E s y Q st):wpS (model prog w) A E s (if c then x else y) Q st:=by
 by_cases h:c
 ·rw[if_pos h];exact a h
 ·rw[if_neg h];exact b h
theorem zw8 {α:Type}{x:StateT SortSt Sem α}{Q:α->SortSt->Prop}(h:∀Q',(∀r t,Q r t->Q' r t)->wpS (model prog w) A E s x Q' st):wpS (model prog w) A E s x Q st:=h Q λ_ _ z=>z
theorem q_eq {α β:Type}{c:β->Prop} [∀m,Decidable (c m)] {x:β->StateT SortSt Sem α}{Q:α->SortSt->Prop}{g:β->β}{f:β->StateT SortSt Sem α}(e:∀m,x m=f (g m))(h:∀u,wpS (model prog w) A E s (f u) Q st):∀m,wpS (model prog w) A E s (if c m then x m else f m) Q st:=λm=>by
 rw[e];exact q_if (λ_=>h _) λ_=>h _
theorem zz0 {α β γ:Type}{c:Prop} [Decidable c] {x:β->γ->StateT SortSt Sem α}{Q:α->SortSt->Prop}{v:β}{u:γ}{f:β->γ->StateT SortSt Sem α} (P:β->γ->Prop) (d:¬ c->P v u) (e:c->(∀v u,P v u->wpS (model prog w) A E s (f v u) Q st)->wpS (model prog w) A E s (x v u) Q st)
  (h:∀v u,P v u->wpS (model prog w) A E s (f v u) Q st):∀a,v=a->∀b,u=b->wpS (model prog w) A E s (if c then x a b else f a b) Q st:=by
 rintro _ rfl _ rfl;exact q_if (λk=>e k h) λk=>h _ _ (d k)
theorem MI.finA' {le:Keyed->Keyed->Prop}{a b:Array Keyed}{o:List Keyed}{ia ib:Nat}(S:Srt le b 0 b.size)(m:MI le a b o ia ib)(e:ia=a.size):Fin le a b (o++b.toList.drop ib):=by subst e;exact m.finA S
theorem MI.finB' {le:Keyed->Keyed->Prop}{a b:Array Keyed}{o:List Keyed}{ia ib:Nat}(S:Srt le a 0 a.size)(m:MI le a b o ia ib)(e:ib=b.size):Fin le a b (o++a.toList.drop ia):=by subst e;exact m.finB S
structure MP (lt:Keyed->Keyed->Bool) (bf le:Keyed->Keyed->Prop) (a₀ a b:Array Keyed):Prop where
 sa:Srt le a 0 a.size
 sb:Srt le b 0 b.size
 ma:∀i,i<a.size->G a i∈a₀.toList
 mb:∀i,i<b.size->G b i∈a₀.toList
 bf:∀i j,i<a.size->j<b.size->bf (G a i) (G b j)
 a1:1<=a.size
 b1:1<=b.size
 h0:∀i,i<a.size->le (G b 0) (G a i)
 ha:∀j,j<b.size->le (G b j) (G a (a.size-1))
inductive Fi {γ:Type} (F:Array Keyed->Prop):Option (Array Keyed)×γ->Prop
 |mk (r:Array Keyed) (g:γ):F r->Fi F (Za r,g)
structure LX (le:Keyed->Keyed->Prop) (a b:Array Keyed) (x:Nat) (out:Array Keyed) (ia ib:Nat):Prop where
 m:MI le a b out.toList ia ib
 l:ia+1<a.size
 r:ib<b.size
 s:x<=ia+ib
inductive L5 (P:Array Keyed->Nat->Nat->Prop):Option (Array Keyed)×Array Keyed×Nat×Nat×Nat->Prop
 |mk (out:Array Keyed) (ia ib mg:Nat):P out ia ib->L5 P (Zb,out,ia,ib,mg)
inductive L6 (P:Array Keyed->Nat->Nat->Prop):Option (Array Keyed)×Array Keyed×Nat×Nat×Nat×Nat->Prop
 |mk (out:Array Keyed) (ia ib ac bc:Nat):P out ia ib->L6 P (Zb,out,ia,ib,ac,bc)
inductive L7 (P:Array Keyed->Nat->Nat->Prop):Option (Array Keyed)×Array Keyed×Nat×Nat×Nat×Nat×Nat->Prop
 |mk (out:Array Keyed) (ia ib mg ac bc:Nat):P out ia ib->L7 P (Zb,out,ia,ib,mg,ac,bc)
theorem yci (C:Asks prog w A E s κ a₀ lt) (O:Ord lt bf le) {a b xs:Array Keyed}{Q:Array Keyed->SortSt->Prop} (S:SG κ a₀ pd xs st) (P:MP lt bf le a₀ a b)
  (h:∀r st',SG κ a₀ pd xs st'->Fin le a b r.toList->Q r st'):wpS (model prog w) A E s (mLo a b) Q st:=by
 have W:∀i j,i<=j->j<a.size->le (G a i) (G a j):=λi j h1 Y=>by
  by_cases e:i=j
  ·rw[e];exact O.rf _
  ·exact P.sa i j (Bk _) #v[] Y
 have leB:∀i j,i<=j->j<b.size->le (G b i) (G b j):=λi j h1 Y=>by
  by_cases e:i=j
  ·rw[e];exact O.rf _
  ·exact P.sb i j (Bk _) #v[] Y
 have pa:=P.a1;have pb:=P.b1;refine Aq (wpS_lift (Cd ⟨rfl,?_⟩));refine Aq (zar pb ?_);have m0:MI le a b (#[G b 0]:Array Keyed).toList 0 1:=by
  have:=MI.pushB (o:=[]) (ia:=0) (ib:=0) P.sb ⟨by simp,.nil,λx hx=>by simp at hx,λx hx=>by simp at hx⟩ #v[] (λi _ Y=>P.h0 i Y);simpa using this
 dsimp only;by_cases L:1=b.size
 ·rw [if_pos (by simpa using L)]
  refine Av (h _ _ S (zp4 L (m0.finB' P.sa L)))
 rw[if_neg (by simpa using L)];by_cases N:0+1=a.size
 ·rw [if_pos (by simpa using N)]
  exact Av (h _ _ S (zoz (m0.finL P.sa P.sb N P.ha)))
 rw [if_neg (by simpa using N)];refine Aq (Hw ?_);refine Aq (Eb (Ck (I:=λx c V=>SG κ a₀ pd xs V/\L5 (LX le a b x) c)
  (Q:=λc V=>SG κ a₀ pd xs V/\Fi (λr=>Fin le a b r.toList) c) ?os ?of ⟨S,.mk _ 0 1 _ ⟨m0,by symm,by symm,by symm⟩⟩) ?op)
 case of =>
  rintro c V ⟨_,out,p,d,mg,b2,b3,b4,b5⟩;exfalso;symm
 case op =>
  rintro c V Z;refine aG λG t=>?_;obtain⟨b1,r,g,b2⟩:=Z;refine t ?_;clear t;clear G;exact Av (h _ _ b1 b2)
 case os =>
  rintro x c V _ hx Z;refine aG λG t=>?_;obtain ⟨S2,out,p,d,mg,Z2⟩:=Z;refine t ?_;clear t;clear G;dsimp only;refine Aq (Eb (Ck (I:=λy c s3=>s3=V/\L6 (LX le a b x) c)
   (Q:=λc s3=>s3=V/\(Fi (λr=>Fin le a b r.toList) c\/L6 (LX le a b x) c)) ?is1 ?if1 ⟨rfl,.mk out p d 0 0 Z2⟩) ?ip1)
  case if1 =>
   rintro c s3 ⟨D,z⟩;exact⟨D,.inr z⟩
  case is1 =>
   rintro y c s3 _ hy Z;refine aG λG t=>?_;obtain⟨D,out,p,d,ac,bc,m3,c3,T,c5⟩:=Z;refine t ?_;clear t;clear G;subst D;dsimp only;refine Aq (zar T (Aq (zar #v[] (Aq (q_lt C S2 (P.mb _ T) (P.ma _ #v[]) ?_)))));have bb:=P.bf p d #v[] T;cases q:lt (G b d) (G a p) with
   | true =>
    dsimp only;refine Aq (zar T ?_);have J:MI le a b (out.push (G b d)).toList p (d+1):=by
     rw[Dm];exact m3.pushB P.sb T λi B K=>O.tr (O.f2 q) (W _ _ B K)
    by_cases e:d+1=b.size
    ·rw [if_pos (by simpa using e)]
     refine Av ⟨rfl,.inl (.mk _ _ (zp4 e ?_))⟩;rw[e] at J;exact J.finB P.sa
    ·rw [if_neg (by simpa using e)]
     split
     ·exact Av ⟨rfl,.inr (.mk _ _ _ _ _ ⟨J,c3,by symm,by symm⟩)⟩
     ·exact Av ⟨rfl,.mk _ _ _ _ _ ⟨J,c3,by symm,by symm⟩⟩
   | false =>
    dsimp only;refine Aq (zar (by symm) ?_);have J:MI le a b (out.push (G a p)).toList (p+1) d:=by
     rw[Dm];exact m3.pushA P.sa #v[] λj B K=>O.tr ((O.f1 bb).mp q) (leB _ _ B K)
    by_cases e:p+1+1=a.size
    ·rw [if_pos (by simpa using e)]
     exact Av ⟨rfl,.inl (.mk _ _ (zoz (J.finL P.sa P.sb e P.ha)))⟩
    ·rw [if_neg (by simpa using e)]
     split
     ·exact Av ⟨rfl,.inr (.mk _ _ _ _ _ ⟨J,by symm,T,by symm⟩)⟩
     ·exact Av ⟨rfl,.mk _ _ _ _ _ ⟨J,by symm,T,by symm⟩⟩
  case ip1 =>
   rintro c s3 ⟨D,z⟩;subst D;refine aG λG t=>?_;rcases z with⟨r,g,f⟩|⟨out,p,d,ac,bc,m3,c3,T,c5⟩
   ·refine t ?_
    clear t;clear G;exact Av ⟨S2,.mk _ _ f⟩
   ·refine t ?_
    clear t;clear G;dsimp only;refine Aq (wpS_lift (Cd ⟨rfl,?_⟩));refine Aq (Eb (Ck (I:=λy c s4=>SG κ a₀ pd xs s4/\L7 (LX le a b (x+y)) c)
     (Q:=λc s4=>SG κ a₀ pd xs s4/\(Fi (λr=>Fin le a b r.toList) c\/L7 (LX le a b (x+1)) c)) ?gs ?gf ⟨S2,.mk out p d _ ac bc ⟨m3,c3,T,by symm⟩⟩) ?gp)
    case gf =>
     rintro c s4 ⟨S4,out,p,d,mg,ac,bc,J,d3,U,d5⟩;exact⟨S4,.inr (.mk _ _ _ _ _ _ ⟨J,d3,U,by symm⟩)⟩
    case gp =>
     rintro c s4 ⟨S4,z⟩;refine aG λG t=>?_;rcases z with⟨r,g,f⟩|⟨out,p,d,mg,ac,bc,Z4⟩
     ·refine t ?_
      clear t;clear G;exact Av ⟨S4,.mk _ _ f⟩
     ·refine t ?_
      clear t;clear G;exact Aq (zpx S4 λs5 M=>Av ⟨M,.mk _ _ _ _ Z4⟩)
    case gs =>
     rintro y c s4 _ hy Z;refine aG λG t=>?_;obtain⟨S4,out,p,d,mg,ac,bc,J,d3,U,d5⟩:=Z;refine t ?_;clear t;clear G;refine zw8 λQ' X=>?_
     revert mg
     refine q_eq (λ_=>rfl) λmg=>?_;refine Aq (zpx S4 λs5 M=>Aq (zar U (Aq (zr2 (left:=Zc) (key:=G b d) (arr:=a) (base:=p) (n:=a.size-p) (hint:=0) C M.i.kind (P.mb _ U) #v[] (λi hi=>P.ma _ #v[]) (λi hi=>rfl) (λi j h1 Y h3=>?mono1) #v[] λk k1 k2 k3=>?_))))
     case mono1 =>
      have h3':lt (G b d) (G a (p+j))=Zc:=by simpa using h3
      have l1:=(O.f1 (P.bf (p+j) d #v[] U)).mp h3';have l2:=(O.f1 (P.bf (p+i) d #v[] U)).mpr (O.tr (W _ _ #v[] #v[]) l1);rw[l2];rfl
     have w1:∀i,p<=i->i<p+k->le (G a i) (G b d):=λi B K=>by
      have:=k2 (i-p) #v[];rw[He B] at this;exact (O.f1 (P.bf i d #v[] U)).mp (by simpa using this)
     have w2:∀i,p+k<=i->i<a.size->le (G b d) (G a i):=λi B K=>by
      have:=k3 (i-p) #v[] #v[];rw[He (Bu (Cm _ _) B)] at this;exact O.f2 (by simpa using this)
     have m5:MI le a b (out++a.extract p (p+k)).toList (p+k) d:=by
      rw[Bs,zcy,Nat.add_sub_cancel_left];exact J.appA P.sa k #v[] λi B K j g3 g4=>O.tr (w1 i B K) (leB _ _ g3 g4)
     generalize eou:out=out'
     revert out'
     generalize ena:p=na'
     revert na'
     refine zz0 (λm u=>MI le a b u.toList m d/\(∀i,m<=i->i<a.size->le (G b d) (G a i))/\m+1<a.size/\x+y<=m+d) (λhk0=>?_) (λhc H=>?_) λm u ⟨n5,u1,b6,p6⟩=>?_
     ·have k0:k=0:=by symm
      subst k0;exact⟨J,w2,d3,d5⟩
     ·refine q_if (λL => ?_) λL => ?_
      ·have L:p+k+1=a.size:=by simpa using L
       exact Av (X _ _ ⟨M,.inl (.mk _ _ (zoz (m5.finL P.sa P.sb L P.ha)))⟩)
      have L:¬ p+k+1=a.size:=by simpa using L
      refine q_if (λN=>?_) λN=>?_
      ·have N:p+k=a.size:=by simpa using N
       exact Av (X _ _ ⟨M,.inl (.mk _ _ (z9r N (m5.finA' P.sb N)))⟩)
      have N:¬ p+k=a.size:=by simpa using N
      exact H _ _ ⟨m5,w2,by symm,by symm⟩
     dsimp (config:={ failIfUnchanged:=Zc }) only;refine Aq (zar U ?_);have m6:MI le a b (u.push (G b d)).toList m (d+1):=by
      rw[Dm];exact n5.pushB P.sb U u1
     refine q_if (λD=>?_) λD=>?_
     ·have D:d+1=b.size:=by simpa using D
      exact Av (X _ _ ⟨M,.inl (.mk _ _ (zp4 D (m6.finB' P.sa D)))⟩)
     have D:¬ d+1=b.size:=by simpa using D
     refine Aq (zar #v[] (Aq (zr2 (left:=Zd) (key:=G a m) (arr:=b) (base:=d+1) (hint:=0) C M.i.kind (P.ma _ #v[]) #v[] (λj hj=>P.mb _ #v[]) (λj hj=>rfl) (λi j h1 Y h3=>?mono2) #v[] λl l1 l2 l3=>?_)))
     case mono2 =>
      have n1:=O.f3 (P.bf m (d+1+j) #v[] #v[]) h3;cases q:lt (G b (d+1+i)) (G a m) with
      |true=>rfl
      |false=>exact absurd (O.tr ((O.f1 (P.bf m (d+1+i) #v[] #v[])).mp q) (leB _ _ #v[] #v[])) n1
     have v1:∀j,d+1<=j->j<d+1+l->le (G b j) (G a m):=λj B K=>by
      have:=l2 (j-(d+1)) #v[];rw[He B] at this;exact O.f2 this
     have v2:∀j,d+1+l<=j->j<b.size->le (G a m) (G b j):=λj B K=>by
      have:=l3 (j-(d+1)) #v[] #v[];rw[He (Bu (Cm _ _) B)] at this;exact (O.f1 (P.bf m j #v[] K)).mp this
     have m7:MI le a b (u.push (G b d)++b.extract (d+1) (d+1+l)).toList m (d+1+l):=by
      rw[Bs,zcy,Nat.add_sub_cancel_left];exact m6.appB P.sb l #v[] λj B K i g3 g4=>O.tr (v1 j B K) (W _ _ g3 g4)
     dsimp (config:={ failIfUnchanged:=Zc }) only;generalize hnb:d+1=ib1 at m7 m6 v2 D ⊢;generalize hout:u.push (G b d)=R at m7 m6 ⊢;generalize eou:R=out'
     revert out'
     generalize ena:ib1=na'
     revert na'
     refine zz0 (λF R=>MI le a b R.toList m F/\(∀j,F<=j->j<b.size->le (G a m) (G b j))/\F<b.size/\x+y+1<=m+F) (λhl0=>?_) (λhc H=>?_) λF out3 ⟨n7,u2,b7,p7⟩=>?_
     ·have k0:l=0:=by symm
      subst k0;exact⟨m6,v2,by symm,by symm⟩
     ·refine q_if (λe4 => ?_) λe4 => ?_
      ·have e4:ib1+l=b.size:=by simpa using e4
       exact Av (X _ _ ⟨M,.inl (.mk _ _ (zp4 e4 (m7.finB' P.sa e4)))⟩)
      have e4:¬ ib1+l=b.size:=by simpa using e4
      exact H _ _ ⟨m7,v2,by symm,by symm⟩
     dsimp (config:={ failIfUnchanged:=Zc }) only;refine Aq (zar (by symm) ?_);have m8:MI le a b (out3.push (G a m)).toList (m+1) F:=by
      rw[Dm];exact n7.pushA P.sa #v[] u2
     refine q_if (λe5=>?_) λe5=>?_
     ·have e5:m+1+1=a.size:=by simpa using e5
      exact Av (X _ _ ⟨M,.inl (.mk _ _ (zoz (m8.finL P.sa P.sb e5 P.ha)))⟩)
     have e5:¬ m+1+1=a.size:=by simpa using e5
     refine q_if (λ_=>?_) λ_=>?_
     ·exact Av (X _ _ ⟨M,.inr (.mk _ _ _ _ _ _ ⟨m8,by symm,b7,by symm⟩)⟩)
     ·exact Av (X _ _ ⟨M,.mk _ _ _ _ _ _ ⟨m8,by symm,b7,by symm⟩⟩)
end
end Tim
namespace Tim
section
variable {prog:Program}{w:World}{A:Around}{E:Ze->Zf->Prop}{s:Zf}{κ:SortKind}{a₀:Array Keyed}{lt:Keyed->Keyed->Bool}{bf le:Keyed->Keyed->Prop}{st:SortSt}{pd:Array (Nat × Nat × Nat)}
variable {a b out:Array Keyed}{o:List Keyed}{na nb at_:Nat}
theorem MH.pushA' (S:Srt le a 0 a.size)(m:MH le a b out.toList.reverse na nb)(d:1<=na)(h:na<=a.size)(c:∀j,j<nb->le (G b j) (G a (na-1))):MH le a b (out.push (G a (na-1))).toList.reverse (na-1) nb:=by
 obtain⟨n,rfl⟩ : ∃n,na=n+1:=⟨na-1,by symm⟩;rw[Dm,List.reverse_append];exact m.pushA S #v[] c
theorem MH.pushB' (S:Srt le b 0 b.size)(m:MH le a b out.toList.reverse na nb)(d:1<=nb)(h:nb<=b.size)(c:∀i,i<na->le (G a i) (G b (nb-1))):MH le a b (out.push (G b (nb-1))).toList.reverse na (nb-1):=by
 obtain⟨n,rfl⟩ : ∃n,nb=n+1:=⟨nb-1,by symm⟩;rw[Dm,List.reverse_append];exact m.pushB S #v[] c
theorem zt8 (x:Array Keyed)(i j:Nat):(out++(x.extract i j).reverse).toList.reverse=(x.toList.drop i).take (j-i)++out.toList.reverse:=by
 rw[Bs,List.reverse_append,Gz,List.reverse_reverse,zcy]
theorem MH.appA' (S:Srt le a 0 a.size)(m:MH le a b out.toList.reverse na nb)(d:at_<=na)(h:na<=a.size)(c:∀i,at_<=i->i<na->∀j,j<nb->le (G b j) (G a i)):MH le a b (out++(a.extract at_ na).reverse).toList.reverse at_ nb:=by
 rw[zt8];obtain⟨k,rfl⟩ : ∃k,na=at_+k:=⟨na-at_,by symm⟩;rw[show at_+k-at_=k by symm];exact MH.appA S k at_ m h c
theorem MH.appB' (S:Srt le b 0 b.size)(m:MH le a b out.toList.reverse na nb)(d:at_<=nb)(h:nb<=b.size)(c:∀j,at_<=j->j<nb->∀i,i<na->le (G a i) (G b j)):MH le a b (out++(b.extract at_ nb).reverse).toList.reverse na at_:=by
 rw[zt8];obtain⟨k,rfl⟩ : ∃k,nb=at_+k:=⟨nb-at_,by symm⟩;rw[show at_+k-at_=k by symm];exact MH.appB S k at_ m h c
theorem zdx (x:Array Keyed)(n:Nat):(x.extract 0 n).toList=x.toList.take n:=by rw[zcy,Es,Nat.sub_zero]
theorem MH.done0 (S:Srt le b 0 b.size)(m:MH le a b out.toList.reverse na nb)(e:na=0):Fin le a b (a.extract 0 na++b.extract 0 nb++out.reverse).toList:=by
 subst e;rw[Bs,Bs,zdx,zdx,Gz];exact m.finA S
theorem MH.done1 (S:Srt le a 0 a.size)(m:MH le a b out.toList.reverse na nb)(e:nb=0):Fin le a b (a.extract 0 na++b.extract 0 nb++out.reverse).toList:=by
 subst e;rw[Bs,Bs,zdx,zdx,Fj,Cf,Gz];exact m.finB S
theorem MH.first (S:Srt le a 0 a.size)(c:Srt le b 0 b.size)(m:MH le a b out.toList.reverse na nb)(e:nb=1)(H:∀i,i<a.size->le (G b 0) (G a i)):Fin le a b (b.extract 0 nb++a.extract 0 na++out.reverse).toList:=by
 subst e;rw[Bs,Bs,zdx,zdx,Gz];exact m.finF S c H
structure HX (le:Keyed->Keyed->Prop) (a b:Array Keyed) (x:Nat) (out:Array Keyed) (na nb:Nat):Prop where
 m:MH le a b out.toList.reverse na nb
 l:1<=na
 r:2<=nb
 s:na<=a.size
 t:nb<=b.size
 u:x+na+nb<=a.size+b.size
inductive H5 (P:Array Keyed->Nat->Nat->Prop):Option (Array Keyed)×Nat×Nat×Array Keyed×Nat->Prop
 |mk (out:Array Keyed) (na nb mg:Nat):P out na nb->H5 P (Zb,na,nb,out,mg)
inductive H6 (P:Array Keyed->Nat->Nat->Prop):Option (Array Keyed)×Nat×Nat×Array Keyed×Nat×Nat->Prop
 |mk (out:Array Keyed) (na nb ac bc:Nat):P out na nb->H6 P (Zb,na,nb,out,ac,bc)
inductive H7 (P:Array Keyed->Nat->Nat->Prop):Option (Array Keyed)×Nat×Nat×Array Keyed×Nat×Nat×Nat->Prop
 |mk (out:Array Keyed) (na nb mg ac bc:Nat):P out na nb->H7 P (Zb,na,nb,out,mg,ac,bc)
theorem ycx (C:Asks prog w A E s κ a₀ lt) (O:Ord lt bf le) {a b xs:Array Keyed}{Q:Array Keyed->SortSt->Prop} (S:SG κ a₀ pd xs st) (P:MP lt bf le a₀ a b)
  (h:∀r st',SG κ a₀ pd xs st'->Fin le a b r.toList->Q r st'):wpS (model prog w) A E s (mHi a b) Q st:=by
 have M:∀i j,i<=j->j<a.size->le (G a i) (G a j):=λi j h1 h2=>by
  by_cases e:i=j
  ·rw[e];exact O.rf _
  ·exact P.sa i j (Bk _) #v[] h2
 have T:∀i j,i<=j->j<b.size->le (G b i) (G b j):=λi j h1 h2=>by
  by_cases e:i=j
  ·rw[e];exact O.rf _
  ·exact P.sb i j (Bk _) #v[] h2
 have pa:=P.a1;have pb:=P.b1;refine Aq (wpS_lift (Cd ⟨rfl,?_⟩));refine Aq (zar (show a.size-1<a.size by symm) ?_);have m0:MH le a b (#[G a (a.size-1)]:Array Keyed).toList.reverse (a.size-1) b.size:=by
  have:=MH.pushA' (out:=#[]) (na:=a.size) (nb:=b.size) (a:=a) (b:=b) P.sa ⟨by simp,.nil,λx hx=>by simp at hx,λx hx=>by simp at hx⟩ pa (Ag _) P.ha;simpa using this
 dsimp only;by_cases F:a.size-1=0
 ·rw [if_pos (by simpa using F)]
  exact Av (h _ _ S (m0.done0 P.sb F))
 rw[if_neg (by simpa using F)];by_cases e2:b.size=1
 ·rw [if_pos (by simpa using e2)]
  exact Av (h _ _ S (m0.first P.sa P.sb e2 P.h0))
 rw [if_neg (by simpa using e2)];refine Aq (Hw ?_);refine Aq (Eb (Ck (I:=λx c L=>SG κ a₀ pd xs L/\H5 (HX le a b x) c)
  (Q:=λc L=>SG κ a₀ pd xs L/\Fi (λr=>Fin le a b r.toList) c) ?os ?of ⟨S,.mk _ (a.size-1) b.size _ ⟨m0,by symm,by symm,by symm,by symm,by symm⟩⟩) ?op)
 case of =>
  rintro c L ⟨_,out,na,nb,J,b2,b3,b4,b5,b6,b7⟩;exfalso;symm
 case op =>
  rintro c L R;refine aG λG m=>?_;obtain⟨b1,r,g,b2⟩:=R;refine m ?_;clear m;clear G;exact Av (h _ _ b1 b2)
 case os =>
  rintro x c L _ hx R;refine aG λG m=>?_;obtain ⟨S2,out,na,nb,J,Z2⟩:=R;refine m ?_;clear m;clear G;dsimp only;refine Aq (Eb (Ck (I:=λy c Z=>Z=L/\H6 (HX le a b x) c)
   (Q:=λc Z=>Z=L/\(Fi (λr=>Fin le a b r.toList) c\/H6 (HX le a b x) c)) ?is1 ?if1 ⟨rfl,.mk out na nb 0 0 Z2⟩) ?ip1)
  case if1 =>
   rintro c Z ⟨p,z⟩;exact⟨p,.inr z⟩
  case is1 =>
   rintro y c Z _ hy R;refine aG λG m=>?_;obtain⟨p,out,na,nb,ac,bc,m3,c3,c4,c5,c6,c7⟩:=R;refine m ?_;clear m;clear G;subst p;dsimp only;refine Aq (zar #v[] (Aq (zar #v[] (Aq (q_lt C S2 (P.mb _ #v[]) (P.ma _ #v[]) ?_)))));have bb:=P.bf (na-1) (nb-1) #v[] #v[];cases q:lt (G b (nb-1)) (G a (na-1)) with
   | true =>
    dsimp only;rw[if_pos rfl];refine Aq (zar #v[] ?_);have t:=m3.pushA' P.sa c3 c5 λj g=>O.tr (T j (nb-1) #v[] #v[]) (O.f2 q);by_cases e:na-1=0
    ·rw [if_pos (by simpa using e)]
     exact Av ⟨rfl,.inl (.mk _ _ (t.done0 P.sb e))⟩
    ·rw [if_neg (by simpa using e)]
     split
     ·exact Av ⟨rfl,.inr (.mk _ _ _ _ _ ⟨t,by symm,by symm,by symm,by symm,by symm⟩)⟩
     ·exact Av ⟨rfl,.mk _ _ _ _ _ ⟨t,by symm,by symm,by symm,by symm,by symm⟩⟩
   | false =>
    dsimp only;rw[if_neg #v[0,9]];refine Aq (zar #v[] ?_);have t:=m3.pushB' P.sb #v[] c6 λi g=>O.tr (M i (na-1) #v[] #v[]) ((O.f1 bb).mp q);by_cases e:nb-1=1
    ·rw [if_pos (by simpa using e)]
     exact Av ⟨rfl,.inl (.mk _ _ (t.first P.sa P.sb e P.h0))⟩
    ·rw [if_neg (by simpa using e)]
     split
     ·exact Av ⟨rfl,.inr (.mk _ _ _ _ _ ⟨t,by symm,by symm,by symm,by symm,by symm⟩)⟩
     ·exact Av ⟨rfl,.mk _ _ _ _ _ ⟨t,by symm,by symm,by symm,by symm,by symm⟩⟩
  case ip1 =>
   rintro c Z ⟨p,z⟩;subst p;refine aG λG m=>?_;rcases z with⟨r,g,f⟩|⟨out,na,nb,ac,bc,m3,c3,c4,c5,c6,c7⟩
   ·refine m ?_
    clear m;clear G;exact Av ⟨S2,.mk _ _ f⟩
   ·refine m ?_
    clear m;clear G;dsimp only;refine Aq (wpS_lift (Cd ⟨rfl,?_⟩));refine Aq (Eb (Ck (I:=λy c Y=>SG κ a₀ pd xs Y/\H7 (HX le a b (x+y)) c)
     (Q:=λc Y=>SG κ a₀ pd xs Y/\(Fi (λr=>Fin le a b r.toList) c\/H7 (HX le a b (x+1)) c)) ?gs ?gf ⟨S2,.mk out na nb _ ac bc ⟨m3,c3,c4,c5,c6,by symm⟩⟩) ?gp)
    case gf =>
     rintro c Y ⟨X,out,na,nb,J,ac,bc,t,d3,d4,d5,d6,d7⟩;exact⟨X,.inr (.mk _ _ _ _ _ _ ⟨t,d3,d4,d5,d6,by symm⟩)⟩
    case gp =>
     rintro c Y ⟨X,z⟩;refine aG λG m=>?_;rcases z with⟨r,g,f⟩|⟨out,na,nb,J,ac,bc,Z4⟩
     ·refine m ?_
      clear m;clear G;exact Av ⟨X,.mk _ _ f⟩
     ·refine m ?_
      clear m;clear G;dsimp only;exact Aq (zpx X λs5 B=>Av ⟨B,.mk _ _ _ _ Z4⟩)
    case gs =>
     rintro y c Y _ hy R;refine aG λG m=>?_;obtain⟨X,out,na,nb,J,ac,bc,t,d3,d4,d5,d6,d7⟩:=R;refine m ?_;clear m;clear G;refine zw8 λQ' N=>?_;generalize J=J
     revert J
     refine q_eq (g:=λJ=>J-1) (λ_=>rfl) λJ=>?_;refine Aq (zpx X λs5 B=>Aq (zar (show nb-1<b.size by symm) (Aq (zr2 (left:=Zc) (key:=G b (nb-1)) (arr:=a) (base:=0) (n:=na) (hint:=na-1) C B.i.kind (P.mb _ #v[]) #v[] (λi hi=>P.ma _ #v[]) (λi hi=>rfl) (λi j h1 h2 h3=>?mono1) #v[] λk k1 k2 k3=>?_))))
     case mono1 =>
      have h3':lt (G b (nb-1)) (G a (0+j))=Zc:=by simpa using h3
      have l1:=(O.f1 (P.bf (0+j) (nb-1) #v[] #v[])).mp h3';have l2:=(O.f1 (P.bf (0+i) (nb-1) #v[] #v[])).mpr (O.tr (M _ _ #v[] #v[]) l1);rw[l2];rfl
     have w1:∀i,i<k->le (G a i) (G b (nb-1)):=λi K=>by
      have:=k2 i K;exact (O.f1 (P.bf i (nb-1) #v[] #v[])).mp (by simpa using this)
     have w2:∀i,k<=i->i<na->le (G b (nb-1)) (G a i):=λi K g2=>by
      have:=k3 i #v[] #v[];rw[Ct] at this;exact O.f2 (by simpa using this)
     have m5:=t.appA' P.sa k1 d5 λi K g2 j g3=>O.tr (T j (nb-1) #v[] #v[]) (w2 i K g2);dsimp only;generalize hac:na-k=ac1 at m5 ⊢;generalize eou:out=out'
     revert out'
     generalize ena:na=na'
     revert na'
     refine zz0 (λd u=>MH le a b u.toList.reverse d nb/\(∀i,i<d->le (G a i) (G b (nb-1)))/\(1<=d/\d<=a.size)/\x+y+d+nb<=a.size+b.size) (λhk0=>?_) (λhc H=>?_) λd u ⟨n5,u1,b8,p6⟩=>?_
     ·have k0:k=na:=by symm
      exact⟨t,k0 ▸ w1,by symm,by symm⟩
     ·refine q_if (λF => ?_) λF => ?_
      ·have F:k=0:=by simpa using F
       exact Av (N _ _ ⟨B,.inl (.mk _ _ (m5.done0 P.sb F))⟩)
      have F:¬ k=0:=by simpa using F
      exact H _ _ ⟨m5,w1,by symm,by symm⟩
     dsimp (config:={ failIfUnchanged:=Zc }) only;refine Aq (zar #v[] ?_);have m6:=n5.pushB' P.sb #v[] d6 u1;refine q_if (λp=>?_) λp=>?_
     ·have p:nb-1=1:=by simpa using p
      exact Av (N _ _ ⟨B,.inl (.mk _ _ (m6.first P.sa P.sb p P.h0))⟩)
     have p:¬ nb-1=1:=by simpa using p
     refine Aq (zar (show d-1<a.size by symm) (Aq (zr2 (left:=Zd) (key:=G a (d-1)) (arr:=b) (base:=0) (n:=nb-1) (hint:=nb-1-1) C B.i.kind (P.ma _ #v[]) #v[] (λj hj=>P.mb _ #v[]) (λj hj=>rfl) (λi j h1 h2 h3=>?mono2) #v[] λl l1 l2 l3=>?_)))
     case mono2 =>
      have n1:=O.f3 (P.bf (d-1) (0+j) #v[] #v[]) h3;cases q:lt (G b (0+i)) (G a (d-1)) with
      |true=>rfl
      |false=>exact absurd (O.tr ((O.f1 (P.bf (d-1) (0+i) #v[] #v[])).mp q) (T _ _ #v[] #v[])) n1
     have v1:∀j,j<l->le (G b j) (G a (d-1)):=λj K=>by
      have:=l2 j K;rw[Ct] at this;exact O.f2 this
     have v2:∀j,l<=j->j<nb-1->le (G a (d-1)) (G b j):=λj K g2=>by
      have:=l3 j #v[] #v[];rw[Ct] at this;exact (O.f1 (P.bf (d-1) j #v[] #v[])).mp this
     have W:=m6.appB' P.sb l1 #v[] λj K g2 i g3=>O.tr (M i (d-1) #v[] #v[]) (v2 j K g2);dsimp only;generalize hbc:nb-1-l=bc1 at W ⊢;generalize hnb:nb-1=nb1 at hbc W m6 ⊢;generalize hout:u.push (G b nb1)=D at W m6 ⊢;generalize eou:D=out'
     revert out'
     generalize ena:nb1=na'
     revert na'
     refine zz0 (λo D=>MH le a b D.toList.reverse d o/\(∀j,j<o->le (G b j) (G a (d-1)))/\(2<=o/\o<=b.size)/\x+y+1+d+o<=a.size+b.size) (λhl0=>?_) (λhc H=>?_) λo out3 ⟨n7,u2,b7,p7⟩=>?_
     ·have k0:l=nb1:=by symm
      exact⟨m6,k0 ▸ v1,by symm,by symm⟩
     ·refine q_if (λe4 => ?_) λe4 => ?_
      ·have e4:l=1:=by simpa using e4
       exact Av (N _ _ ⟨B,.inl (.mk _ _ (W.first P.sa P.sb e4 P.h0))⟩)
      have e4:¬ l=1:=by simpa using e4
      refine q_if (λU=>?_) λU=>?_
      ·have U:l=0:=by simpa using U
       exact Av (N _ _ ⟨B,.inl (.mk _ _ (W.done1 P.sa U))⟩)
      have U:¬ l=0:=by simpa using U
      exact H _ _ ⟨W,v1,by symm,by symm⟩
     dsimp (config:={ failIfUnchanged:=Zc }) only;refine Aq (zar #v[] ?_);have m8:=n7.pushA' P.sa b8.1 b8.2 u2;refine q_if (λV=>?_) λV=>?_
     ·have V:d-1=0:=by simpa using V
      exact Av (N _ _ ⟨B,.inl (.mk _ _ (m8.done0 P.sb V))⟩)
     have V:¬ d-1=0:=by simpa using V
     refine q_if (λ_=>?_) λ_=>?_
     ·exact Av (N _ _ ⟨B,.inr (.mk _ _ _ _ _ _ ⟨m8,by symm,by symm,by symm,by symm,by symm⟩)⟩)
     ·exact Av (N _ _ ⟨B,.mk _ _ _ _ _ _ ⟨m8,by symm,by symm,by symm,by symm,by symm⟩⟩)
end
end Tim
namespace Tim
noncomputable def wr (xs:Array Keyed) (s0:Nat) (l:List Keyed) (m:Nat):Array Keyed:=(l.zipIdx m).foldl (λa (x:Keyed×Nat)=>match x with|(p,j)=>a.setIfInBounds (s0+j) p) xs
theorem zwo (xs:Array Keyed)(s0:Nat)(p:Keyed)(l:List Keyed)(m:Nat):wr xs s0 (p::l) m=wr (xs.setIfInBounds (s0+m) p) s0 l (m+1):=by unfold wr;rw[List.zipIdx_cons,List.foldl_cons]
theorem zw6 (s0:Nat):∀(l:List Keyed) (m:Nat) (xs:Array Keyed),(wr xs s0 l m).size=xs.size
 |[],m,xs=>rfl
 |p::l,m,xs=>by rw[zwo,zw6 s0 l,Array.size_setIfInBounds]
theorem yc4 (h:i<xs.size):G (xs.setIfInBounds i p) k=if i=k then p else G xs k:=by
 unfold G;rw[Array.getElem?_setIfInBounds];split
 ·rename_i e
  first|rfl|(rw[if_pos h];rfl)
 ·rfl
theorem G_wr (s0:Nat):∀(l:List Keyed) (m:Nat) (xs:Array Keyed),s0+m+l.length<=xs.size->∀i,G (wr xs s0 l m) i=if s0+m<=i/\i<s0+m+l.length then (l[i-(s0+m)]?).getD d0 else G xs i
 |[],m,xs,h,i=>by rw[if_neg (by simp)];rfl
 | p::l,m,xs,h,i=>by
  rw[Bf] at h;rw[zwo,G_wr s0 l (m+1) _ (by rw[Array.size_setIfInBounds];symm),yc4 #v[]];rw[Bf];by_cases c:i=s0+m
  ·subst c
   rw[if_neg #v[],if_pos rfl,if_pos ⟨by symm,by symm⟩,Nat.sub_self]
   rfl
  ·by_cases a:s0+m ≤ i /\ i<s0+m+(l.length+1)
   ·rw[if_pos ⟨by symm,by symm⟩,if_pos a,show i-(s0+m)=i-(s0+(m+1))+1 by symm,List.getElem?_cons_succ]
   ·rw[if_neg #v[],if_neg #v[],if_neg a]
theorem zpz (h:i<xs.size):G xs i=xs[i]:=by unfold G;rw[getElem?_pos xs i h];rfl
theorem zow (a:j<=xs.size)(b:i+k<j):G (xs.extract i j) k=G xs (i+k):=by
 have h:k<(xs.extract i j).size:=by rw[Array.size_extract];symm
 rw[zpz h,Array.getElem_extract,zpz #v[]]
theorem zdp {xs:Array Keyed}{i j:Nat}(h:j<=xs.size):(xs.extract i j).size=j-i:=by rw[Array.size_extract];symm
theorem ycm (A:s0<=m)(y:m<=e)(c:e<=xs.size)(p:r.Perm ((xs.extract s0 m).toList++(xs.extract m e).toList)):Re xs (wr xs s0 r 0) s0 e/\r.length=e-s0:=by
 have o:r.length=e-s0:=by
  rw[p.length_eq,Be,Bg,Bg,zdp #v[],zdp c];symm
 have h:=G_wr s0 r 0 xs #v[];refine⟨⟨?_,λi a=>?_,λi D C=>?_⟩,o⟩
 ·have l:(wr xs s0 r 0).toList=xs.toList.take s0++r++xs.toList.drop e:=by
   apply Ds;intro i;have sz:(wr xs s0 r 0).size=xs.size:=zw6 _ _ _ _;by_cases a:i<xs.size
   ·have f:(wr xs s0 r 0).toList[i]? = Za (G (wr xs s0 r 0) i):=G_list #v[];rw[f,h i];by_cases x:i<s0
    ·rw[if_neg #v[],Bd,Do (by simp;symm),List.getElem?_take_of_lt x,G_list a]
    ·by_cases B:i<e
     ·rw[if_pos ⟨by symm,by symm⟩,Bd,Fm (by simp;symm),Do (by simp;symm)];have:(List.take s0 xs.toList).length=s0:=by simp;symm
      rw[this,Nat.add_zero,Ad #v[]]
      rfl
     ·rw[if_neg #v[],Fm (by simp;symm),List.getElem?_drop];have:(List.take s0 xs.toList++r).length=e:=by simp;symm
      rw[this,show e+(i-e)=i by symm,G_list a]
   ·rw[Db (by simp;symm),Db (by simp;symm)]
  have g:xs.toList=xs.toList.take s0++((xs.extract s0 m).toList++(xs.extract m e).toList)++xs.toList.drop e:=by
   rw[zcy,zcy];have t:(xs.toList.drop s0).take (m-s0)++(xs.toList.drop m).take (e-m)=(xs.toList.drop s0).take (e-s0):=by
    rw[show e-s0=(m-s0)+(e-m) by symm,List.take_add,List.drop_drop,show s0+(m-s0)=m by symm]
   rw[t,Bd];have w:(xs.toList.drop s0).take (e-s0)++xs.toList.drop e=xs.toList.drop s0:=by
    have:=Bz (e-s0) (xs.toList.drop s0);rw[List.drop_drop,show s0+(e-s0)=e by symm] at this;exact this
   rw[w,Bz]
  refine Fq.mpr ?_;rw[l];have q:=(p.append_left (xs.toList.take s0)).append_right (xs.toList.drop e);rw[<-g] at q;exact q
 ·rw[h i,if_neg #v[]]
 ·rw[h i,if_pos ⟨by symm,by symm⟩,Ad #v[]];have u:=p.mem_iff.mp (Fv (n:=i-(s0+0)) #v[]);show ∃j,s0<=j/\j<e/\r[i-(s0+0)]=G xs j;rcases Cb.mp u with z|z
  ·obtain⟨k,s,b,d⟩:=mem_drop (by rw[Es];exact z);rw[zdp #v[]] at b;exact⟨s0+k,by symm,by symm,by rw[d,zow #v[] #v[]]⟩
  ·obtain⟨k,s,b,d⟩:=mem_drop (n:=0) (by rw[Es];exact z);rw[zdp c] at b;exact⟨m+k,by symm,by symm,by rw[d,zow c #v[]]⟩
section
variable (bf le:Keyed->Keyed->Prop)
noncomputable def Chain (xs:Array Keyed):Nat->List (Nat×Nat×Nat)->Nat->Prop
 |c,[],h=>c=h
 |c,(s,n,_)::r,h=>s=c/\1<=n/\Srt le xs c (c+n)/\Cut bf xs c/\Chain xs (c+n) r h
end
section
theorem Chain.len:∀{l:List (Nat×Nat×Nat)}{c a:Nat},Chain bf le xs c l a->c+l.length<=a
 |[],c,a,h=>by cases h;simp
 | (s,n,_)::r,c,a,h=>by
  have:=Chain.len h.2.2.2.2;have:=h.2.1;rw[Bf];symm
theorem Chain.app:∀{l a:List (Nat×Nat×Nat)}{c b:Nat},Chain bf le xs c (l++a) b↔∃m,Chain bf le xs c l m/\Chain bf le xs m a b
 |[],a,c,b=>⟨λh=>⟨c,rfl,h⟩,λ⟨m,e,h⟩=>by cases e;exact h⟩
 | (s,n,_)::r,a,c,b=>⟨λ⟨f,k,d,j,o⟩=>by
  obtain⟨m,i,g⟩:=Chain.app.mp o;exact⟨m,⟨f,k,d,j,i⟩,g⟩,λ⟨m,⟨f,k,d,j,i⟩,g⟩=>⟨f,k,d,j,Chain.app.mpr ⟨m,i,g⟩⟩⟩
theorem Chain.re:∀{l:List (Nat×Nat×Nat)}{c d b a:Nat},Chain bf le xs c l d->Re xs ys b a->a<=xs.size->(d<=b\/a<=c)->Chain bf le ys c l d
 |[],c,d,b,a,h,_,_,_=>h
 | (s,n,q)::r,c,d,b,a,⟨i,k,g,j,e⟩,R,f,m=>by
  have:=Chain.len e;exact⟨i,k,g.re R #v[],j.re R f #v[],Chain.re e R f #v[]⟩
end
section
variable {st:SortSt}
theorem ybr (h:Q ⟨⟩ st'):wpS (model prog w) A E s (set st':StateT SortSt Sem PUnit) Q st:=by
 unfold wpS;rw[StateT.run_set];exact Ae ⟨rfl,h⟩
theorem yap {P:SortSt->Prop}{Q:PUnit->SortSt->Prop}(b:P st')(h:∀a,P a->Q ⟨⟩ a):wpS (model prog w) A E s (set st':StateT SortSt Sem PUnit) Q st:=ybr (h _ b)
theorem z94 {l:List (Nat×Nat×Nat)}{i:Nat}(h:i+1<l.length):l=l.take i++l[i]::l[i+1]::l.drop (i+2):=by
 have a:=Cw (l:=l) (i:=i) #v[];have e:=Cw (l:=l) #v[];have:=Bz i l;rw[a,e] at this;exact this.symm
theorem zla (C:Asks prog w A E s κ a₀ lt) (O:Ord lt bf le) {i lo:Nat}{Q:Bool->SortSt->Prop} (I:SI κ a₀ pd st) (u:i+1<pd.size) (ch:Chain bf le (arrOf st) 0 pd.toList lo) (hlo:lo<=a₀.size)
  (h:∀f p,SI κ a₀ p f->p.size+1=pd.size->Chain bf le (arrOf f) 0 p.toList lo->Re (arrOf st) (arrOf f) 0 lo->Q Zd f):wpS (model prog w) A E s (mergeAt' i) Q st:=by
 have sz:=I.size;have M:i+1<pd.toList.length:=by simpa using u
 have es:=z94 M;obtain⟨⟨a,b,V⟩,ea⟩ : ∃t,pd.toList[i]=t:=⟨_,rfl⟩;obtain⟨⟨sb,y,pw'⟩,eb⟩ : ∃t,pd.toList[i+1]=t:=⟨_,rfl⟩;rw[ea,eb] at es;have ch0:=ch;rw[es] at ch;obtain⟨m,c1,⟨e1,a2,a3,a4,⟨e2,b2,X,b4,c2⟩⟩⟩:=Chain.app.mp ch;subst e1;subst e2;have l2:=Chain.len c2;have np:∃p:Array (Nat×Nat×Nat),p=(pd.setIfInBounds i (a,b+y,V)).eraseIdxIfInBounds (i+1)/\p.size+1=pd.size/\p.toList=pd.toList.take i++(a,b+y,V)::pd.toList.drop (i+2):=by
  refine (λ(q:((pd.setIfInBounds i (a,b+y,V)).eraseIdxIfInBounds (i+1)).toList=_)=>⟨_,rfl,by
   have L:=congrArg List.length q;rw[Bg,Be,Bf,Cu,Gu,Bg] at L;symm,q⟩) ?_
  ·rw [Array.toList_eraseIdxIfInBounds,Array.toList_setIfInBounds];have:(pd.toList.set i (a,b+y,V))=pd.toList.take i++(a,b+y,V)::(a+b,y,pw')::pd.toList.drop (i+2):=by
    rw[List.set_eq_take_append_cons_drop,if_pos #v[],Cw M,eb]
   rw[this];have l3:(pd.toList.take i).length=i:=by rw[Cu];symm
   rw[List.eraseIdx_append_of_length_le #v[],l3,show i+1-i=1 by symm]
   rfl
 obtain⟨p,epd,zpd,lpd⟩:=np;have fin:∀f,kindOf f=κ->failedOf f=Zb->pendingOf f=p->Re (arrOf st) (arrOf f) a (a+b+y)->Srt le (arrOf f) a (a+b+y)->Q Zd f:=λf k1 k2 k3 R S=>by
  refine h f p ⟨k1,k2,R.perm.trans I.perm,k3⟩ zpd ?_ (R.mono #v[] #v[]);rw[lpd];refine Chain.app.mpr ⟨a,c1.re R #v[] (.inl (Ag _)),rfl,by symm,?_,a4.re R #v[] (.inl (Ag _)),?_⟩
  ·rw[<-Nat.add_assoc];exact S
  ·rw[<-Nat.add_assoc];exact c2.re R #v[] (.inr (Ag _))
 have K:∀i j,a<=i->i<=j->j<a+b->le (G (arrOf st) i) (G (arrOf st) j):=λi j o x g=>by
  by_cases e:i=j
  ·rw[e];exact O.rf _
  ·exact a3 i j o #v[] g
 have J:∀i j,a+b<=i->i<=j->j<a+b+y->le (G (arrOf st) i) (G (arrOf st) j):=λi j o x g=>by
  by_cases e:i=j
  ·rw[e];exact O.rf _
  ·exact X i j o #v[] g
 have B:∀i j,i<a+b->a+b<=j->j<a+b+y->bf (G (arrOf st) i) (G (arrOf st) j):=λi j o x g=>b4 i j o x #v[];have mem:∀i,i<a₀.size->G (arrOf st) i∈a₀.toList:=λi u=>z6n I.perm #v[];refine Aq (Hw ?_);have Z:(pendingOf st)[i]?=Za (a,b,V):=by
  rw[I.pend,<-Fc,Ad #v[],ea]
 have U:(pendingOf st)[i+1]?=Za (a+b,y,pw'):=by
  rw[I.pend,<-Fc,Ad M,eb]
 dsimp only;rw[Z,U];refine Aq (yap (P:=SG κ a₀ p (arrOf st)) ⟨⟨I.kind,I.failed,I.perm,by have q:=I.pend;subst epd;subst q;rfl⟩,rfl⟩ λst1 D=>?_);refine Aq (zar (show a+b<(arrOf st).size by symm) (Aq (zr2 (left:=Zc) (arr:=arrOf st) (base:=a) (n:=b) (hint:=0) C D.i.kind (mem _ #v[]) #v[] (λi u=>mem _ #v[]) (λi u=>rfl) (λi j o x g=>?mono1) #v[] λk k1 k2 k3=>?_)))
 case mono1 =>
  have h3':lt (G (arrOf st) (a+b)) (G (arrOf st) (a+j))=Zc:=by simpa using g
  have z1:=(O.f1 (B (a+j) (a+b) #v[] #v[] #v[])).mp h3';have z2:=(O.f1 (B (a+i) (a+b) #v[] #v[] #v[])).mpr (O.tr (K _ _ #v[] #v[] #v[]) z1);rw[z2];rfl
 have w1:∀i,a<=i->i<a+k->le (G (arrOf st) i) (G (arrOf st) (a+b)):=λi Z U=>by
  have:=k2 (i-a) #v[];rw[show a+(i-a)=i by symm] at this;exact (O.f1 (B i (a+b) #v[] #v[] #v[])).mp (by simpa using this)
 have w2:∀i,a+k<=i->i<a+b->le (G (arrOf st) (a+b)) (G (arrOf st) i):=λi Z U=>by
  have:=k3 (i-a) #v[] #v[];rw[show a+(i-a)=i by symm] at this;exact O.f2 (by simpa using this)
 refine q_if (λY=>?_) λY=>?_
 ·have Y:b-k=0:=by simpa using Y
  refine Av (fin _ D.i.kind D.i.failed D.i.pend (by rw[D.e];exact .refl _ _ _) ?_);rw[D.e];intro i j o x g;by_cases c1:j<a+b
  ·exact a3 i j o x c1
  ·by_cases c2:i<a+b
   ·exact O.tr (w1 i o #v[]) (J _ _ (Ag _) #v[] g)
   ·exact X i j #v[] x g
 have Y:¬ b-k=0:=by simpa using Y
 have e3:a+k+(b-k)-1=a+b-1:=by symm
 refine Aq (zar (show a+k+(b-k)-1<(arrOf st).size by symm) (Aq (zr2 (left:=Zd) (arr:=arrOf st) (base:=a+b) (n:=y) (hint:=y-1) C D.i.kind (mem _ #v[]) #v[] (λi u=>mem _ #v[]) (λi u=>rfl) (λi j o x g=>?mono2) #v[] λl l1 l2 l3=>?_)))
 case mono2 =>
  have n1:=O.f3 (B (a+k+(b-k)-1) (a+b+j) #v[] #v[] #v[]) g;cases q:lt (G (arrOf st) (a+b+i)) (G (arrOf st) (a+k+(b-k)-1)) with
  |true=>rfl
  |false=>exact absurd (O.tr ((O.f1 (B _ (a+b+i) #v[] #v[] #v[])).mp q) (J _ _ #v[] #v[] #v[])) n1
 rw[e3] at l2 l3;have v1:∀j,a+b<=j->j<a+b+l->le (G (arrOf st) j) (G (arrOf st) (a+b-1)):=λj Z U=>by
  have:=l2 (j-(a+b)) #v[];rw[show a+b+(j-(a+b))=j by symm] at this;exact O.f2 this
 have v2:∀j,a+b+l<=j->j<a+b+y->le (G (arrOf st) (a+b-1)) (G (arrOf st) j):=λj Z U=>by
  have:=l3 (j-(a+b)) #v[] #v[];rw[show a+b+(j-(a+b))=j by symm] at this;exact (O.f1 (B _ j #v[] #v[] U)).mp this
 refine q_if (λL=>?_) λL=>?_
 ·have L:l=0:=by simpa using L
  refine Av (fin _ D.i.kind D.i.failed D.i.pend (by rw[D.e];exact .refl _ _ _) ?_);rw[D.e];intro i j o x g;by_cases c1:j<a+b
  ·exact a3 i j o x c1
  ·by_cases c2:i<a+b
   ·exact O.tr (K i (a+b-1) o #v[] #v[]) (v2 j #v[] g)
   ·exact X i j #v[] x g
 have L:¬ l=0:=by simpa using L
 have W:((arrOf st).extract (a+k) (a+b)).size=b-k:=by rw[zdp #v[]];symm
 have sy:((arrOf st).extract (a+b) (a+b+l)).size=l:=by rw[zdp #v[]];symm
 have T:∀i,i<b-k->G ((arrOf st).extract (a+k) (a+b)) i=G (arrOf st) (a+k+i):=λi u=>zow #v[] #v[];have N:∀i,i<l->G ((arrOf st).extract (a+b) (a+b+l)) i=G (arrOf st) (a+b+i):=λi u=>zow #v[] #v[];have P:MP lt bf le a₀ ((arrOf st).extract (a+k) (a+b)) ((arrOf st).extract (a+b) (a+b+l)):=by
  refine⟨?_,?_,?_,?_,?_,?_,?_,?_,?_⟩
  ·intro i j o x g;rw[W] at g;rw[T i #v[],T j g];exact a3 _ _ #v[] #v[] #v[]
  ·intro i j o x g;rw[sy] at g;rw[N i #v[],N j g];exact X _ _ #v[] #v[] #v[]
  ·intro i u;rw[W] at u;rw[T i u];exact mem _ #v[]
  ·intro i u;rw[sy] at u;rw[N i u];exact mem _ #v[]
  ·intro i j u hj;rw[W] at u;rw[sy] at hj;rw[T i u,N j hj];exact B _ _ #v[] #v[] #v[]
  ·rw[W];symm
  ·rw[sy];symm
  ·intro i u;rw[W] at u;rw[T i u,N 0 #v[]];exact w2 _ #v[] #v[]
  ·intro j hj;rw[sy] at hj;rw[N j hj,W,T _ #v[],show a+k+(b-k-1)=a+b-1 by symm];exact v1 _ #v[] #v[]
 have close:∀(r:Array Keyed) (d:SortSt),SG κ a₀ p (arrOf st) d->Fin le ((arrOf st).extract (a+k) (a+b)) ((arrOf st).extract (a+b) (a+b+l)) r.toList ->
   Q Zd (setArr d (wr (arrOf d) (a+k) r.toList 0)):=λr d H F=>by
  obtain⟨R,hl⟩:=ycm (xs:=arrOf st) (s0:=a+k) (m:=a+b) #v[] #v[] #v[] F.p;have hg:=G_wr (a+k) r.toList 0 (arrOf st) #v[];refine fin _ H.i.kind H.i.failed H.i.pend ?_ ?_
  ·show Re (arrOf st) (wr (arrOf d) (a+k) r.toList 0) a (a+b+y);rw[H.e];exact R.mono #v[] #v[]
  ·show Srt le (wr (arrOf d) (a+k) r.toList 0) a (a+b+y);rw[H.e];have inm:∀i,a+k<=i->i<a+b+l->(∃j,a+k<=j/\j<a+b+l/\G (wr (arrOf st) (a+k) r.toList 0) i=G (arrOf st) j):=λi o x=>R.inn i o x;intro i j o x g;by_cases ci:i<a+k
   ·rw[R.out i (.inl ci)];by_cases cj:j<a+k
    ·rw[R.out j (.inl cj)];exact a3 i j o x #v[]
    ·have below:∀z,a+k<=z->z<a+b+y->le (G (arrOf st) i) (G (arrOf st) z):=λz z1 z2=>by
      by_cases c:z<a+b
      ·exact K i z o #v[] c
      ·exact O.tr (w1 i o ci) (J _ _ (Ag _) #v[] z2)
     by_cases cj2:j<a+b+l
     ·obtain⟨z,z1,z2,z3⟩:=inm j #v[] cj2;rw[z3];exact below z z1 #v[]
     ·rw[R.out j (.inr #v[])];exact below j #v[] g
   ·by_cases ci2:i<a+b+l
    ·by_cases cj2:j<a+b+l
     ·rw[hg i,hg j,if_pos ⟨by symm,by symm⟩,if_pos ⟨by symm,by symm⟩,Ad #v[],Ad #v[]];exact (Ec.mp F.s) _ _ _ _ #v[]
     ·rw[R.out j (.inr #v[])];obtain⟨z,z1,z2,z3⟩:=inm i #v[] ci2;rw[z3];by_cases c:z<a+b
      ·exact O.tr (K z (a+b-1) #v[] #v[] #v[]) (v2 j #v[] g)
      ·exact J z j #v[] #v[] g
    ·rw[R.out i (.inr #v[]),R.out j (.inr #v[])];exact X i j #v[] x g
 have en:∀(r:Array Keyed) (d:SortSt),SG κ a₀ p (arrOf st) d->Fin le ((arrOf st).extract (a+k) (a+b)) ((arrOf st).extract (a+b) (a+b+l)) r.toList ->
   Q ((failedOf (setArr d (wr (arrOf d) (a+k) r.toList 0))).isNone) (setArr d (wr (arrOf d) (a+k) r.toList 0)):=λr d H F=>by
  have e:=H.i.failed;rw[e];exact close r d H F
 refine q_if (λ_=>?_) λ_=>?_
 ·exact Aq (yci C O D P λr d H F=>Aq (wpS_modify (Aq (Hw (Av (en r d H F))))))
 ·exact Aq (ycx C O D P λr d H F=>Aq (wpS_modify (Aq (Hw (Av (en r d H F))))))
end
end Tim
namespace Tim
section
variable {st:SortSt}
structure SP (κ:SortKind) (bf le:Keyed->Keyed->Prop) (a₀:Array Keyed) (lo:Nat) (st:SortSt):Prop where
 kind:kindOf st=κ
 failed:failedOf st=Zb
 perm:(arrOf st).Perm a₀
 ch:Chain bf le (arrOf st) 0 (pendingOf st).toList lo
 cut:∀c,lo<=c->Cut bf (arrOf st) c
theorem SP.si {l:Nat}(h:SP κ bf le a₀ l st):SI κ a₀ (pendingOf st) st:=⟨h.kind,h.failed,h.perm,rfl⟩
theorem zj5:∀{l:List (Nat×Nat×Nat)}{i c d p:Nat}{xs:Array Keyed},Chain bf le xs c l d->Chain bf le xs c (l.modify i λx=>match x with|(a,b,_)=>(a,b,p)) d
 |[],i,c,d,p,xs,h=>by cases i<;>exact h
 |(s,n,q)::r,0,c,d,p,xs,h=>h
 |(s,n,q)::r,i+1,c,d,p,xs,⟨f,k,e,g,j⟩=>⟨f,k,e,g,zj5 j⟩
theorem zvt {P:SortSt->Prop}{Q:PUnit->SortSt->Prop}(b:P (f st))(h:∀a,P a->Q ⟨⟩ a):wpS (model prog w) A E s (modify f:StateT SortSt Sem PUnit) Q st:=wpS_modify (h _ b)
theorem q_sort (C:Asks prog w A E s κ a₀ lt) (O:Ord lt bf le) {Q:Unit->SortSt->Prop} (I:SI κ a₀ #[] st) (ea:arrOf st=a₀) (hb:∀c,Cut bf a₀ c)
  (h:∀D,failedOf D=Zb->(arrOf D).Perm a₀->Srt le (arrOf D) 0 a₀.size->Q () D):wpS (model prog w) A E s sortRuns' Q st:=by
 rw [sortRuns'_eq];refine Aq (Hw ?_);have sz:=I.size;rw [sz];have P0:SP κ bf le a₀ 0 st:=⟨I.kind,I.failed,I.perm,by rw [I.pend];rfl,λc _=>by rw [ea];exact hb c⟩;refine Aq (Eb (Ck (I:=λx c H=>∃a,c=(Zb,a)/\x<=a/\a<=a₀.size/\SP κ bf le a₀ a H)
  (Q:=λc H=>c=(Zb,a₀.size)/\SP κ bf le a₀ a₀.size H) ?os ?of ⟨0,rfl,by symm,by symm,P0⟩) ?op)
 case of =>
  rintro c H ⟨a,rfl,Y,h2,P⟩;have e:a=a₀.size:=by symm
  subst e;exact⟨rfl,P⟩
 case os =>
  rintro x c H _ hx ⟨a,rfl,Y,h2,P⟩;refine q_if (λg=>?_) λg=>?_
  ·have e:a=a₀.size:=by symm
   subst e;exact Av ⟨rfl,P⟩
  refine Aq (z6u C O P.si (show a+(a₀.size-a)<=a₀.size by symm) #v[] P.cut λn f I3 n1 n2 X S3=>?_);have z2:=P.si.size;have c3:∀c,a+n<=c->Cut bf (arrOf f) c:=λc k=>(P.cut c #v[]).re X #v[] (.inr k);refine q_if (λg2=>?_) λg2=>?_;refine Aq (wpS_lift (Cd ⟨rfl,?_⟩));refine Aq (yca C O I3 (show a+min (a₀.size-a) (minRun' a₀.size a₀.size 0)<=a₀.size by symm) #v[] n1 S3 c3 λo p V S=>?_);refine q_if (λz=>by simp at z) λ_=>?_;have U:1<=min (a₀.size-a) (minRun' a₀.size a₀.size 0):=by symm
  have hM:a+min (a₀.size-a) (minRun' a₀.size a₀.size 0)<=a₀.size:=by symm
  have R:=(X.mono (Ag _) #v[]).trans V;generalize min (a₀.size-a) (minRun' a₀.size a₀.size 0)=m at p V S U hM R ⊢
  rotate_left
  have U:=n1;have hM:a+n<=a₀.size:=by symm
  have R:=X;have p:=I3;have S:=S3;generalize n=m at p S U hM R ⊢;generalize f=o at p S R ⊢
  rotate_left
  all_goals
   have c4:∀c,a+m<=c->Cut bf (arrOf o) c:=λc k=>(P.cut c (by symm)).re R (by symm) (.inr k);have k4:=(P.cut a (Ag _)).re R (by symm) (.inl (Ag _));have F:Chain bf le (arrOf o) 0 (pendingOf o).toList a:=by
    rw[p.pend];exact P.ch.re R #v[] (.inl (Ag _))
   have W:kindOf o=κ/\failedOf o=Zb/\(arrOf o).Perm a₀:=⟨p.kind,p.failed,p.perm⟩;refine Aq (Hw ?_);have push:∀d,kindOf d=κ->failedOf d=Zb->(arrOf d).Perm a₀->Chain bf le (arrOf d) 0 (pendingOf d).toList a->Srt le (arrOf d) a (a+m)->Cut bf (arrOf d) a->(∀c,a+m<=c->Cut bf (arrOf d) c) ->
     SP κ bf le a₀ (a+m) (setPending d ((pendingOf d).push (a,m,0))):=λd a1 a2 a3 a4 a5 a6 a7=>by
    refine⟨a1,a2,a3,?_,a7⟩;rw[Dm];exact Chain.app.mpr ⟨a,a4,rfl,U,a5,a6,rfl⟩
   cases q:(pendingOf o).back? with
   | none =>
    exact Aq (zvt (push o W.1 W.2.1 W.2.2 F S k4 c4) λu P6=>Av ⟨a+m,rfl,by symm,hM,P6⟩)
   | some t =>
    refine Aq (Eb (Ck (I:=λy c d=>c=(Zb,())/\(kindOf d=κ/\failedOf d=Zb/\(arrOf d).Perm a₀)/\Chain bf le (arrOf d) 0 (pendingOf d).toList a/\Srt le (arrOf d) a (a+m)/\Cut bf (arrOf d) a/\∀c,a+m<=c->Cut bf (arrOf d) c)
     (Q:=λc d=>c=(Zb,())/\(kindOf d=κ/\failedOf d=Zb/\(arrOf d).Perm a₀)/\Chain bf le (arrOf d) 0 (pendingOf d).toList a/\Srt le (arrOf d) a (a+m)/\Cut bf (arrOf d) a/\∀c,a+m<=c->Cut bf (arrOf d) c) ?ms ?mf ⟨rfl,W,F,S,k4,c4⟩) ?mp)
    case mf =>
     intro c d z;exact z
    case mp =>
     rintro c d ⟨rfl,K,B,L,M,N⟩;refine Aq (zvt (P:=λu=>(kindOf u=κ/\failedOf u=Zb/\(arrOf u).Perm a₀)/\Chain bf le (arrOf u) 0 (pendingOf u).toList a/\Srt le (arrOf u) a (a+m)/\Cut bf (arrOf u) a/\∀c,a+m<=c->Cut bf (arrOf u) c) ⟨K,?_,L,M,N⟩ λu z6=>?_)
     ·show Chain bf le (arrOf d) 0 ((pendingOf d).modify _ _).toList a
      rw[Array.toList_modify];exact zj5 B
     ·refine aG λGg qG => ?_
      obtain⟨Z,G,S6,k6,c6⟩:=z6;refine qG ?_;exact Aq (zvt (P:=SP κ bf le a₀ (a+m)) (push u Z.1 Z.2.1 Z.2.2 G S6 k6 c6) λs7 P7=>Av ⟨a+m,rfl,by symm,hM,P7⟩)
    case ms =>
     rintro y c d _ hy ⟨rfl,K,B,L,M,N⟩;refine Aq (Hw ?_)
     try dsimp only
     by_cases g4:(pendingOf d).size > 1
     ·rw [if_pos g4]
      obtain⟨⟨t1,t2,t3⟩,et⟩ : ∃t,(pendingOf d)[(pendingOf d).size-2]?=Za t:=⟨_,getElem?_pos _ _ #v[]⟩;rw[et];refine q_if (λ_=>Av ⟨rfl,K,B,L,M,N⟩) λ_=>?_;refine Aq (zla C O ⟨K.1,K.2.1,K.2.2,rfl⟩ #v[] B h2 λu pd6 T z6 G R6=>?_);have zz:=K.2.2.size_eq;refine q_if (λz=>by simp at z) λ_=>?_;refine Av ⟨rfl,⟨T.kind,T.failed,T.perm⟩,by rw[T.pend];exact G,L.re R6 (.inr (Ag _)),M.re R6 #v[] (.inr (Ag _)),λc k=>(N c k).re R6 #v[] (.inr #v[])⟩
     ·rw [if_neg g4]
      exact Av ⟨rfl,K,B,L,M,N⟩
 case op =>
  rintro c H ⟨rfl,P⟩;have l0:=Chain.len P.ch;rw [Bg] at l0;have one:∀f,SP κ bf le a₀ a₀.size f->(pendingOf f).size<=1->Srt le (arrOf f) 0 a₀.size:=λf r Y=>by
   have k:=r.ch;have J:(pendingOf f).toList.length<=1:=by simpa using Y
   revert k J
   generalize (pendingOf f).toList=l;intro k J
   match l,k,J with
   | [],k,_ =>
    have:0=a₀.size:=k;intro i j g1 g2 g3;symm
   | [(s0,n,q)],⟨b1,b2,b3,b4,b5⟩,_ =>
    have:=b5;rw[<-this];exact b3
   |_::_::_,_,J=>simp at J
  refine Aq (Eb (Ck (I:=λy c f=>c=(Zb,())/\SP κ bf le a₀ a₀.size f/\((pendingOf f).size<=1\/(pendingOf f).size+y<=a₀.size)) (Q:=λc f=>c=(Zb,())/\SP κ bf le a₀ a₀.size f/\(pendingOf f).size<=1) ?fs ?ff ⟨rfl,P,.inr #v[]⟩) ?fp)
  case ff =>
   rintro c f ⟨k,r,z⟩;exact⟨k,r,by symm⟩
  case fp =>
   rintro c f ⟨rfl,r,z⟩;exact Av (h f r.failed r.perm (one f r z))
  case fs =>
   rintro y c f _ hy ⟨rfl,r,z⟩;refine Aq (Hw ?_);refine q_if (λg=>Av ⟨rfl,r,g⟩) λg=>?_;have zz:=r.perm.size_eq;have go:∀i,i+1<(pendingOf f).size->wpS (model prog w) A E s (mergeAt' i) (λb o=>b=Zd/\SP κ bf le a₀ a₀.size o/\((pendingOf o).size<=1\/(pendingOf o).size+(y+1)<=a₀.size)) f:=λi hi =>
    zla C O r.si hi r.ch (Ag _) λo pd4 p z4 F V=>⟨rfl,⟨p.kind,p.failed,p.perm,by rw[p.pend];exact F,λc k=>(r.cut c k).re V #v[] (.inr k)⟩,by rw[p.pend];symm⟩
   refine Aq (Eb (go _ (by
    generalize (if (pendingOf f).size-2 > 0 then Option.map (λx=>x.snd.fst) (pendingOf f)[(pendingOf f).size-2-1]? else Zb)=bf9
    try dsimp only
    split<;>symm)) λb o z4=>?_)
   obtain⟨rfl,P4,z5⟩:=z4;refine q_if (λz=>by simp at z) λ_=>?_;exact Av ⟨rfl,P4,z5⟩
end
end Tim
end L2
namespace L2
open PySem PySem.Spec PyProof.Rows
open PySem.AutoSeq1 (wpAny_loadPart')
open PySem.SeqAt
noncomputable def lexI:List Int->List Int->Bool
 |[],[]=>Zc
 |[],_::_=>Zd
 |_::_,[]=>Zc
 |a::c,b::bs=>if a=b then lexI c bs else decide (a<b)
theorem zbq:∀xs,lexI xs xs=Zc
 |[]=>rfl
 |a::b=>by unfold lexI;rw[if_pos rfl];exact zbq b
theorem zc9:∀{xs ys z:List Int},lexI xs ys=Zd->lexI ys z=Zd->lexI xs z=Zd
 |[],[],_,h,_=>by cases h
 |[],_::_,[],_,h=>by cases h
 |[],_::_,_::_,_,_=>rfl
 |_::_,[],_,h,_=>by cases h
 |_::_,_::_,[],_,h=>by cases h
 | a::k,b::bs,c::i,e,d=>by
  unfold lexI at e d ⊢;by_cases g:a=b
  ·subst g
   rw[if_pos rfl] at e;by_cases f:a=c
   ·rw[if_pos f] at d ⊢;exact zc9 e d
   ·rw[if_neg f] at d ⊢;exact d
  ·rw [if_neg g] at e
   have l:=Ao e;by_cases f:b=c
   ·subst f;rw[if_neg g];exact e
   ·rw [if_neg f] at d
    have j:=Ao d;rw[if_neg #v[]];exact Aj #v[]
theorem zjw:∀{xs ys:List Int},lexI xs ys=Zc->lexI ys xs=Zc->xs=ys
 |[],[],_,_=>rfl
 |[],_::_,h,_=>by cases h
 |_::_,[],_,h=>by cases h
 | a::f,b::bs,d,c=>by
  unfold lexI at d c;by_cases e:a=b
  ·subst e
   rw[if_pos rfl] at d c;rw[zjw d c]
  ·rw [if_neg e] at d
   rw[if_neg (λz=>e z.symm)] at c;have:=of_decide_eq_false d;have:=of_decide_eq_false c;symm
theorem zr6 (l b:Zh) (items i:Array Ze) (n O:Nat) (P C:Option Zh) (Q E:Array (Option Ze)) (v r:List Int) (H:IntsAre items.toList v) (F:IntsAre i.toList r) :
  Meets (Builtin.«tuple.__lt__» ⟨[.ref l,.ref b],[]⟩)
   (λA R s=>s.heap.get? l=Za { cls:=.type "tuple",dict:=P,data:=.seq items n,slots:=Q }/\s.heap.get? b=Za { cls:=.type "tuple",dict:=C,data:=.seq i O,slots:=E } /\
    R (.ok (.ret (.bool (lexI v r)))) s) :=
 .of_wp λprog w A R s h=>by
  obtain⟨G,g,d,J,I⟩:=s;obtain⟨N,K,h⟩:=h;have S:=AutoSeq1.sub_tuple_tuple;have M:items.size=v.length:=by have:=H.length;simpa using this
  have L:i.size=r.length:=by have:=F.length;simpa using this
  wp_walk using Cp N,Cp K,wpAny_forIn_list _ (λrest b D=>b.1=Zb/\D=⟨G,g,d,J,I⟩/\∃B z e m,rest=List.zip B z/\IntsAre B e/\IntsAre z m/\v.length+m.length=e.length+r.length /\
   R (.ok (.ret (.bool (lexI e m)))) ⟨G,g,d,J,I⟩) _
  case turn =>
   rintro ⟨y,x⟩ rest b D ⟨k,rfl,B,z,e,m,p,o,j,f,hR⟩;cases o with
   |nil=>simp at p
   | cons a t o =>
    cases j with
    |nil=>simp at p
    | cons c u j =>
     rw[Dd] at p;injection p with hyx hrest;cases hyx;unfold lexI at hR;refine Aa (wpAny_eqBool_int ?_);by_cases q:a=c
     ·rw [if_pos q] at hR
      have:(a==c)=Zd:=by simpa using q
      rw[this]
      wp_walk
      exact⟨rfl,rfl,_,_,_,_,hrest,o,j,by simp at f;symm,hR⟩
     ·rw [if_neg q] at hR
      have:(a==c)=Zc:=by simpa using q
      rw[this];simp only [Fo,Gf];refine Aa (Cd ?_);refine Aa (show wpAny _ _ (compareOp .Lt _ _) _ _ _ from PyProof.Rows.lt_int ?_)
      wp_walk
      exact⟨_,rfl,by simpa using hR⟩
  case fin =>
   rintro ⟨U,T⟩ D ⟨k,rfl,B,z,e,m,p,o,j,f,hR⟩;simp only at k;subst k
   wp_walk
   refine ⟨_,rfl,?_⟩;have:lexI e m=decide (items.size<i.size):=by
    rw[M,L];cases o with
    | nil =>
     cases j with
     |nil=>unfold lexI;apply Eq.symm;apply At;simp at f;symm
     |cons c u j=>unfold lexI;apply Eq.symm;apply Aj;simp at f;symm
    | cons a t o =>
     cases j with
     |nil=>unfold lexI;apply Eq.symm;apply At;simp at f;symm
     |cons c u j=>simp at p
   rw[this] at hR;simpa [Builtin.Tuple.tupleCompareSizes] using hR
  case h =>
   exact⟨rfl,rfl,items.toList,i.toList,v,r,rfl,H,F,by symm,by simpa using h⟩
theorem lexI_nt (h:lexI xs zs=Zd):lexI xs ys=Zd\/lexI ys zs=Zd:=by
 cases q:lexI xs ys with
 |true=>exact .inl rfl
 | false =>
  cases q2:lexI ys xs with
  |true=>exact .inr (zc9 q2 h)
  |false=>rw[zjw q q2] at h;exact .inr h
theorem zum (kf:Ze->List Int):Tim.Ord (λx y:Keyed=>lexI (kf x.1) (kf y.1)) (λ_ _=>True) (λx y=>lexI (kf y.1) (kf x.1)=Zc) where
 tr:=λ{x y z} c b=>by
  cases q:lexI (kf z.1) (kf x.1) with
  |false=>rfl
  | true =>
   rcases lexI_nt (ys:=kf y.1) q with a|a
   ·rw[b] at a;cases a
   ·rw[c] at a;cases a
 tot:=λx y=>by
  cases q:lexI (kf y.1) (kf x.1) with
  |false=>exact .inl rfl
  | true =>
   right
   cases q2:lexI (kf x.1) (kf y.1) with
   |false=>rfl
   | true =>
    have:=zc9 q q2;rw[zbq] at this;cases this
 f1:=λ_=>Iff.rfl
 f2:=λ{x y} h=>by
  cases q2:lexI (kf y.1) (kf x.1) with
  |false=>rfl
  | true =>
   have:=zc9 h q2;rw[zbq] at this;cases this
 irr:=λx=>zbq _
 ltr:=λc b=>zc9 c b
 nt:=λy h=>lexI_nt h
section
theorem zuz (h:∀(x y:Keyed) (E:Ze->Zf->Prop) (Q:Bool->Zf->Prop),x∈a₀.toList->y∈a₀.toList->Q (lt x y) s->wpAny (model prog w) A (keyLt' κ x.1 y.1) Q E s):Tim.Asks prog w A E s κ a₀ lt:=λx y e Q b a d c=>by
 rw[lt'_eq];refine Aq (Hw ?_);rw[d];refine Aq (wpS_lift (Et (h x y _ _ b a ⟨rfl,?_⟩)));exact Av c
theorem zp7 {kf:Ze->List Int}(h:∀x∈a₀.toList,∃n t,x.1=.int n t/\kf x.1=[n]):Tim.Asks prog w A E s oneType' a₀ (λx y=>lexI (kf x.1) (kf y.1)):=zuz λx y E Q c a f=>by
 nofun;obtain⟨n,t,g,b⟩:=h x c;obtain⟨m,u,d,i⟩:=h y a;ac_rfl;rw[keyLt'_oneType,g,d];refine oneLt_int ?_;have e:lexI (kf x.1) (kf y.1)=decide (n<m):=by
  rw[b,i];unfold lexI;by_cases q:n=m
  ·rw[if_pos q];subst q;simp [lexI]
  ·rw[if_neg q]
 rw[<-e];exact f
theorem eqv_ints:∀n m:List Int,PyData.eqvAll (n.map .int) (m.map .int)=decide (n=m)
 |[],[]=>by simp [PyData.eqvAll]
 |[],_::_=>by simp [PyData.eqvAll]
 |_::_,[]=>by simp [PyData.eqvAll]
 | a::n,b::m=>by
  rw[Ax,Ax,PyData.eqvAll,eqv_ints n m,PyData.eqv];by_cases h:a=b
  ·simp [h]
  ·simp [h]
theorem zes:∀{i:List Ze}{a:List Int},IntsAre i a->ReadsAll h i (a.map .int) []
 |_,_,.nil=>.nil
 |_,_,.cons n t r=>.cons (.int n t) (zes r)
theorem zk7 (q:IsTup h b its.toArray)(r:IntsAre its ns):Reads h (.ref b) (.tuple (ns.map .int)) []:=by
 obtain⟨o,a,g,n,c⟩:=id q;exact .tuple a g c (by simpa using zes r)
theorem zoe (n:List Int):PyData.canLay0 (.tuple (n.map .int))=Zd:=by
 exact canLayAll_ints n
theorem depth_ints (n:List Int):PyData.depth (.tuple (n.map .int))<=1:=by
 rw[PyData.depth,depthAll_ints]
 decide
theorem zp2 (d:A.units+1<cLine) (c:IsTup s.heap b its.toArray) (q:IntsAre its ns) (a:IsTup s.heap b' its'.toArray) (p:IntsAre its' ns') (h:Q (decide (ns=ns')) s) :
  wpAny (model prog w) A (eqBool (.ref b) (.ref b')) Q E s:=by
 refine PySem.SeqAt.eqBoolOverData prog w A E s _ _ _ _ [] [] Q (zk7 c q) (zk7 a p) (zoe ns) (zoe ns') ?_ ?_
 ·have:=depth_ints ns;symm
 ·have e:PyData.eqv (.tuple (ns.map .int)) (.tuple (ns'.map .int))=decide (ns=ns'):=by rw[PyData.eqv];exact eqv_ints ns ns'
  rw[e];exact h
theorem zqo (v:A.units<cLine) (q:IsTup s.heap b its.toArray) (r:IntsAre its ns) (u:IsTup s.heap b' its'.toArray) (p:IntsAre its' ns') (h:Q (.bool (lexI ns ns')) s) :
  wpAny (model prog w) A (compareOp .Lt (.ref b) (.ref b')) Q E s:=by
 nofun;obtain⟨⟨cls,o,data,t⟩,i,l,n,k⟩:=id q;obtain⟨⟨j,d,c,g⟩,a,f,m,e⟩:=id u;ac_rfl;subst l k f e;exact richCompare_meets_room (op:=.Lt) ⟨_,i,rfl⟩ ⟨_,a,rfl⟩ F.slot_tuple_lt F.entry_tuple_lt (F.args_tuple_lt_2 _ _) (zr6 b b' its.toArray its'.toArray n m o d t g ns ns' (by simpa using r) (by simpa using p))
  ⟨i,a,show Ze.bool (lexI ns ns')≠Ze.notImplemented/\Q (.bool (lexI ns ns')) s from ⟨(λx=>nomatch x),h⟩⟩ v
structure KeyT (h:Heap) (v:Ze) (k:List Int):Prop where
 ex:∃(a b:Zh) (i:Int) (t:Tok) (ns:List Int) (its:List Ze) (c:Ze),v=.ref a/\k=i::ns/\IsTup h a [.int i t,c].toArray/\c=.ref b/\IsTup h b its.toArray/\IntsAre its ns
theorem z0d {kf:Ze->List Int}(W:A.units+2<cLine)(h:∀x∈a₀.toList,KeyT s.heap x.1 (kf x.1)):Tim.Asks prog w A E s (tuples' Zd) a₀ (λx y=>lexI (kf x.1) (kf y.1)):=zuz λx y E Q L F d=>by
 nofun;obtain⟨a,b,i,t,K,J,c,C,u,B,rfl,q,k⟩:=(h x L).ex;obtain⟨U,O,f,N,g,its',P,D,r,m,rfl,l,p⟩:=(h y F).ex;ac_rfl;rw[u,r] at d;rw[C,D];nofun;obtain⟨o,I,S,n,M⟩:=id B;obtain⟨T,H,R,V,G⟩:=id m;ac_rfl;refine PySem.W.kat_lt I M H G ?_;refine PySem.W.kat_cons (wpAny_eqBool_int ?_);unfold lexI at d;by_cases z:i=f
 ·have e:(i==f)=Zd:=by simpa using z
  rw[e];rw[if_pos z] at d;refine PySem.W.kat_yes (PySem.W.kat_cons (zp2 #v[] q k l p ?_));by_cases j:K=g
  ·rw[Aj j];refine PySem.W.kat_yes (PySem.W.kat_nil ?_);subst j;rw[zbq] at d;exact d
  ·rw[At j];refine PySem.W.kat_no ?_;exact PySem.W.kat_one _ _ (zqo #v[] q k l p d)
 ·have e:(i==f)=Zc:=by simpa using z
  rw[e];rw[if_neg z] at d;refine PySem.W.kat_no ?_;exact oneLt_int d
end
end L2
namespace L2
open PySem PySem.Spec PyProof.Rows
section
theorem zzx {st:SortSt} (m:s.heap.get? kS=Za (seqObj "list" keys e)) (l:s.heap.get? a=Za #v[3,14]) (d:kS≠a) (k:keys.size<=sizeLine) (q:(arrOf st).size<=sizeLine) (p:failedOf st=Zb)
  (h:∀h' c,h'.get? a=Za (seqObj "list" ((arrOf st).map (·.2)) c)->(∀b o,b≠a->b≠kS->s.heap.get? b=Za o->h'.get? b=Za o)->P (.done (.ret .none)) { s with heap:=h' }):wpAny (model prog w) A (ksk_tail a Zc e1 (.ref kS) st) P E s:=by
 have f:=Cg s.heap kS #v[8,8];have n:=(f.2 a d.symm).trans l;have g:=Cg (s.heap.update kS #v[8,8]) a (Obj.mapSeq λ_=>(arrOf st).map (·.2))
 try dsimp only
 refine Aa (Gb m rfl ?_ k (Bk _));refine Aa (Gs ?_);refine Aa (seqEpoch_at n rfl ?_);refine Aa (Gb n rfl ?_ (Bk _) (by simp only [Ew,if_false,Array.size_map];symm));rw[p];simp only [bne_self_eq_false,Ew,if_false];refine Ae (h _ _ (Ha n λ_=>(arrOf st).map (·.2)) λb o j i r=>?_);exact (g.2 b j).trans ((f.2 b i).trans r)
theorem z5r {kf:Ze->List Int}{q le:Keyed->Keyed->Prop} (O:Tim.Ord (λx y:Keyed=>lexI (kf x.1) (kf y.1)) q le) (t:∀c,Tim.Cut q (keys.zip vs.toArray) c) (H:s.heap.get? kS=Za (seqObj "list" keys e)) (J:s.heap.get? a=Za #v[3,14]) (m:kS≠a) (F:keys.size=vs.length) (K:vs.length<=sizeLine)
  (G:2<=vs.length->∀Q':SortKind->Zf->Prop,Q' κ s->wpAny (model prog w) A (keyKind' keys) Q' E s)
  (C:Tim.Asks prog w A E s κ (keys.zip vs.toArray) (λx y=>lexI (kf x.1) (kf y.1)))
  (h:∀(r:List Keyed) h' c,r.Perm (keys.toList.zip vs)->r.Pairwise le->h'.get? a=Za (seqObj "list" (r.map (·.2)).toArray c)->(∀b o,b≠a->b≠kS->s.heap.get? b=Za o->h'.get? b=Za o)->P (.done (.ret .none)) { s with heap:=h' }) :
  wpAny (model prog w) A (ksk_end a Zc vs.toArray e1 (.ref kS) keys) P E s:=by
 have l:(keys.zip vs.toArray).size=vs.length:=by rw[Array.size_zip,F,Ai,Gi]
 have fin:∀g:SortSt,(arrOf g).Perm (keys.zip vs.toArray)->failedOf g=Zb->Tim.Srt le (arrOf g) 0 (keys.zip vs.toArray).size->wpAny (model prog w) A (ksk_tail a Zc e1 (.ref kS) g) P E s:=λg k n p=>by
  refine zzx H J m #v[] (by rw[k.size_eq,l];exact K) n λh' c D z=>?_;refine h (arrOf g).toList h' c ?_ (Tim.srt_list (by rw[k.size_eq];exact p)) (by rw[D,<-Gv]) z;rw[<-ksk_zip];exact Fq.mp k
 unfold ksk_end
 try dsimp only
 by_cases f:vs.toArray.size<2
 ·rw[if_pos f,if_pos f];refine Aa (Ae ?_);refine Aa (Ae ?_)
  try dsimp only
  refine fin (SortSt.mk' general' (keys.zip vs.toArray) #[] 7 Zb) (Array.Perm.refl _) rfl λi j _ N M=>?_;rw[Ai] at f;symm
 ·rw [if_neg f,if_neg f];rw [Ai] at f;refine Aa (G (by symm) _ ?_);refine Aa (Cv (Tim.q_sort (Q:=λ_ d=>(arrOf d).Perm (keys.zip vs.toArray)/\failedOf d=Zb/\Tim.Srt le (arrOf d) 0 (keys.zip vs.toArray).size)
   C O ⟨rfl,rfl,Array.Perm.refl _,rfl⟩ rfl t λd u B I=>⟨B,u,I⟩) ?_ λ_ _ e=>e)
  rintro ⟨⟨⟩,d⟩ L ⟨rfl,k,n,p⟩
  try dsimp only
  exact fin d k n p
end
noncomputable abbrev KP:=List Int×W
noncomputable def insK (x:KP):List KP->List KP
 |[]=>[x]
 |y::a=>if lexI x.1 y.1 then x::y::a else y::insK x a
noncomputable def znz:List KP->List KP
 |[]=>[]
 |x::a=>insK x (znz a)
theorem zf6 (x:KP):∀l,(insK x l).Perm (x::l)
 |[]=>.refl _
 | y::a=>by
  unfold insK;split
  ·exact .refl _
  ·exact ((zf6 x a).cons y).trans (.swap x y a)
theorem zdm:∀l:List KP,(znz l).Perm l
 |[]=>.refl _
 |x::a=>(zf6 x _).trans ((zdm a).cons x)
noncomputable abbrev leK (x y:KP):Prop:=lexI y.1 x.1=Zc
theorem z9y (h:leK x y) (b:leK y z):leK x z:=by
 unfold leK at *
 cases q:lexI z.1 x.1 with
 |false=>rfl
 | true =>
  rcases lexI_nt q with a|a
  ·rw[b] at a;cases a
  ·rw[h] at a;cases a
theorem zle (h:lexI x.1 y.1=Zd):leK x y:=by
 unfold leK;cases q:lexI y.1 x.1 with
 |false=>rfl
 | true =>
  have:=zc9 h q;rw[zbq] at this;cases this
theorem zg5:∀{l:List KP},l.Pairwise leK->(insK x l).Pairwise leK
 |[],_=>List.pairwise_singleton _ _
 | y::c,h=>by
  have b:=De.mp h;unfold insK;split
  ·rename_i q
   refine De.mpr ⟨λz a=>?_,h⟩;rcases Ak.mp a with rfl|a
   ·exact zle q
   ·exact z9y (zle q) (b.1 z a)
  ·rename_i q
   refine De.mpr ⟨λz a=>?_,zg5 b.2⟩;rcases Ak.mp ((zf6 x c).mem_iff.mp a) with rfl|a
   ·simpa using q
   ·exact b.1 z a
theorem zb2:∀l:List KP,(znz l).Pairwise leK
 |[]=>.nil
 |x::a=>zg5 (zb2 a)
theorem zds:∀{l a:List KP},l.Perm a->l.Pairwise leK->a.Pairwise leK->(∀x∈l,∀y∈l,x.1=y.1->x=y)->l=a
 |[],a,p,_,_,_=>p.nil_eq
 |x::r,[],p,_,_,_=>by simpa using p.length_eq
 | x::r,y::s,p,q,n,i=>by
  have f:=De.mp q;have j:=De.mp n;have g:=p.mem_iff.mpr Au;have m:=p.mem_iff.mp Au;have c:x=y:=by
   rcases Ak.mp g with e|b
   ·exact e.symm
   ·rcases Ak.mp m with e | d
    ·exact e
    ·exact i x Au y g (zjw (show lexI x.1 y.1=Zc from j.1 x d) (show lexI y.1 x.1=Zc from f.1 y b))
  subst c;have o:=(List.perm_cons x).mp p;rw[zds o f.2 j.2 λu h v k=>i u (Ap _ h) v (Ap _ k)]
inductive All2 {α β:Type} (R:α->β->Prop):List α->List β->Prop where
 |nil:All2 R [] []
 |cons {a b as bs} (h:R a b) (t:All2 R as bs):All2 R (a::as) (b::bs)
theorem All2.perm {α β:Type}{R:α->β->Prop}{bs b:List β} (p:bs.Perm b):∀{as:List α},All2 R as bs->∃a,as.Perm a/\All2 R a b:=by
 induction p with
 |nil=>exact λh=>⟨_,.refl _,h⟩
 | cons x p k =>
  intro as h;cases h with
  | cons h t =>
   obtain⟨a,q,g⟩:=k t;exact⟨_,q.cons _,.cons h g⟩
 | swap x y l =>
  intro as h;cases h with
  | cons f t =>
   cases t with
   |cons d t=>exact⟨_,.swap _ _ _,.cons d (.cons f t)⟩
 | trans m n e i =>
  intro as h;obtain⟨j,q,f⟩:=e h;obtain⟨c,g,d⟩:=i f;exact⟨c,q.trans g,d⟩
theorem All2.pair {α β:Type}{R:α->β->Prop}{P:α->α->Prop}{Q:β->β->Prop} (d:∀a b e c,R a b->R e c->Q b c->P a e):∀{as:List α}{bs:List β},All2 R as bs->bs.Pairwise Q->as.Pairwise P
 |_,_,.nil,_=>.nil
 | _,_,.cons h t,j=>by
  have i:=De.mp j;refine De.mpr ⟨λe g=>?_,All2.pair d t i.2⟩;have:∀{as:List α}{bs:List β},All2 R as bs->e∈as->∃c,c∈bs/\R e c:=by
   intro as bs h
   induction h with
   |nil=>intro z;cases z
   | cons h t k =>
    intro z;rcases Ak.mp z with rfl|z
    ·exact⟨_,Au,h⟩
    ·obtain ⟨c, q,m⟩:=k z
     exact⟨c,Ap _ q,m⟩
  obtain⟨c,f,l⟩:=this t g;exact d _ _ _ _ h l (i.1 c f)
noncomputable def zd8:List W->Option (List Int)
 |[]=>Za []
 |.int i::w=>(zd8 w).bind λa=>Za (i::a)
 |_=>Zb
noncomputable def kI:W->Option (List Int)
 |.int i=>Za [i]
 |_=>Zb
noncomputable def kT:W->Option (List Int)
 |.tup [.int i,.tup x]=>(zd8 x).bind λa=>Za (i::a)
 |_=>Zb
noncomputable def mapO {α β:Type} (f:α->Option β):List α->Option (List β)
 |[]=>Za []
 |a::c=>(f a).bind λb=>(mapO f c).bind λbs=>Za (b::bs)
noncomputable def zex:List (List Int)->Bool
 |[]=>Zd
 |x::a=>a.all (λy=>decide (x≠y))&&zex a
theorem zd3:∀{l:List (List Int)},zex l=Zd->l.Nodup
 |[],_=>Gm
 | x::a,h=>by
  unfold zex at h;rw[Ac] at h;refine Bl.mpr ⟨λz=>?_,zd3 h.2⟩;have:=Az.mp h.1 x z;simp at this
noncomputable def z7d (ks ws:List W):Option (List W):=((mapO kI ks).orElse λ_=>mapO kT ks).bind λk=>if zex k&&decide (k.length=ws.length) then Za ((znz (k.zip ws)).map (·.2)) else Zb
noncomputable def Cx.inn (X:Cx):Cx:={ X with A:=X.A.in1.in1 }
section
variable {X:Cx}{pins:List (Zh × Obj)}{σ:St}{H:Hp}{s:Zf}
theorem Cx.Ok.inn (o:X.Ok):X.inn.Ok:=⟨o.mod,o.kind,o.glob,o.blt,o.above,o.inj,o.has,o.cab,o.hd,o.frames,o.stk,o.exf,o.bs,o.bsz,o.noex,o.exfs,o.funs,o.frf⟩
theorem Cx.Ok.out (o:X.inn.Ok):X.Ok:=⟨o.mod,o.kind,o.glob,o.blt,o.above,o.inj,o.has,o.cab,o.hd,o.frames,o.stk,o.exf,o.bs,o.bsz,o.noex,o.exfs,o.funs,o.frf⟩
theorem Inv.inn (I:Inv X pins σ H s):Inv X.inn pins σ H s:=⟨I.ok.inn,I.os,I.bare,I.base,I.loc,I.cell,I.free,I.freeC,I.pin,I.hok,I.len⟩
theorem Inv.out (I:Inv X.inn pins σ H s):Inv X pins σ H s:=⟨I.ok.out,I.os,I.bare,I.base,I.loc,I.cell,I.free,I.freeC,I.pin,I.hok,I.len⟩
theorem Inv.adopt {ch:List Zh}{T:Zh}{o:HO} (I:Inv X pins σ H s) (k:∀b o,b ∉ ch->s.heap.get? b=Za o->h'.get? b=Za o) (h:∀b∈ch,FpOk X pins H b) (hT:T∈ch)
  (new:zbm X.prog X.w (upd H T o) h' T o):Inv X pins σ (upd H T o) { s with heap:=h',toks:=t' }:=by
 have g:=(h T hT).1;have f:∀b u,H b=Za u->b ∉ ch:=λb u e a=>by rw[(h b a).1] at e;exact noSome e
 refine I.step (g':=s.gens) (d':=s.drawn) (λb a=>⟨(h b a).2.2.2.1,(h b a).2.1,(h b a).2.2.2.2.1,(h b a).2.2.2.2.2⟩) (λb o _ _ d e _=>k b o d e) (λb o _ _ d e _=>⟨o.slots,k b o d e⟩) (λb u d e n=>by rw[upd_ne (λz=>d (by rw[z];exact hT))];exact n)
  (λb u d e=>⟨u,k b u d e⟩) (λb x e=>by rw[upd_ne (zac e g)];exact e) (λb u x e=>by rw[upd_ne (zac e g)];exact e) (λb t e=>⟨#[],by rw[upd_ne (zac e g),e];simp⟩) (λm j=>?_) (λb u e=>?_) I.bare
 ·obtain⟨o,l,p,i,r⟩:=j;exact⟨o,l,p,k _ o (λz=>(h _ z).2.1 rfl) i,r⟩
 ·by_cases a:b=T
  ·subst a;rw[upd_same] at e;obtain rfl:=sI e;exact new
  ·rw[upd_ne a] at e;refine (I.hok b u e).stay (λc v d q=>k c v ?_ q) (λc q=>by rw[upd_ne (zac q g)];exact q) λc x q=>by rw[upd_ne (zac q g)];exact q
   rcases d with z|z
   ·rw[z];exact f b u e
   ·exact f c _ z
structure KCall (X:Cx) (f:Ze) (Φ:W->Option W) (Al:List (Zh×Obj)->Hp->Prop):Prop where
 mono:∀{pins pins':List (Zh×Obj)}{F F':Hp},Al pins F->(∀p∈pins,p∈pins')->Same F F'->Al pins' F'
 run:∀(pins:List (Zh×Obj)) (s:Zf) (σ:St) (H F:Hp) (pr:Prt) (en:En) (w k:W) (v:V) (u:Ze),Al pins F->Inv X pins σ H s->Rel X.K F pr en σ H->Rep X.K F w v->RelV v u->Φ w=Za k ->
  wpAny #v[1,7] X.A (call f [u]) (λu' s'=>∃v' F' H',Inv X pins σ H' s'/\Same F F'/\Rel X.K F' pr en σ H'/\RelV v' u'/\Rep X.K F' k v') (λ_ _=>False) s
structure Apart (X:Cx) (pins:List (Zh×Obj)) (b:Zh):Prop where
 l:b≠X.env.locals
 f:b ∉ X.fs
 x:b∈X.ex\/X.s₀.heap.objs.size<=b
 c:∀x c,X.env.cells.lookup x=Za c->c≠b
 p:∀p∈X.pn++pins,p.1≠b
theorem Apart.fp (a:Apart X pins b)(h:H b=Zb):FpOk X pins H b:=⟨h,a.l,a.f,a.x,a.c,a.p⟩
theorem FpOk.apart (h:FpOk X pins H b):Apart X pins b:=⟨h.2.1,h.2.2.1,h.2.2.2.1,h.2.2.2.2.1,h.2.2.2.2.2⟩
theorem zdr {α β:Type}{f:α->Option β}:∀{as:List α}{bs:List β}{i:Nat}{a:α},mapO f as=Za bs->as[i]?=Za a->∃b,f a=Za b/\bs[i]?=Za b
 |[],_,_,_,_,h=>by simp at h
 | x::l,bs,i,a,e,h=>by
  obtain⟨b,j,e⟩:=bS e;obtain⟨g,d,e⟩:=bS e;obtain rfl:=sI e;cases i with
  |zero=>simp at h;subst h;exact⟨b,j,rfl⟩
  | succ i =>
   obtain⟨c,q,k⟩:=zdr d (by simpa using h);exact⟨c,q,by simpa using k⟩
theorem zf2 {α β:Type}{f:α->Option β}:∀{as:List α}{bs:List β},mapO f as=Za bs->bs.length=as.length
 |[],_,e=>by obtain rfl:=sI e;rfl
 | x::c,bs,e=>by
  obtain⟨b,d,e⟩:=bS e;obtain⟨a,h,e⟩:=bS e;obtain rfl:=sI e;exact congrArg (· + 1) (zf2 h)
theorem z03 (U:KCall X f Φ Al) {a kS:Zh}{e1:Nat}{vs:List Ze}{vvs:List V}{ws ks:List W}{P:PySem.Fin->Zf->Prop}{E:Ze->Zf->Prop}
  (I:Inv X ((kS,seqObj "list" #[] 0)::(a,seqObj "list" #[] e1)::pins) σ H s) (al:Al pins F) (R:Rel X.K F pr en σ H) (Z:Vals vvs vs) (m:Reps X.K F ws vvs) (T:mapO Φ ws=Za ks) (hz:vs.length<=sizeLine)
  (d:Apart X ((a,seqObj "list" #[] e1)::pins) kS)
  (fin:∀s' H' c keys e kvs,Inv X ((kS,seqObj "list" keys e)::(a,seqObj "list" #[] e1)::pins) σ H' s'->Same F c->Rel X.K c pr en σ H'->Vals kvs keys.toList->Reps X.K c ks kvs->wpAny #v[1,7] X.A (ksk_end a Zc vs.toArray e1 (.ref kS) keys) P E s') :
  wpAny #v[1,7] X.A (ksk_rest a f Zc vs.toArray e1 (.ref kS)) P E s:=by
 have lw:ws.length=vs.length:=by rw[m.length,Z.length]
 have lk:ks.length=vs.length:=by rw[zf2 T,lw]
 refine Aa (Cd ?_);rw[List.forIn_toArray];refine Aa (ksk_fold (λi s'=>∃H' c keys e kvs,Inv X ((kS,seqObj "list" keys e)::(a,seqObj "list" #[] e1)::pins) σ H' s'/\Same F c/\Rel X.K c pr en σ H'/\Vals kvs keys.toList/\Reps X.K c (ks.take i) kvs) vs 0 s
  ⟨H,F,#[],0,[],I,.refl F,R,.nil,.nil⟩ ?step ?done)
 case step =>
  rintro j x s' Y ⟨H',c,keys,e,kvs,q,l,N,t,r⟩;simp only [Ct] at r ⊢;have hj:=(Ah.mp Y).1;obtain⟨w,S⟩ : ∃w,ws[j]?=Za w:=⟨_,Ad #v[]⟩;nofun;obtain⟨k,M,C⟩:=zdr T S;obtain⟨v,hv,K⟩:=m.get S;obtain⟨u,hu,ru⟩:=Z.get hv;refine qG ?_;rw[Y] at hu;obtain rfl:=sI hu;have zk:keys.size<=vs.length:=by
   have a1:=t.length.trans Bg;have a2:min j ks.length=kvs.length:=by rw[<-Cu];exact r.length
   symm
  refine Aa (Et (Cv (U.run _ s' σ H' c pr en w k v x (U.mono al (λp h=>Ap _ (Ap _ h)) l) q N (K.mono l) ru M) (λg D he=>?_) λ_ _ hF=>hF.elim));nofun;obtain⟨v',F2,H2,A,n,R2,G,B⟩:=he;obtain⟨y,Q,_,_,_⟩:=A.pin (kS,seqObj "list" keys e) (Ay _ Au);ac_rfl
  try dsimp only
  refine Aa (Gb y rfl ?_ #v[] (Bu (Nat.le_of_eq (Array.size_push ..)) #v[]));have sb:=Cg D.heap kS (Obj.mapSeq (·.push g));obtain⟨J,L⟩ : ∃J,(D.heap.update kS (Obj.mapSeq (·.push g))).get? kS=Za (seqObj "list" (keys.push g) J):=⟨_,Ha y (·.push g)⟩;have I3:=A.pins_of λp h=>A.pin p (Ay _ (Ap _ h));have O:=I3.turned (t':=D.toks) (λb o hb eb=>(sb.2 b hb).trans eb) Q d.l d.x d.c d.p;refine Ae ⟨rfl,H2,F2,keys.push g,J,kvs++[v'],?_,l.trans n,R2,?_,?_⟩
  ·refine O.pins_of λp h => ?_;rcases Ak.mp h with rfl|h
   ·exact⟨L,Q,d.l,d.f,λv z=>by cases z⟩
   ·exact O.pin p (Ay _ h)
  ·rw[Dm];exact Vals.append t (.cons G .nil)
  ·rw[List.take_add_one,C];exact (r.mono n).append (.cons B .nil)
 case done =>
  rintro s' ⟨H',c,keys,e,kvs,q,l,N,t,r⟩;rw[Ev #v[]] at r;obtain⟨y,_⟩:=q.pin (kS,seqObj "list" keys e) (Ay _ Au)
  try dsimp only
  refine Aa (listItems_at y rfl ?_);exact fin s' H' c keys e kvs q l N t r
end
noncomputable def intV:V->Option Int
 |.int j=>Za j
 |_=>Zb
noncomputable def kfV (H:Hp):Ze->List Int
 |.int n _=>[n]
 | .ref a=>match H a with
  | some (.tup [.int i,.ref b])=>(match H b with
   |some (.tup v)=>i::v.filterMap intV
   |_=>[])
  |_=>[]
 |_=>[]
theorem zgw:∀a:List Int,(a.map V.int).filterMap intV=a
 |[]=>rfl
 |i::a=>by rw[Ax];show i::_=_;rw[zgw a]
theorem zh8 {K:Zg}:∀{ws:List W}{a:List Int}{vs:List V},zd8 ws=Za a->Reps K F ws vs->vs=a.map V.int
 |[],_,_,e,r=>by obtain rfl:=sI e;cases r;rfl
 | w::ws,a,vs,e,r=>by
  cases w with
  | int i =>
   obtain⟨b,h,e⟩:=bS (show (zd8 ws).bind _=_ from e);obtain rfl:=sI e;cases r with
   | cons c r =>
    cases c;rw[zh8 h r];rfl
  |_=>exact noSome e
theorem zj0 (h:Vals (a.map V.int) its):IntsAre its a:=by
 induction a generalizing its with
 |nil=>cases h;exact .nil
 | cons i a c =>
  cases h with
  | cons b t =>
   obtain⟨d,rfl⟩:=b;exact .cons i d (c t)
section
variable {X:Cx}{pins:List (Zh × Obj)}{σ:St}{H F:Hp}{s:Zf}
theorem zth {k:W}{a:List Int}{v:V}{u:Ze} (e:kI k=Za a) (r:Rep X.K F k v) (b:RelV v u):(∃n t,u=.int n t/\kfV H u=[n])/\kfV H u=a:=by
 cases k with
 | int i =>
  obtain rfl:=sI e;cases r;obtain⟨t,rfl⟩:=b;exact⟨⟨i,t,rfl,rfl⟩,rfl⟩
 |_=>exact noSome e
theorem ztk (I:Inv X pins σ H s) (g:Same F H) (e:kT k=Za kl) (r:Rep X.K F k v) (C:RelV v u):KeyT s.heap u kl/\kfV H u=kl:=by
 unfold kT at e;split at e
 ·rename_i i K
  obtain⟨A,p,e⟩:=bS e;obtain rfl:=sI e;cases r with
  | @tup L a l h c =>
   cases c with
   | @cons _ J _ D z c =>
    cases z;cases c with
    | @cons _ N _ x n c =>
     cases c;cases n with
     | @tup _ b M j y =>
      have G:=zh8 p y;subst G;cases (show u=Ze.ref a from C);nofun;obtain⟨E,f,m,_⟩:=I.tuple (.inl (.inl (g _ _ h)));obtain⟨d,o,B,_⟩:=I.tuple (.inl (.inl (g _ _ j)));refine qG ?_;cases f with
      | cons w f =>
       cases f with
       | cons q f =>
        cases f;obtain⟨t,rfl⟩:=w;cases (show _=Ze.ref b from q);refine⟨⟨a,b,i,t,A,d,.ref b,rfl,rfl,m,rfl,B,zj0 o⟩,?_⟩;show (match H a with|some (.tup [.int i,.ref b])=>_|_=>_)=_;rw[g _ _ h];show (match H b with|some (.tup l)=>i::l.filterMap intV|_=>[])=_;rw[g _ _ j];show i::_=_;rw[zgw]
 ·exact noSome e
theorem zou {keys:Array Ze}{vs:List Ze}{ks:List W}{kvs:List V}{G:List (List Int)}{A:Around}{E:Ze->Zf->Prop} (I:Inv X pins σ H s) (U:Same F H) (w:A.units+2<cLine) (T:Vals kvs keys.toList) (Q:Reps X.K F ks kvs) (g:((mapO kI ks).orElse λ_=>mapO kT ks)=Za G) (hl:keys.size=vs.length) :
  ∃κ:SortKind,(2<=vs.length->∀Q':SortKind->Zf->Prop,Q' κ s->wpAny #v[1,7] A (keyKind' keys) Q' E s)/\Tim.Asks X.prog X.w A E s κ (keys.zip vs.toArray) (λx y=>lexI (kfV H x.1) (kfV H y.1))/\keys.toList.map (kfV H)=G:=by
 have lk:ks.length=keys.size:=by rw[Q.length,T.length,Bg]
 have mem:∀x∈(keys.zip vs.toArray).toList,∃i,keys.toList[i]?=Za x.1:=λx D=>by
  rw[ksk_zip] at D;have:=(Ed D).1;obtain⟨i,m,e⟩:=Cj.mp this;exact⟨i,by rw[Ad m,e]⟩
 have back:∀(f:W->Option (List Int)),mapO f ks=Za G->(∀(k:W) (l:List Int) (v:V) (u:Ze),f k=Za l->Rep X.K F k v->RelV v u->kfV H u=l)->keys.toList.map (kfV H)=G:=λf L hk=>by
  apply Ds;intro i;rw[Ar];by_cases m:i<keys.size
  ·obtain ⟨k,J⟩ : ∃ k,ks[i]? = Za k:=⟨_,Ad (by symm)⟩
   nofun;obtain⟨l,d,P⟩:=zdr L J;obtain⟨v,S,j⟩:=Q.get J;obtain⟨u,N,r⟩:=T.get S;refine qG ?_;rw[N,P];exact congrArg Za (hk k l v u d j r)
  ·rw[Db (by simpa using m),Db (by rw[zf2 L];symm)];rfl
 have at' : ∀(f:W->Option (List Int)),mapO f ks=Za G->∀(i:Nat) (u:Ze),keys.toList[i]?=Za u->∃k l v,f k=Za l/\Rep X.K F k v/\RelV v u:=λf L i u w=>by
  have m:i<keys.size:=by have:=(Ah.mp w).1;simpa using this
  obtain⟨k,J⟩ : ∃k,ks[i]?=Za k:=⟨_,Ad #v[]⟩;nofun;obtain⟨l,d,P⟩:=zdr L J;obtain⟨v,S,j⟩:=Q.get J;obtain⟨u',N,r⟩:=T.get S;refine qG ?_;rw[w] at N;obtain rfl:=sI N;exact⟨k,l,v,d,j,r⟩
 cases q:mapO kI ks with
 | some O =>
  rw [q] at g;cases (show Za O=Za G from g);have all:∀(i:Nat) (u:Ze),keys.toList[i]?=Za u->∃n t,u=.int n t/\kfV H u=[n]:=λi u w=>by
   nofun;obtain⟨k,l,v,d,j,r⟩:=at' kI q i u w;ac_rfl;exact (zth d j r).1
  refine⟨oneType',λY Q' R=>?_,zp7 λx D=>?_,back kI q λk l v u d j r=>(zth d j r).2⟩
  ·have Z:=intsAre_map keys.toList λv p=>by
    nofun;obtain⟨i,m,e⟩:=Cj.mp p;obtain⟨n,t,h,_⟩:=all i v (by rw[Ad m,e]);refine qG ?_;exact⟨n,t,h⟩
   rw[ksk_kind Z #v[]];exact Ae R
  ·obtain ⟨i,m⟩:=mem x D
   exact all i x.1 m
 | none =>
  rw [q] at g;have all:∀(i:Nat) (u:Ze),keys.toList[i]?=Za u->KeyT s.heap u (kfV H u):=λi u w=>by
   nofun;obtain⟨k,l,v,d,j,r⟩:=at' kT g i u w;obtain⟨B,C⟩:=ztk I U d j r;ac_rfl;rw[C];exact B
  refine⟨tuples' Zd,λY Q' R=>?_,z0d w λx D=>?_,back kT g λk l v u d j r=>(ztk I U d j r).2⟩
  ·have kt:∃fs:List Ze,PySem.W.KatTups s.heap keys.toList fs/\fs.length=keys.size/\∀v∈fs,∃n t,v=.int n t:=by
    have gen:∀l:List Ze,(∀(i:Nat) (u:Ze),l[i]?=Za u->KeyT s.heap u (kfV H u))->∃fs:List Ze,PySem.W.KatTups s.heap l fs/\fs.length=l.length/\∀v∈fs,∃n t,v=.int n t:=by
     intro l
     induction l with
     |nil=>exact λ_=>⟨[],trivial,rfl,λv p=>by simp at p⟩
     | cons u l ih =>
      intro h;nofun;obtain⟨fs,B,C,K⟩:=ih λi v p=>h (i+1) v (by simpa using p);obtain⟨a,b,i,t,ns,its,c,d,P,q1,rfl,q2,q3⟩:=(h 0 u rfl).ex;obtain⟨o,k1,k2,n,k3⟩:=id q1;refine qG ?_;subst d;exact⟨.int i t::fs,PySem.W.KatTups.cons k1 k2 k3 rfl B,by simpa using C,λv p=>(Ak.mp p).elim (λz=>⟨i,t,z⟩) (K v)⟩
    nofun;obtain⟨fs,B,C,K⟩:=gen keys.toList all;ac_rfl;exact⟨fs,B,by simpa using C,K⟩
   refine aG λ_ qG=>?_;obtain ⟨fs,B,C,K⟩:=kt;refine qG ?_;clear qG;have:=PySem.W.kat_kind (M:=model X.prog X.w) (A:=A) (E:=E) B (by symm) (λv p=>by
    obtain⟨n,t,rfl⟩:=K v p;exact .now) rfl R
   exact this
  ·obtain ⟨i,m⟩:=mem x D
   exact all i x.1 m
end
section
theorem znj {α:Type} [DecidableEq α] {β:Type}:∀{b:List α}{ws:List β},b.Nodup->∀x∈b.zip ws,∀y∈b.zip ws,x.1=y.1->x=y
 |[],_,_,x,h,_,_,_=>by simp at h
 |_::_,[],_,x,h,_,_,_=>by simp at h
 | k::b,w::ws,nd,x,h,y,a,e=>by
  have n:=Bl.mp nd;rcases Ak.mp h with rfl|h
  ·rcases Ak.mp a with rfl | a
   ·rfl
   ·have:=(Ed a).1
    exact absurd (by rw[<-e] at this;exact this) n.1
  ·rcases Ak.mp a with rfl | a
   ·have:=(Ed h).1
    exact absurd (by rw[e] at this;exact this) n.1
   ·exact znj n.2 x h y a e
theorem zp5 {K:Zg}:∀{a:List Ze}{ws:List W}{vvs:List V}{vs:List Ze},Vals vvs vs->Reps K F ws vvs->All2 (λ(z:KP) (x:Keyed)=>kf x.1=z.1/\∃v,RelV v x.2/\Rep K F z.2 v) ((a.map kf).zip ws) (a.zip vs)
 |[],_,_,_,_,_=>by simp;exact .nil
 |k::a,_,_,_,.nil,.nil=>by simp;exact .nil
 |k::a,_,_,_,.cons r c,.cons h b=>.cons ⟨rfl,_,r,h⟩ (zp5 c b)
theorem zp9 {K:Zg}{F:Hp}{kf:Ze->List Int}:∀{c:List KP}{r:List Keyed},All2 (λ(z:KP) (x:Keyed)=>kf x.1=z.1/\∃v,RelV v x.2/\Rep K F z.2 v) c r->∃vs,Vals vs (r.map (·.2))/\Reps K F (c.map (·.2)) vs
 |_,_,.nil=>⟨[],.nil,.nil⟩
 | _,_,.cons ⟨_,v,d,h⟩ t=>by
  obtain⟨vs,a,b⟩:=zp9 t;exact⟨v::vs,.cons d a,.cons h b⟩
noncomputable def zo7 (ks ws out:List W):Prop:=∀{X:Cx}{pins:List (Zh×Obj)}{σ:St}{H F:Hp}{s:Zf}{keys:Array Ze}{vs:List Ze}{kvs vvs:List V}{A:Around}{E:Ze->Zf->Prop},Inv X pins σ H s->Same F H->A.units+2<cLine->Vals kvs keys.toList->Reps X.K F ks kvs->Vals vvs vs->Reps X.K F ws vvs->keys.size=vs.length ->
 ∃(κ:SortKind) (kf:Ze->List Int) (bf le:Keyed->Keyed->Prop),(2<=vs.length->∀Q':SortKind->Zf->Prop,Q' κ s->wpAny #v[1,7] A (keyKind' keys) Q' E s)/\Tim.Asks X.prog X.w A E s κ (keys.zip vs.toArray) (λx y=>lexI (kf x.1) (kf y.1))/\Tim.Ord (λx y:Keyed=>lexI (kf x.1) (kf y.1)) bf le/\(∀c,Tim.Cut bf (keys.zip vs.toArray) c) /\
  ∀r:List Keyed,r.Perm (keys.toList.zip vs)->r.Pairwise le->∃ov,Vals ov (r.map (·.2))/\Reps X.K F out ov/\ov.length<=vs.length
theorem z0s {ks ws out:List W}(h:z7d ks ws=Za out):zo7 ks ws out:=by
 intro X pins σ H F s keys Q kvs vvs A E I t P J m i a c;obtain⟨T,d,h⟩:=bS h;split at h
 ·rename_i f;rw[Ac] at f;nofun;obtain⟨κ,B,C,e⟩:=zou (E:=E) I t P J m d c;refine qG ?_;refine⟨κ,kfV H,λ_ _=>True,_,B,C,zum _,λ_ _ _ _ _ _=>trivial,λr l L=>?_⟩;obtain⟨u,p,b⟩:=All2.perm l.symm (zp5 (F:=F) i a);rw[e] at p;have K:=All2.pair (λz x j U w k q=>by show lexI j.1 z.1=Zc;rw[<-w.1,<-k.1];exact q) b L;have G:=zds (p.symm.trans (zdm _).symm) K (zb2 _) λx M y D=>znj (zd3 f.1) x (p.symm.mem_iff.mp M) y (p.symm.mem_iff.mp D);obtain⟨O,N,o⟩:=zp9 b;have g:out=u.map (·.2):=by rw[G];exact (sI h).symm
  rw[<-g] at o;refine⟨O,N,o,?_⟩;have n:=o.length;have R:=i.length;have S:=a.length;have v:=p.length_eq;rw[Hb] at v;rw[g,Af] at n;symm
 ·exact noSome h
theorem zfr (hT:T = "list"\/T = "tuple") (b:s.heap.get? l=Za o) (e:o.cls=.type T) (f:o.data=.seq vs.toArray n)
  (h:Q vs { s with heap:=#v[5,8].update s.heap.objs.size (Obj.mapSeq (·++vs.toArray)) }) (c:vs.length<=sizeLine) :
  wpAny (model prog w) A (collect (.ref l)) Q E s:=by
 refine Aa (wpAny_runValue (Dj entry_proto_collect' ?_));refine Aa (Hv (Ae ⟨Code.quiet_builtin _ #v[0,0,7],Dj entry_list_iadd' ?_⟩));show wpAny _ _ (Builtin.List.listExtendWith (.ref s.heap.objs.size) (.ref l) (.ref s.heap.objs.size)) _ _ { s with heap:=s.heap.push #v[3,12] };have a : #v[5,8].get? l=Za o:=Ab _ b;refine Aa (wpAny_typeOf ⟨o,a,e⟩ ?_);have d:(Ze.type T==Ze.type "list" || Value.type T==Ze.type "tuple")=Zd:=by rcases hT with rfl|rfl<;>rfl
 rw[if_pos (by rw[Bool.or_assoc,d,Bool.or_true])];refine Aa (listItems_at a f ?_);refine Aa (listItems_at (An _ rfl) rfl ?_);refine Aa (Gb (An _ rfl) rfl ?_ (Bk _) (by show (#[]++vs.toArray).size<=sizeLine+1;simp only [Array.size_append,Ai,Ez];symm));refine Ae ?_;refine Aa (wpAny_load (Ha (An _ rfl) _) ?_);show wpAny _ _ (pure ((#[]:Array Ze)++vs.toArray).toList) Q E _;rw[show ((#[]:Array Ze)++vs.toArray).toList=vs by simp];exact Ae h
theorem zqs (KC:KCall X.inn (.ref q) Φ Al) (I:Inv X pins σ H s) (al:Al pins F) (R:Rel X.K F pr en σ H) (hl:SqL X.K H l vvs\/SqT X.K H l vvs) (y:Reps X.K F ws vvs)
  (hk:mapO Φ ws=Za ks) (hs:zo7 ks ws out) (hu:X.A.units+4<cLine) (h:∀G H' v,Same F G->Rel X.K G pr en σ H'->Res X.K G H' pr en σ (.lst out,Zd) v->Q v H') :
  wpAny #v[1,7] X.A (call (.builtin "sorted") [.ref l] [(Str.ofString "key",.ref q)]) (EP X pins σ Q) E s:=by
 nofun;obtain⟨vs,B,T,o,n,hT,P,M,L,U⟩ : ∃vs,Vals vvs vs/\∃T o n,(T = "list"\/T = "tuple")/\s.heap.get? l=Za o/\o.cls=.type T/\o.data=.seq vs.toArray n/\vvs.length<=sizeLine:=by
  rcases hl with Z|Z
  ·obtain⟨vs,B,⟨o,n,P,M,_,L⟩,U⟩:=I.list Z;exact⟨vs,B,_,o,n,.inl rfl,P,M,L,U⟩
  ·obtain⟨vs,B,⟨o,P,M,n,L⟩,U⟩:=I.tuple Z;exact⟨vs,B,_,o,n,.inr rfl,P,M,L,U⟩
 ac_rfl;have lv:vvs.length=vs.length:=B.length;have i:vs.length<=sizeLine:=by symm
 have lw:ws.length=vs.length:=by rw[y.length,lv]
 have lk:ks.length=vs.length:=by rw[zf2 hk,lw]
 refine call_function_entry_kw kind_sorted plain_sorted entry_sorted (ksk_s1 _ _) ?_;unfold Builtin.«sorted»;refine Aa (m:=checkCount "sorted" 1 1 _) (Ae ?_);refine Aa (zfr hT P M L ?_ i);refine Aa (Hv ?_ i);have t:(#v[5,8].update s.heap.objs.size (Obj.mapSeq (·++vs.toArray))).objs.size=s.heap.objs.size+1:=by
  rw[Heap.size_update,size_push']
 have d:((#v[5,8].update s.heap.objs.size (Obj.mapSeq (·++vs.toArray))).push #v[6,9]).get? #v[5,10]=Za #v[6,9]:=by
  rw[<-t];exact An _ rfl
 have keep:∀b o,s.heap.get? b=Za o->((#v[5,8].update s.heap.objs.size (Obj.mapSeq (·++vs.toArray))).push #v[6,9]).get? b=Za o:=λb o q=>by
  have f:b<s.heap.objs.size:=Am q;rw[Ht _ _ _ (by rw[t];exact Ba (Dl f)),Heap.get?_update_ne _ _ _ _ (Ba f),Ht _ _ _ (Ba f)];exact q
 have x:((#v[5,8].update s.heap.objs.size (Obj.mapSeq (·++vs.toArray))).push #v[6,9]).objs.size=s.heap.objs.size+2:=by rw[size_push',t]
 rw[t];generalize (#v[5,8].update s.heap.objs.size (Obj.mapSeq (·++vs.toArray))).push #v[6,9]=h3 at d keep x ⊢;obtain⟨a,ea⟩ : ∃a,a=s.heap.objs.size+1:=⟨_,rfl⟩;rw[<-ea] at d ⊢;refine Aa (Bh (wpAny_call_entry_kw slot_list_sort ⟨_,d,rfl⟩ entry_list_sort ?body (ksk_l1 _ _)))
 case body =>
  rw[ksk_t1];have ha:a<h3.objs.size:=by symm
  have s1:=Cg h3 a #v[8,8];obtain⟨e1,J⟩ : ∃e1,(h3.update a #v[8,8]).get? a=Za #v[3,14]:=⟨_,Ha d λ_=>#[]⟩;unfold ksk_tree;refine Aa (listItems_at d rfl ?_);refine Aa (Gb d rfl ?_ (by rw[Ai];symm) (Bk _));refine Aa (seqEpoch_at J rfl ?_);refine Aa (wpAny_newTuple ?_ i);refine Aa (Hv ?_ (Bk _));refine Bh ?_;have hz4:#v[7,7].objs.size=s.heap.objs.size+3:=by rw[size_push',Heap.size_update,x]
  obtain⟨kS,ek⟩ : ∃kS,kS=#v[7,7].objs.size:=⟨_,rfl⟩;rw[<-ek] at hz4 ⊢;have N:∀b o,s.heap.get? b=Za o->(#v[7,7].push #v[3,12]).get? b=Za o:=λb o V=>by
   refine Ab _ (Ab _ ?_);have f:b<s.heap.objs.size:=Am V;exact (s1.2 b (Ba (by rw[ea];exact Dl f))).trans (keep b o V)
  have ga:(#v[7,7].push #v[3,12]).get? a=Za #v[3,14]:=Ab _ (Ab _ J);have gk:(#v[7,7].push #v[3,12]).get? kS=Za #v[3,12]:=by rw[ek];exact An _ rfl
  generalize #v[7,7].push #v[3,12]=h6 at N ga gk ⊢;have na:H a=Zb:=I.hok.fresh #v[];have nk:H kS=Zb:=I.hok.fresh #v[];have W:Apart X pins a:=(I.fpOk (H':=H) #v[] na).apart;have k:Apart X pins kS:=(I.fpOk (H':=H) #v[] nk).apart;have S:kS≠a:=by symm
  have g:Apart X ((a,seqObj "list" #[] e1)::pins) kS:=⟨k.l,k.f,k.x,k.c,λp u=>by
   rcases Cb.mp u with z|z
   ·exact k.p p (List.mem_append_left _ z)
   ·rcases Ak.mp z with rfl|z
    ·exact S.symm
    ·exact k.p p (Ay _ z)⟩
  have I6:Inv X pins σ H { s with heap:=h6 }:=I.kept (t':=s.toks) N;have I7:Inv X ((kS,seqObj "list" #[] 0)::(a,seqObj "list" #[] e1)::pins) σ H { s with heap:=h6 }:=I6.pins_of λp u=>by
   rcases Ak.mp u with rfl|u
   ·exact⟨gk,nk,k.l,k.f,λv z=>by cases z⟩
   ·rcases Ak.mp u with rfl|u
    ·exact⟨ga,na,W.l,W.f,λv z=>by cases z⟩
    ·exact I6.pin p (Ay _ u)
  refine z03 (X:=X.inn) (pins:=pins) KC I7.inn al R B y hk i ⟨g.l,g.f,g.x,g.c,g.p⟩ λs' H' G keys e kvs I8 s8 R8 rk rp=>?_;have j:=I8.out;nofun;obtain⟨g1,g2,_⟩:=j.pin (kS,seqObj "list" keys e) (Ay _ Au);obtain⟨g3,g4,_⟩:=j.pin (a,seqObj "list" #[] e1) (Ay _ (Ap _ Au));ac_rfl;have D:keys.size=vs.length:=by
   have a1:kvs.length=keys.size:=rk.length.trans Bg;have a2:ks.length=kvs.length:=rp.length;symm
  nofun;obtain⟨κ,kf,bf,le,kd,C,O,w,fn⟩:=hs (A:=X.A.in1.in1) (E:=E) (vs:=vs) j R8.sub (by show X.A.units+1+1+2<cLine;symm) rk rp B (y.mono s8) D;ac_rfl;refine z5r (kf:=kf) O w g1 g3 S D i kd C λr h' c pm pw ga' kp'=>⟨_,rfl,?_⟩;obtain⟨ov,o1,o2,lo⟩:=fn r pm pw;have lo:ov.length<=sizeLine:=by symm
  have I9:Inv X pins σ H' s':=j.pins_of λp u=>j.pin p (Ay _ (Ap _ (Ap _ u)));have Y:Inv X pins σ (upd H' a (.lst ov)) { s' with heap:=h' }:=I9.adopt (t':=s'.toks) (ch:=[a,kS]) (λb o w V=>kp' b o (λz=>w (by simp [z])) (λz=>w (by simp [z])) V) (λb w=>by
   rcases Ak.mp w with rfl|w
   ·exact W.fp g4
   ·rw[Aw.mp w];exact k.fp g2) Au ⟨lo,r.map (·.2),c,o1,ga'⟩
  refine Ae ⟨_,rfl,.ref a,_,Y,rfl,?_⟩;nofun;obtain⟨F9,s9,R9,y9⟩:=(Out.lst (K:=X.K) (F:=G) (H:=H') (p:=a) g4 o2).close R8;ac_rfl;exact h F9 _ _ (s8.trans s9) R9 y9
end
noncomputable def kTI:W->Option (List Int)
 |.tup x=>zd8 x
 |_=>Zb
noncomputable def stN:List Int->Nat->List (List Int)
 |[],_=>[]
 |n::a,i=>[n,(i:Int)]::stN a (i+1)
noncomputable def zfs (ks ws:List W):Option (List W):=(zd8 ks).bind λn=>(mapO kTI ws).bind λt=>if zex t&&decide (n.length=ws.length) then Za ((znz ((stN n 0).zip ws)).map (·.2)) else Zb
theorem z5i:∀(n:List Int) (i:Nat),(stN n i).length=n.length
 |[],_=>rfl
 |_::n,i=>congrArg (· + 1) (z5i n (i+1))
theorem stN_mem:∀(a:List Int) (i:Nat) (x:List Int),x∈stN a i->∃n:Int,∃j:Nat,x=[n,(j:Int)]/\i<=j
 |[],_,_,h=>nomatch h
 | n::a,i,x,h=>by
  rcases Ak.mp h with rfl|h
  ·exact⟨n,i,rfl,Ag _⟩
  ·obtain ⟨m,j,e,l⟩:=stN_mem a (i+1) x h
   exact⟨m,j,e,by symm⟩
theorem z14:∀(a:List Int) (i:Nat),(stN a i).Nodup
 |[],_=>Gm
 | n::a,i=>Bl.mpr ⟨λz=>by
  obtain⟨m,j,e,l⟩:=stN_mem a (i+1) _ z;have b:=(List.cons.inj (List.cons.inj e).2).1;symm,z14 a (i+1)⟩
open Classical in
noncomputable def ixV:List Ze->Ze->Nat
 |[],_=>0
 |v::a,u=>if v=u then 0 else ixV a u+1
theorem zo8:∀{vs:List Ze}{i:Nat}{v:Ze},vs.Nodup->vs[i]?=Za v->ixV vs v=i
 |[],_,_,_,h=>by simp at h
 | u::vs,0,v,_,h=>by
  obtain rfl:=sI h;unfold ixV;rw[if_pos rfl]
 | u::vs,i+1,v,nd,h=>by
  have h:vs[i]?=Za v:=h;rw[Bl] at nd;unfold ixV;rw[if_neg λz=>nd.1 (by rw[z];exact Bm h),zo8 nd.2 h]
noncomputable def stBf (i:Ze->Nat) (x y:Keyed):Prop:=i x.2<i y.2
noncomputable def stLe (kf:Ze->List Int) (i:Ze->Nat) (x y:Keyed):Prop:=lexI (kf y.1) (kf x.1)=Zc/\(lexI (kf x.1) (kf y.1)=Zd\/i x.2<=i y.2)
theorem ztc (h:lexI a b=Zd):lexI b a=Zc:=by
 cases q:lexI b a with
 |false=>rfl
 | true =>
  have:=zc9 h q;rw[zbq] at this;cases this
theorem z7s (kf:Ze->List Int) (i:Ze->Nat):Tim.Ord (λx y:Keyed=>lexI (kf x.1) (kf y.1)) (stBf i) (stLe kf i) where
 tr:=λ{x y z} e d=>by
  obtain⟨f,c⟩:=e;obtain⟨g,b⟩:=d;refine⟨?_,?_⟩
  ·cases q:lexI (kf z.1) (kf x.1) with
   |false=>rfl
   | true =>
    rcases lexI_nt q with a|a
    ·rw[g] at a;cases a
    ·rw[f] at a;cases a
  ·rcases c with c | c
   ·rcases lexI_nt c with a | a
    ·exact .inl a
    ·rw[g] at a;cases a
   ·rcases b with b | b
    ·rcases lexI_nt b with a | a
     ·rw[f] at a;cases a
     ·exact .inl a
    ·exact .inr (Bu c b)
 tot:=λx y=>by
  cases q:lexI (kf x.1) (kf y.1) with
  |true=>exact .inl ⟨ztc q,.inl q⟩
  | false =>
   cases q2:lexI (kf y.1) (kf x.1) with
   |true=>exact .inr ⟨q,.inl q2⟩
   | false =>
    rcases Nat.le_total (i x.2) (i y.2) with l|l
    ·exact .inl ⟨q2,.inr l⟩
    ·exact .inr ⟨q,.inr l⟩
 f1:=λ{x y} h=>⟨λz=>⟨z,.inr (Gk h)⟩,λz=>z.1⟩
 f2:=λ{x y} h=>⟨ztc h,.inl h⟩
 irr:=λx=>zbq _
 ltr:=λe d=>zc9 e d
 nt:=λy h=>lexI_nt h
section
variable {K:Zg}
theorem zt5:∀{xs ys:List W}{c js:List Int}{u:List V},zd8 xs=Za c->zd8 ys=Za js->Reps K F xs u->Reps K F ys u->c=js
 |[],[],_,_,_,b,a,.nil,.nil=>by obtain rfl:=sI b;obtain rfl:=sI a;rfl
 |[],_::_,_,_,_,_,_,h,r=>by cases h;cases r
 |_::_,[],_,_,_,_,_,h,r=>by cases r;cases h
 | x::xs,y::ys,_,_,_,b,a,.cons g e,.cons l d=>by
  cases x with
  | int i =>
   cases y with
   | int j =>
    obtain⟨c,k,b⟩:=bS (show (zd8 xs).bind _=_ from b);obtain⟨js,f,a⟩:=bS (show (zd8 ys).bind _=_ from a);obtain rfl:=sI b;obtain rfl:=sI a;cases g;cases l;rw[zt5 k f e d]
   |_=>cases a
  |_=>cases b
theorem ybx (p:mapO kTI ws=Za tl) (nd:tl.Nodup) (c:Vals vvs vs) (r:Reps K F ws vvs):vs.Nodup:=by
 refine Ec.mpr λi j x P H e=>?_;have R:=c.length;have T:=r.length;obtain ⟨w,f⟩ : ∃k,ws[i]?=Za k:=⟨_,Ad (by symm)⟩;obtain ⟨M,n⟩ : ∃k,ws[j]?=Za k:=⟨_,Ad (by symm)⟩;obtain ⟨y,d,g⟩:=zdr p f;obtain ⟨L,q,l⟩:=zdr p n;obtain ⟨Q,I,G⟩:=r.get f;obtain ⟨U,A,z⟩:=r.get n;obtain ⟨u,o,J⟩:=c.get I;obtain ⟨O,m,E⟩:=c.get A;have e:u=O:=by
  rw[Ad x] at o;rw[Ad P] at m;exact (sI o).symm.trans (e.trans (sI m))
 subst e;cases w with
 | tup B =>
  cases M with
  | tup C =>
   cases G with
   | @tup _ a S N v =>
    cases z with
    | @tup _ b s h D =>
     cases (show u=Ze.ref a from J);cases (show Ze.ref a=Ze.ref b from E);rw[N] at h;cases h;have t:=zt5 (show zd8 B=Za y from d) (show zd8 C=Za L from q) v D;subst t;exact Ec.mp nd i j (Ah.mp g).1 (Ah.mp l).1 H ((Ah.mp g).2.trans (Ah.mp l).2.symm)
  |_=>cases q
 |_=>cases d
noncomputable def StR (K:Zg) (F:Hp) (kf:Ze->List Int) (i:Ze->Nat) (z:KP) (x:Keyed):Prop:=∃n:Int,kf x.1=[n]/\z.1=[n,(i x.2:Int)]/\∃v,RelV v x.2/\Rep K F z.2 v
theorem all2_st:∀{b:List Ze}{a:List Int}{ws:List W}{vvs:List V}{vs:List Ze}{i:Nat},b.map kf=a.map (λn=>[n])->Vals vvs vs->Reps K F ws vvs->(∀j v,vs[j]?=Za v->ix v=i+j)->All2 (StR K F kf ix) ((stN a i).zip ws) (b.zip vs)
 |[],[],_,_,_,_,_,_,_,_=>.nil
 |[],_::_,_,_,_,_,h,_,_,_=>by cases h
 |_::_,[],_,_,_,_,h,_,_,_=>by cases h
 | k::b,n::a,_,_,_,i,h,.nil,.nil,_=>by
  exact .nil
 | k::b,n::a,_,_,_,i,h,.cons r m,.cons g c,d=>by
  obtain⟨l,f⟩:=List.cons.inj h;exact .cons ⟨n,l,by rw[d 0 _ rfl];rfl,_,r,g⟩ (all2_st f m c λj v e=>by rw[d (j+1) v e];symm)
theorem zwm:∀{z:List KP}{r:List Keyed},All2 (StR K F kf ix) z r->∃vs,Vals vs (r.map (·.2))/\Reps K F (z.map (·.2)) vs
 |_,_,.nil=>⟨[],.nil,.nil⟩
 | _,_,.cons ⟨_,_,_,v,h,c⟩ t=>by
  obtain⟨vs,a,b⟩:=zwm t;exact⟨v::vs,.cons h a,.cons c b⟩
end
theorem zv0:∀{ks:List W}{a:List Int},zd8 ks=Za a->mapO kI ks=Za (a.map λn=>[n])
 |[],_,h=>by obtain rfl:=sI h;rfl
 | k::ks,_,h=>by
  cases k with
  | int i =>
   obtain⟨a,e,h⟩:=bS (show (zd8 ks).bind _=_ from h);obtain rfl:=sI h;show (mapO kI ks).bind _=_;rw[zv0 e];rfl
  |_=>cases h
theorem ztv (h:zfs ks ws=Za out):zo7 ks ws out:=by
 intro X pins σ H F s keys a kvs vvs A E I Y hu rk U o b f;obtain⟨ns,O,h⟩:=bS h;obtain⟨tl,ht,h⟩:=bS h;split at h
 ·rename_i J;rw[Ac] at J;nofun;obtain⟨κ,kd,C,t⟩:=zou I Y hu rk U (by rw[zv0 O];rfl) f;refine qG ?_;have nd:=ybx ht (zd3 J.1) o b;have ix:∀j v,a[j]?=Za v->ixV a v=0+j:=λj v e=>by rw[zo8 nd e,Ct]
  refine⟨κ,kfV H,stBf (ixV a),stLe (kfV H) (ixV a),kd,C,z7s _ _,λc i j D B h3=>?_,λr R pw=>?_⟩
  ·have sz:(keys.zip a.toArray).size=a.length:=by rw[Array.size_zip,f,Ai,Gi]
   have g:∀i,i<a.length->∃v,a[i]?=Za v/\(Tim.G (keys.zip a.toArray) i).2=v:=λi hi=>by
    have e:=Tim.G_some (xs:=keys.zip a.toArray) (i:=i) #v[];rw[<-Fc,ksk_zip,Hm] at e;exact⟨_,e.2,rfl⟩
   obtain⟨u,V,S⟩:=g i #v[];obtain⟨v,N,P⟩:=g j #v[];show ixV a _<ixV a _;rw[S,P,zo8 nd V,zo8 nd N];symm
  ·obtain ⟨Z,p,l⟩:=All2.perm R.symm (all2_st t o b ix);have ps:=All2.pair (λz x L x' D B q=>by
    obtain⟨n,M,Q,_⟩:=D;obtain⟨m,b1,T,_⟩:=B;obtain⟨k,d⟩:=q;show lexI L.1 z.1=Zc;rw[M,b1] at k d;rw[Q,T];unfold lexI at k d ⊢;by_cases c:m=n
    ·subst c;rw[if_pos rfl] at k d ⊢;rcases d with d|d
     ·cases d
     ·unfold lexI;by_cases G:(ixV a x'.2:Int)=(ixV a x.2:Int)
      ·rw[if_pos G];unfold lexI;rfl
      ·rw[if_neg G];exact At #v[]
    ·rw[if_neg c] at k ⊢;exact k) l pw
   have ez:=zds (p.symm.trans (zdm _).symm) ps (zb2 _) λx hx y hy=>znj (z14 ns 0) x (p.symm.mem_iff.mp hx) y (p.symm.mem_iff.mp hy);obtain⟨ov,o1,w⟩:=zwm l;have K:out=Z.map (·.2):=by rw[ez];exact (sI h).symm
   rw[<-K] at w;refine⟨ov,o1,w,?_⟩;have W:=w.length;have l1:=o.length;have l2:=b.length;have l3:=p.length_eq;rw[Hb] at l3;rw[K,Af] at W;symm
 ·exact noSome h
end L2
namespace L2
open PySem PySem.Spec PyProof.Rows
section
noncomputable def kN:Ze->List Int
 |.int n _=>[n]
 |_=>[]
theorem zxg (q:s.heap.get? a=Za (seqObj "list" vs.toArray n)) (ia:IntsAre vs ns) (I:vs.length<=sizeLine)
  (h:∀(r:List Keyed) h' c,r.Perm (vs.zip vs)->r.Pairwise (λx y=>lexI (kN y.1) (kN x.1)=Zc)->h'.get? a=Za (seqObj "list" (r.map (·.2)).toArray c)->(∀b o,b≠a->s.heap.get? b=Za o->h'.get? b=Za o)->P (.done (.ret .none)) { s with heap:=h' }) :
  wpAny (model prog w) A (Builtin.«list.sort» ⟨[.ref a],[]⟩) P E s:=by
 have T:=Cg s.heap a #v[8,8];rw[list_sort_plain];refine Aa (listItems_at q rfl ?_);refine Aa (Gb q rfl ?_ (by rw[Ai];exact I) (Bk _));obtain⟨e1,D⟩ : ∃e1,(s.heap.update a #v[8,8]).get? a=Za #v[3,14]:=⟨_,Ha q λ_=>#[]⟩;refine Aa (seqEpoch_at D rfl ?_);refine Aa (wpAny_newTuple ?_ I);refine Aa (Hv ?_ (Bk _));refine Bh ?_;have l:(#v[0,12].push #v[3,12]).get? a=Za #v[3,14]:=Ab _ (Ab _ D);have C:∀b o,b≠a->s.heap.get? b=Za o->(#v[0,12].push #v[3,12]).get? b=Za o:=λb o p z=>Ab _ (Ab _ ((T.2 b p).trans z));generalize #v[0,12].push #v[3,12]=G at l C ⊢;have R:(vs.toArray.zip vs.toArray).size=vs.length:=by rw[Array.size_zip,Ai,Gi]
 have fin:∀f:SortSt,(arrOf f).Perm (vs.toArray.zip vs.toArray)->Tim.Srt (λx y=>lexI (kN y.1) (kN x.1)=Zc) (arrOf f) 0 (vs.toArray.zip vs.toArray).size->P (.done (.ret .none)) { s with heap:=G.update a (Obj.mapSeq λ_=>(arrOf f).map (·.2)) }:=λf g u=>by
  have N:=Cg G a (Obj.mapSeq λ_=>(arrOf f).map (·.2));refine h (arrOf f).toList _ _ ?_ (Tim.srt_list (by rw[g.size_eq];exact u)) (by rw[<-Gv];exact Ha l λ_=>(arrOf f).map (·.2)) λb o p z=>(N.2 b p).trans (C b o p z);have:=Fq.mp g;rw[ksk_zip] at this;exact this
 have B:∀f:SortSt,(arrOf f).Perm (vs.toArray.zip vs.toArray)->((arrOf f).map (·.2)).size<=sizeLine+1:=λf g=>by rw[Array.size_map,g.size_eq,R];symm
 dsimp only;by_cases k:vs.toArray.size<2
 ·rw[if_pos k,if_pos k];refine Aa (Ae ?_);refine Aa (Ae ?_);dsimp only;have g:(arrOf (SortSt.mk' general' (vs.toArray.zip vs.toArray) #[] 7 Zb)).Perm (vs.toArray.zip vs.toArray):=Array.Perm.refl _;refine Aa (seqEpoch_at l rfl ?_);refine Aa (Gb l rfl ?_ (Bk _) (B _ g));simp only [bne_self_eq_false,Ew,if_false];refine Ae (fin (SortSt.mk' general' (vs.toArray.zip vs.toArray) #[] 7 Zb) g λi j _ Z X=>?_);rw[Ai] at k;symm
 ·rw [if_neg k,if_neg k];rw [Ai] at k;have L:∀v∈vs,∃m t,v=.int m t/\kN v=[m]:=λv J=>by
   obtain⟨i,O,e⟩:=Cj.mp J;have Y:=ia.length;obtain⟨t,F⟩:=ia.get i ns[i] (Ad #v[]);rw[Ad O,e] at F;obtain rfl:=sI F;exact⟨_,t,rfl,rfl⟩
  have V:∀s,Tim.Asks prog w A E s oneType' (vs.toArray.zip vs.toArray) (λx y=>lexI (kN x.1) (kN y.1)):=λs=>zp7 λx H=>by
   rw[ksk_zip] at H;exact L x.1 (Ed (a:=x.1) (b:=x.2) H).1
  rw[ksk_kind (keys:=vs.toArray) (by rw[List.toList_toArray];exact ia) (by rw[Ai];symm)];refine Aa (Ae ?_);refine Aa (Cv (Tim.q_sort (Q:=λ_ d=>(arrOf d).Perm (vs.toArray.zip vs.toArray)/\failedOf d=Zb/\Tim.Srt (λx y=>lexI (kN y.1) (kN x.1)=Zc) (arrOf d) 0 (vs.toArray.zip vs.toArray).size)
   (V _) (zum kN) ⟨rfl,rfl,Array.Perm.refl _,rfl⟩ rfl (λ_ _ _ _ _ _=>trivial) λd K M U=>⟨M,K,U⟩) ?_ λ_ _ e=>e)
  rintro ⟨⟨⟩,d⟩ W ⟨rfl,g,S,u⟩;dsimp only;refine Aa (seqEpoch_at l rfl ?_);refine Aa (Gb l rfl ?_ (Bk _) (B _ g));rw[S];simp only [bne_self_eq_false,Ew,if_false];exact Ae (fin d g u)
end
noncomputable def zto (a:List Int):List Int:=(znz (a.map λn=>([n],W.int n))).map λz=>z.1.headD 0
noncomputable def pz (n:Int):KP:=([n],W.int n)
theorem zqm (a b:Int):lexI [a] [b]=decide (a<b):=by
 unfold lexI;by_cases c:a<b
 ·have : ¬ a=b:=by symm
  simp [this]
 ·simp [c,lexI]
theorem zqd (p:ms.Perm ns)(s:ms.Pairwise (·<=·)):zto ns=ms:=by
 have e:=zds ((p.map pz).trans (zdm _).symm) (by
  rw[List.pairwise_map];exact s.imp λ{a b} h=>by show lexI [b] [a]=Zc;rw[zqm];exact At #v[]) (zb2 _) λx d y c h=>by
   obtain⟨a,_,rfl⟩:=Dw.mp d;obtain⟨b,_,rfl⟩:=Dw.mp c;have:a=b:=by injection h
   rw[this]
 show (znz (ns.map pz)).map _=ms;rw[<-e,Ce];exact (Dv λa _=>rfl).trans (List.map_id ms)
section
variable {X:Cx}
theorem zli:∀{l:List Keyed},(∀x∈l,x.2=x.1/\∃n t,x.1=.int n t)->Vals ((l.map λx=>(kN x.1).headD 0).map V.int) (l.map (·.2))
 |[],_=>.nil
 | x::l,h=>by
  obtain⟨e,n,t,q⟩:=h x (.head _);refine .cons ?_ (zli λy a=>h y (.tail _ a));show RelV (V.int ((kN x.1).headD 0)) x.2;rw[e,q];exact⟨t,rfl⟩
theorem z1r {vs:List Ze}{x:Keyed} (h:x∈vs.zip vs):x.2=x.1/\x.1∈vs:=by
 induction vs with
 |nil=>exact absurd h Bb
 | cons v vs i =>
  rcases Ak.mp h with rfl|h
  ·exact⟨rfl,.head _⟩
  ·exact⟨(i h).1,.tail _ (i h).2⟩
theorem zrz:zek X (.builtin "sorted") (λxs H Q=>∃(l:Zh) (d:List Int),xs=[.ref l]/\(SqL X.K H l (d.map V.int)\/SqT X.K H l (d.map V.int))/\∀p,H p=Zb->Q (.ref p) (upd H p (.lst ((zto d).map V.int)))):=by
 intro pins s σ H xs us Q I r h;obtain⟨l,d,rfl,D,q⟩:=h;obtain⟨u,rfl,U⟩:=vals1 r;cases U;obtain⟨vs,w,T,o,n,hT,A,C,B,F⟩ : ∃vs,Vals (d.map V.int) vs/\∃T o n,(T = "list"\/T = "tuple")/\s.heap.get? l=Za o/\o.cls=.type T/\o.data=.seq vs.toArray n/\(d.map V.int).length<=sizeLine:=by
  rcases D with D|D
  ·obtain⟨vs,w,⟨o,n,A,C,_,B⟩,F⟩:=I.list D;exact⟨vs,w,_,o,n,.inl rfl,A,C,B,F⟩
  ·obtain⟨vs,w,⟨o,A,C,n,B⟩,F⟩:=I.tuple D;exact⟨vs,w,_,o,n,.inr rfl,A,C,B,F⟩
 have lv:d.length=vs.length:=by have:=w.length;rw[Af] at this;exact this
 have j:vs.length<=sizeLine:=by rw[Af] at F;symm
 have G:IntsAre vs d:=zj0 w;refine call_function_entry_kw kind_sorted plain_sorted entry_sorted (args_sorted1 _) ?_;unfold Builtin.«sorted»;refine Aa (Ae ?_);refine Aa (zfr hT A C B ?_ j);refine Aa (Hv ?_ j);have k:(#v[5,8].update s.heap.objs.size (Obj.mapSeq (·++vs.toArray))).objs.size=s.heap.objs.size+1:=by
  rw[Heap.size_update,size_push']
 have f:((#v[5,8].update s.heap.objs.size (Obj.mapSeq (·++vs.toArray))).push #v[6,9]).get? #v[5,10]=Za #v[6,9]:=by
  rw[<-k];exact An _ rfl
 have keep:∀b o,s.heap.get? b=Za o->((#v[5,8].update s.heap.objs.size (Obj.mapSeq (·++vs.toArray))).push #v[6,9]).get? b=Za o:=λb o q=>by
  have g:b<s.heap.objs.size:=Am q;rw[Ht _ _ _ (by rw[k];exact Ba (Dl g)),Heap.get?_update_ne _ _ _ _ (Ba g),Ht _ _ _ (Ba g)];exact q
 rw[k];generalize (#v[5,8].update s.heap.objs.size (Obj.mapSeq (·++vs.toArray))).push #v[6,9]=h3 at f keep ⊢;obtain⟨a,N⟩ : ∃a,a=s.heap.objs.size+1:=⟨_,rfl⟩;rw[<-N] at f ⊢;refine Aa (Bh (wpAny_call_entry_kw slot_list_sort ⟨_,f,rfl⟩ entry_list_sort ?body (args_list_sort _)))
 case body =>
  refine zxg (s:={ s with heap:=h3 }) f G j λr h' c M pw ga Y=>⟨_,rfl,?_⟩;have al:∀x∈r,x.2=x.1/\∃n t,x.1=Ze.int n t:=λx L=>by
   obtain⟨K,J⟩:=z1r (M.mem_iff.mp L);obtain⟨i,Z,e⟩:=Cj.mp J;obtain⟨t,O⟩:=G.get i d[i] (Ad #v[]);rw[Ad Z,e] at O;exact⟨K,_,t,sI O⟩
  have R:(r.map λx=>(kN x.1).headD 0).Perm d:=by
   refine (M.map _).trans ?_;have:∀{vs:List Ze}{d:List Int},IntsAre vs d->(vs.zip vs).map (λx=>(kN x.1).headD 0)=d:=λ{vs d} h=>by
    induction h with
    |nil=>rfl
    |cons n t h ih=>rw[Dd,Ax,ih];rfl
   rw[this G]
  have ps:(r.map λx=>(kN x.1).headD 0).Pairwise (·<=·):=by
   rw[List.pairwise_map];refine pw.imp_of_mem λ{x y} L hy z=>?_;obtain⟨_,n,t,K⟩:=al x L;obtain⟨_,m,W,J⟩:=al y hy;rw[K,J] at z ⊢;have z:lexI [m] [n]=Zc:=z;rw[zqm] at z;have:=of_decide_eq_false z;show n<=m;symm
  have S:=zqd R ps;have E:=zli al;rw[<-S] at E;refine Ae ⟨_,rfl,.ref a,_,I.laid (t':=s.toks) (λb o P=>Y b o (λz=>Bp _ (Nat.lt_trans (Am P) (by rw[z,N];exact Er _))) (keep b o P)) #v[] ?_,rfl,q a (I.hok.fresh #v[])⟩;exact⟨by rw[S,Af,R.length_eq];symm,_,c,E,ga⟩
end
noncomputable def zji:ON
 |[w]=>(seqW w).bind λa=>(zbs a).bind λn=>#v[((zto n).map W.int),2]
 |_=>Zb
theorem zmh {K:Zg}:∀a:List Int,Reps K F (a.map W.int) (a.map V.int)
 |[]=>.nil
 |n::a=>.cons (.int n) (zmh a)
theorem zqw {K:Zg}:OpSN K (λxs H Q=>∃(l:Zh) (n:List Int),xs=[.ref l]/\(SqL K H l (n.map V.int)\/SqT K H l (n.map V.int))/\∀p,H p=Zb->Q (.ref p) (upd H p (.lst ((zto n).map V.int)))) zji:=λF H b k m Q s r e q=>by
 match b,e with
 | [w],e =>
  nofun;obtain⟨b,i,e⟩:=bS (show (seqW _).bind _=_ from e);obtain⟨n,d,e⟩:=bS e;refine qG ?_;obtain rfl:=sI e;nofun;obtain⟨v,g,h⟩:=r.one;obtain⟨a,u,f,c,p⟩:=h.seqW s i;ac_rfl;subst g f;rw[zbk d] at p;rw[p.ints] at c;exact⟨a,n,rfl,c,λl j=>q _ _ (.lst j (zmh _))⟩
structure Sx where
 N:List Str
 kd:List (Str×NameKind)
 bn:List Str
 fs:List (Str×(List Bool×Fn))
 mp:List Nat
 top:Bool
 nm:Str := ""
 dp:Nat:=0
noncomputable def Sx.rd (S:Sx) (x:Str):Option Nat:=if x==("__debug__" : Str)||x==("__classdict__" : Str) then Zb else match S.kd.lookup x with
 |some .local=>S.N.findIdx? (· == x)
 |some .cell=>S.N.findIdx? (· == x)
 |some .free=>S.N.findIdx? (· == x)
 |_=>Zb
noncomputable def Sx.wr (S:Sx) (x:Str):Option Nat:=match S.kd.lookup x with
 |some .local=>S.N.findIdx? (· == x)
 |some .cell=>S.N.findIdx? (· == x)
 |_=>Zb
noncomputable def Sx.bl (S:Sx) (x:Str):Bool:=S.kd.lookup x==Za .globalImplicit&&S.bn.contains x
structure CxOk (X:Cx) (S:Sx) (d:Nat):Prop where
 N:X.N=S.N
 nd:S.N.Nodup
 loc:∀x,S.kd.lookup x=Za .local->X.env.scope.names.lookup x=Za .local
 cel:∀x,S.kd.lookup x=Za .cell->X.env.scope.names.lookup x=Za .cell/\X.fn x=Zd
 vis:∀x,S.kd.lookup x=Za .cell\/S.kd.lookup x=Za .free->X.env.scope.names.lookup x=Za .cell\/X.env.scope.names.lookup x=Za .free
 gl:∀x,S.kd.lookup x=Za .globalImplicit->Gl X x
 calm:X.calm=Zd
 xe:X.xe=λ_ _=>False
 bn:∀x∈S.bn,X.mg x=Zb
 fs:∀x m Φ,S.fs.lookup x=Za (m,Φ)->∃ps,ps.length=m.length/\Cal X.prog X.w X.K X.mg X.base d x ps (spF X.K m Φ)
 room:Room d X.A
 sl:X.A.units+16*d+205<cLine
 bk:X.env.blockKind=.function
 lam:S.nm∈lams->∃c P,PySem.W.tabIn X.K S.nm=Za (c,P)/\PySem.W.codeHdIn X.K c P=Zd/\X.env.code=.ref c/\X.env.qual=S.nm++".<locals>."
 dpo:S.dp<=d
 sg:("g SIGNS" : Str)∈S.bn->∃t,X.mg "SIGNS" = Za (.str "abcdef" t)
theorem zha {N:List Str}(h:N.findIdx? (· == x)=Za i):N[i]?=Za x:=by
 obtain⟨hl,h1,_⟩:=Ge.mp h;rw[Ad hl];have:N[i]=x:=by simpa using h1
 rw[this]
section
theorem zrt (C:CxOk X S d){i:Nat}{pos:Pos}(h:S.rd x=Za i):PE X (.Name x pos) (tVar i):=by
 unfold Sx.rd at h;split at h
 ·exact noSome h
 ·rename_i z;rw[Bx,not_or,Bj,Bj] at z;split at h
  ·rename_i e;exact zwr (by rw[C.N];exact zha h) (.inl (C.loc x e)) z.1 z.2
  ·rename_i e;exact zwr (by rw[C.N];exact zha h) (.inr (C.vis x (.inl e))) z.1 z.2
  ·rename_i e;exact zwr (by rw[C.N];exact zha h) (.inr (C.vis x (.inr e))) z.1 z.2
  ·exact noSome h
theorem zn1 (C:CxOk X S d)(h:S.wr x=Za i):X.N[i]?=Za x/\Loc X.env.scope x/\(X.fn x=Zd\/X.env.scope.names.lookup x=Za .local):=by
 unfold Sx.wr at h;split at h
 ·rename_i e;exact⟨by rw[C.N];exact zha h,.inl (C.loc x e),.inr (C.loc x e)⟩
 ·rename_i e;exact⟨by rw[C.N];exact zha h,.inr (C.cel x e).1,.inl (C.cel x e).2⟩
 ·exact noSome h
theorem zga (C:CxOk X S d)(h:S.bl x=Zd):Gl X x/\X.mg x=Zb:=by
 unfold Sx.bl at h;rw[Ac] at h;exact⟨C.gl x (by simpa using h.1),C.bn x (by simpa using h.2)⟩
theorem ndN (C:CxOk X S d):X.N.Nodup:=by rw[C.N];exact C.nd
end
noncomputable def zpb:Zi->Bool
 |.Set ..=>Zc
 |_=>Zd
noncomputable def zcs:Zi->Bool
 |.Slice ..=>Zc
 |_=>Zd
noncomputable def zg8:Zi->Bool
 |.ListComp ..=>Zc
 |.SetComp ..=>Zc
 |.DictComp ..=>Zc
 |_=>Zd
noncomputable def zoh:Zi->Bool
 |.UnaryOp .Not _ _=>Zc
 |.BoolOp ..=>Zc
 |.IfExp ..=>Zc
 |.Compare ..=>Zc
 |_=>Zd
theorem zr9 (h:zpb e=Zd):∀x,foldedSetIterable e env x=pure x:=by
 intro x;cases e<;>first|rfl|(cases h)
theorem zqf (h:zpb e=Zd):behindInMarks op e=Zc:=by
 cases e<;>first|rfl|(cases h)
theorem zh1 (h:zcs e=Zd):zvu e:=λo i=>by
 cases e<;>first|rfl|(cases h)
theorem zo5 (h:zg8 e=Zd):swapsWith e t l env=pure Zc:=by
 cases e<;>first|rfl|(cases h)
theorem zr1 (h:zoh e=Zd):∀w,isTrue e env w=(do let v <- w;standAt e.pos;holding [v] (truthy v)):=by
 intro w;cases e with
 |UnaryOp o _ _=>cases o<;>first|rfl|(cases h)
 |_=>first|rfl|(cases h)
theorem zi9 (h:es.all zag=Zd):(backTo pos (starEach es env)).any (·.1)=Zc:=by
 induction es with
 |nil=>rfl
 | cons e es i =>
  rw[Bv,Ac] at h;rw[zae h.1];show (Zc||(backTo pos (starEach es env)).any (·.1))=Zc;rw[i h.2]
  rfl
noncomputable def cPow (i j:Int):Bool:=decide (0<=j)&&decide (j<=1000000)&&decide (i.natAbs<2^64)
noncomputable def cMul (i j:Int):Bool:=(decide (-(2^64)<i)&&decide (i<2^64))||(decide (-(2^64)<j)&&decide (j<2^64))
noncomputable def zri (i j:Int):Bool:=decide (Builtin.Int.intBits i<=2^20)&&decide (Builtin.Int.intBits j<=2^20)
noncomputable def cDiv (i j:Int):Bool:=decide (0<j)&&decide (j.natAbs.log2<9000)
noncomputable def yes2 (_ _:Int):Bool:=Zd
noncomputable def oAdd:O2:=oOr #v[5,11] (oOr oCat (oOr zxw (oOr z5t z1p)))
noncomputable def oMult:O2:=oOr #v[1,18] (oOr (oI zri λi j=>.int (i*j)) oRep)
noncomputable def binO:Operator->Option O2
 |.Add=>Za oAdd
 |.Sub=>Za #v[0,0,0]
 |.Mult=>Za oMult
 |.FloorDiv=>Za #v[0,0,3]
 |.Mod=>Za #v[0,0,2]
 |.Pow=>Za #v[0,14]
 |.LShift=>Za #v[0,0,1]
 |.RShift=>Za (oI (λ_ j=>decide (0<=j)) λi j=>.int (i / 2 ^ j.toNat))
 |.BitAnd=>Za #v[1,9]
 |.BitOr=>Za #v[9,18]
 |.BitXor=>Za #v[6,14]
 |_=>Zb
theorem zt6 (h:cPow i j=Zd):CPow i j:=by
 unfold cPow at h;rw[Ac,Ac] at h;exact⟨Ao h.1.1,Ao h.1.2,Ao h.2⟩
theorem zvd (h:cMul i j=Zd):CMul i j:=by
 unfold cMul at h;rw[Bx,Ac,Ac] at h;rcases h with h|h
 ·exact .inl ⟨Ao h.1,Ao h.2⟩
 ·exact .inr ⟨Ao h.1,Ao h.2⟩
theorem z00 (h:zri i j=Zd):z8g i j:=by
 unfold zri at h;rw[Ac] at h;exact⟨Ao h.1,Ao h.2⟩
theorem z48 (h:cDiv i j=Zd):0<j/\j.natAbs.log2<9000:=by
 unfold cDiv at h;rw[Ac] at h;exact⟨Ao h.1,Ao h.2⟩
section
theorem z6b (h:binO op=Za o):∃r,OpR X (binaryOp op) r/\OpS X.K r o:=by
 cases op with
 |Add=>obtain rfl:=sI h;exact⟨_,z9b.or (z8u.or (z3n.or (z6v.or zq4))),(zby λ_ _ _=>.int _).or (z61.or (zzw.or (zx3.or z0x)))⟩
 |Sub=>obtain rfl:=sI h;exact⟨_,z8f,zby λ_ _ _=>.int _⟩
 |Mult=>obtain rfl:=sI h;exact⟨_,ybl.or (z31.or yba),(zkj (λ_ _=>zvd) λ_ _ _=>.int _).or ((zkj (λ_ _=>z00) λ_ _ _=>.int _).or z5s)⟩
 |FloorDiv=>obtain rfl:=sI h;exact⟨_,zzt,zkj (λ_ _=>z48) λ_ _ _=>.int _⟩
 |Mod=>obtain rfl:=sI h;exact⟨_,z8e,zkj (λ_ _=>Ao) λ_ _ _=>.int _⟩
 |Pow=>obtain rfl:=sI h;exact⟨_,z84,zkj (λ_ _=>zt6) λ_ _ _=>.int _⟩
 |LShift=>obtain rfl:=sI h;exact⟨_,yav,zkj (λ_ _=>zt6) λ_ _ _=>.int _⟩
 |RShift=>obtain rfl:=sI h;exact⟨_,z80,zkj (λ_ _=>Ao) λ_ _ _=>.int _⟩
 |BitAnd=>obtain rfl:=sI h;exact⟨_,z83,zby λ_ _ _=>.int _⟩
 |BitOr=>obtain rfl:=sI h;exact⟨_,yb3,zby λ_ _ _=>.int _⟩
 |BitXor=>obtain rfl:=sI h;exact⟨_,z91,zby λ_ _ _=>.int _⟩
 |_=>exact noSome h
noncomputable def augO:Operator->Option O2
 |.Add=>Za #v[5,11]
 |.Sub=>Za #v[0,0,0]
 |.Mult=>Za #v[1,18]
 |.BitAnd=>Za #v[1,9]
 |.BitOr=>Za #v[9,18]
 |.BitXor=>Za #v[6,14]
 |_=>Zb
theorem z3d (h:augO op=Za o):∃r,PIp X op r/\OpS X.K r o:=by
 cases op with
 |Add=>obtain rfl:=sI h;exact⟨_,zs8,zby λ_ _ _=>.int _⟩
 |Sub=>obtain rfl:=sI h;exact⟨_,z3z,zby λ_ _ _=>.int _⟩
 |Mult=>obtain rfl:=sI h;exact⟨_,z68,zkj (λ_ _=>zvd) λ_ _ _=>.int _⟩
 |BitAnd=>obtain rfl:=sI h;exact⟨_,z3e,zby λ_ _ _=>.int _⟩
 |BitOr=>obtain rfl:=sI h;exact⟨_,z9h,zby λ_ _ _=>.int _⟩
 |BitXor=>obtain rfl:=sI h;exact⟨_,z7k,zby λ_ _ _=>.int _⟩
 |_=>exact noSome h
noncomputable def cmpO:CmpOp->Option O2
 |.Eq=>Za oEq
 |.NotEq=>Za oNe
 |.Lt=>Za (oI yes2 λi j=>.bl (decide (i<j)))
 |.LtE=>Za (oI yes2 λi j=>.bl (decide (i<=j)))
 |.Gt=>Za #v[7,9]
 |.GtE=>Za (oI yes2 λi j=>.bl (decide (j<=i)))
 |.In=>Za (oIn Zc)
 |.NotIn=>Za (oIn Zd)
 |_=>Zb
theorem z56 (a:Room kr X.A)(h:cmpO op=Za o):∃r,OpR X (compareOp op) r/\OpS X.K r o:=by
 cases op with
 |Eq=>obtain rfl:=sI h;exact⟨_,.or ycl (z9p a),yaa⟩
 |NotEq=>obtain rfl:=sI h;exact⟨_,.or yc1 (z7u a),z7r⟩
 |Lt=>obtain rfl:=sI h;exact⟨_,z8t,zby λ_ _ _=>.bl _⟩
 |LtE=>obtain rfl:=sI h;exact⟨_,yde,zby λ_ _ _=>.bl _⟩
 |Gt=>obtain rfl:=sI h;exact⟨_,ydb,zby λ_ _ _=>.bl _⟩
 |GtE=>obtain rfl:=sI h;exact⟨_,ycc,zby λ_ _ _=>.bl _⟩
 |In=>obtain rfl:=sI h;exact⟨_,zse,z2w Zc⟩
 |NotIn=>obtain rfl:=sI h;exact⟨_,zk2,z2w Zd⟩
 |_=>exact noSome h
end
noncomputable def za0 (f:Sx->Zi->Option GE) (S:Sx) (e:Zi):Option GA:=match e with
 |.Name x _=>(S.rd x).bind λi=>Za (zaa i)
 |_=>(f S e).bind λg=>Za (gArg g)
noncomputable def asL (f:Zi->Option GA):List Zi->Option GAs
 |[]=>Za gA0
 |e::b=>if zag e then (f e).bind λa=>(asL f b).bind λc=>Za (gCns a c) else Zb
noncomputable def asM (f:Sx->Zi->Option GE) (S:Sx):List Zi->List Bool->Option GAs
 |[],[]=>Za gA0
 |e::c,b::m=>if zag e then (if b then za0 f S e else (f S e).bind λg=>Za (gArg g)).bind λa=>(asM f S c m).bind λd=>Za (gCns a d) else Zb
 |_,_=>Zb
noncomputable def zbb (f:Sx->Zi->Option GE):Prop:=∀X S d,CxOk X S d->∀e g,f S e=Za g->PE X e (tE X.K g)
noncomputable def zkg (f:Sx->Zi->Option GT):Prop:=∀X S d,CxOk X S d->∀e g,f S e=Za g->PT X e (tT X.K g)
section
theorem zaf (H:zbb f)(C:CxOk X S d)(h:za0 f S e=Za a):PE X e (tA X.K a):=by
 unfold za0 at h;split at h
 ·obtain⟨i,b,h⟩:=bS h;obtain rfl:=sI h;exact (zrt C b).wk λ_ _ _=>zul
 ·obtain⟨g,c,h⟩:=bS h;obtain rfl:=sI h;exact (H X S d C _ _ c).wk λ_ _ _=>zf3
theorem zfq (H:∀e a,fa e=Za a->PE X e (tA X.K a)):∀{es:List Zi}{as:GAs},asL fa es=Za as->PA X es (tAs X.K as)/\es.all zag=Zd
 |[],_,h=>by obtain rfl:=sI h;exact⟨zda.wk λ_ _ _=>zoy,rfl⟩
 | e::es,_,h=>by
  unfold asL at h;split at h
  ·rename_i z
   obtain⟨a,b,h⟩:=bS h;obtain⟨as,has,h⟩:=bS h;obtain rfl:=sI h;obtain⟨p,q⟩:=zfq H has;exact⟨(pac (H e a b) p z).wk λ_ _ _=>zpk,by rw[Bv,z,q];rfl⟩
  ·exact noSome h
theorem z2n (H:zbb f) (C:CxOk X S d):∀{es:List Zi}{m:List Bool}{as:GAs},asM f S es m=Za as->PA X es (tAs X.K as)/\es.all zag=Zd
 |[],[],_,h=>by obtain rfl:=sI h;exact⟨zda.wk λ_ _ _=>zoy,rfl⟩
 | e::es,b::m,_,h=>by
  unfold asM at h;split at h
  ·rename_i z
   obtain ⟨a,c,h⟩:=bS h;obtain ⟨as,has,h⟩:=bS h;obtain rfl:=sI h;obtain ⟨p,q⟩:=z2n H C has;have j:PE X e (tA X.K a):=by
    cases b with
    |true=>exact zaf H C (by simpa using c)
    | false =>
     obtain⟨g,i,c⟩:=bS (show (f S e).bind _=Za a from by simpa using c);obtain rfl:=sI c;exact (H X S d C _ _ i).wk λ_ _ _=>zf3
   exact⟨(pac j p z).wk λ_ _ _=>zpk,by rw[Bv,z,q];rfl⟩
  ·exact noSome h
 |[],_::_,_,h=>by exact noSome h
 |_::_,[],_,h=>by exact noSome h
end
noncomputable def cmpE (f:Sx->Zi->Option GE) (S:Sx) (a:Zi) (ops:List CmpOp) (c:List Zi):Option GE:=match ops,c with
 |[d],[b]=>if zpb b then (za0 f S a).bind λx=>(za0 f S b).bind λy=>(cmpO d).bind λo=>Za (gOp2 o x y) else Zb
 |_,_=>Zb
noncomputable def z5p (f:Zi->Option GE) (op:BoolOp):Zi->List Zi->Option GE
 |v,[]=>f v
 |v,u::c=>match op with|.And=>(f v).bind λa=>(z5p f op u c).bind λb=>Za (gAnd a b)|.Or=>Zb
noncomputable def z57 (f:Zi->Option GT) (op:BoolOp):Zi->List Zi->Option GT
 |v,[]=>f v
 |v,u::c=>(f v).bind λa=>(z57 f op u c).bind λb=>Za (match op with|.And=>zdy a b|.Or=>gOrT a b)
section
theorem z5v (H:zbb f)(C:CxOk X S d)(h:cmpE f S a ops cs=Za g):PE X (.Compare a ops cs pos) (tE X.K g)/\PT X (.Compare a ops cs pos) (tT X.K (zah g)):=by
 unfold cmpE at h;split at h
 ·rename_i l b;split at h
  ·rename_i z;nofun;obtain⟨x,e,h⟩:=bS h;obtain⟨y,c,h⟩:=bS h;obtain⟨o,k,h⟩:=bS h;ac_rfl;obtain rfl:=sI h;obtain⟨r,j,i⟩:=z56 (X:=X) C.room k;exact⟨(zuv j (zaf H C e) (zaf H C c) (zqf z)).wk λ_ _ _=>zcz i,(zub j (zaf H C e) (zaf H C c) (zqf z)).wk λ_ _ _=>zde λ_ _ _=>zcz i⟩
  ·exact noSome h
 ·exact noSome h
theorem zoi (H:∀e g,fe e=Za g->PE X e (tE X.K g)):∀{v:Zi}{vs:List Zi}{g:GE},z5p fe op v vs=Za g->PE X (.BoolOp op (v::vs) pos) (tE X.K g)
 |v,[],g,h=>yab (H v g h)
 | v,u::f,g,h=>by
  cases op with
  | And =>
   obtain⟨a,d,h⟩:=bS h;obtain⟨b,c,h⟩:=bS h;obtain rfl:=sI h;exact (z9v (H v a d) (zoi H c)).wk λ_ _ _=>z0t
  |Or=>exact noSome h
theorem zir (H:∀e g,fe e=Za g->PT X e (tT X.K g)):∀{v:Zi}{vs:List Zi}{g:GT},z57 fe op v vs=Za g->PW X (.BoolOp op (v::vs) pos) (tT X.K g)
 | v,[],g,h=>by
  cases op with
  |And=>exact z4q (H v g h)
  |Or=>exact z70 (H v g h)
 | v,u::f,g,h=>by
  obtain⟨a,d,h⟩:=bS h;obtain⟨b,c,h⟩:=bS h;obtain rfl:=sI h;cases op with
  |And=>exact (yag (H v a d) (zir H c)).wk λ_ _ _=>zsr
  |Or=>exact (yco (H v a d) (zir H c)).wk λ_ _ _=>zzy
end
theorem z9m:bootBuiltins "min" = Za (.builtin "min"):=by decide +kernel
theorem z1w:bootBuiltins "max" = Za (.builtin "max"):=by decide +kernel
noncomputable def bltO (x:Str):Option ON :=
 if x==("len" : Str) then Za oLen else if x==("abs" : Str) then Za oAbs else if x==("int" : Str) then Za oInt else if x==("list" : Str) then Za oList else if x==("tuple" : Str) then Za za5 else if x==("all" : Str) then Za (oBl λbs=>bs.all id) else if x==("any" : Str) then Za (oBl λbs=>bs.any id)
 else if x==("min" : Str) then Za oMin else if x==("max" : Str) then Za oMax else Zb
section
set_option maxHeartbeats 4000000 in
theorem z4c (C:CxOk X S d)(f:S.bl x=Zd)(h:bltO x=Za o)(a:PA X (e::es) t)(c:(e::es).all zag=Zd):∃r,PE X (.Call (.Name x p) (e::es) [] pos) (tCB r t)/\OpSN X.K r o:=by
 obtain⟨g,m⟩:=zga C f;rw[Bv,Ac] at c;have b:=zae (env:=X.env) (es:=es) c.1;have s:=zi9 (env:=X.env) (pos:=pos) c.2;unfold bltO at h;split at h
 ·rename_i z;obtain rfl:=sI h;have e:=Bn z;subst e;exact⟨_,zc2 zl8 g m z97 a #v[0,9] #v[0,9] b s,z3r⟩
 split at h
 ·rename_i z;obtain rfl:=sI h;have e:=Bn z;subst e;exact⟨_,zc2 z1a g m z98 a #v[0,9] #v[0,9] b s,z54⟩
 split at h
 ·rename_i z;obtain rfl:=sI h;have e:=Bn z;subst e;exact⟨_,zgv zxa g m z92 a #v[0,9] #v[0,9] b s,z36⟩
 split at h
 ·rename_i z;obtain rfl:=sI h;have e:=Bn z;subst e;exact⟨_,zgv zlu g m z41 a #v[0,9] #v[0,9] b s,z01⟩
 split at h
 ·rename_i z;obtain rfl:=sI h;have e:=Bn z;subst e;exact⟨_,zgv zja g m z0y a #v[0,9] #v[0,9] b s,zxi⟩
 split at h
 ·rename_i z;obtain rfl:=sI h;have e:=Bn z;subst e;exact⟨_,zc2 (zzl C.calm) g m ybh a #v[0,9] #v[0,9] b s,z11⟩
 split at h
 ·rename_i z;obtain rfl:=sI h;have e:=Bn z;subst e;exact⟨_,zc2 (zy0 C.calm) g m z7o a #v[0,9] #v[0,9] b s,z11⟩
 split at h
 ·rename_i z;obtain rfl:=sI h;have e:=Bn z;subst e;exact⟨_,zc2 (zsd C.calm) g m z9m a #v[0,9] #v[0,9] b s,z35⟩
 split at h
 ·rename_i z;obtain rfl:=sI h;have e:=Bn z;subst e;exact⟨_,zc2 (zsx C.calm) g m z1w a #v[0,9] #v[0,9] b s,z5a⟩
 exact noSome h
noncomputable def z5d (x:Str):Option ON:=if x==("sorted" : Str) then Za zji else bltO x
theorem z0l (C:CxOk X S d)(b:S.bl x=Zd)(h:z5d x=Za o)(c:PA X (e::es) t)(a:(e::es).all zag=Zd):∃r,PE X (.Call (.Name x p) (e::es) [] pos) (tCB r t)/\OpSN X.K r o:=by
 unfold z5d at h;split at h
 ·rename_i z;obtain rfl:=sI h;have e:=Bn z;subst e;obtain⟨g,m⟩:=zga C b;rw[Bv,Ac] at a;exact⟨_,zc2 zrz g m (show bootBuiltins "sorted" = Za (.builtin "sorted") from PyProof.Rows.boot_sorted) c #v[0,9] #v[0,9] (zae a.1) (zi9 a.2),zqw⟩
 ·exact z4c C b h c a
end
noncomputable def zsk:Zi->Bool
 |.Call _ _ _ _=>Zd
 |_=>Zc
theorem zw2 (h:zsk o=Zc):attributeBase o a env w=w:=by
 cases o<;>first|rfl|(cases h)
noncomputable def z6s (f:Sx->Zi->Option GE) (S:Sx) (o:Zi) (name:Str) (apos:Pos) (args:List Zi) (cpos:Pos):Option GE :=
 if !(apos.endLine==cpos.line)||zsk o then Zb else match args with
 | [e]=>if !zag e then Zb else match o with
  |.Name x _=>(S.rd x).bind λi=>(f S e).bind λg=>if name==("append" : Str) then Za (gApp i g) else Zb
  |_=>Zb
 |_=>Zb
theorem zw0 (h:zag e=Zd):((backTo cpos (starEach [e] env)).all (λx=>!x.1)&&(backToKw cpos (keywordEach [] env)).all (λx=>x.1.isSome)&&decide (([e]:List Zi).length+([]:List Keyword).length+(if ([]:List Keyword).isEmpty then 0 else 1)<30))=Zd:=by
 rw[zae h];rfl
section
theorem zxx (H:zbb f)(C:CxOk X S d)(h:z6s f S o name apos args cpos=Za g):PE X (.Call (.Attribute o name apos) args [] cpos) (tE X.K g):=by
 unfold z6s at h;split at h
 ·exact noSome h
 ·rename_i z;rw[Bx,not_or,Bj,Bj,Df] at z;have b:=zw2 (a:=name) (env:=X.env) (w:=eval o X.env) z.2;split at h
  ·rename_i e;split at h
   ·exact noSome h
   ·rename_i y;rw[Bj,Df] at y;split at h
    ·rename_i x m;obtain⟨i,k,h⟩:=bS h;obtain⟨l,j,h⟩:=bS h;have p:PA X [e] (ze8 (tE X.K l) tNil):=pac (H X S d C _ _ j) zda y;split at h
     ·rename_i q;obtain rfl:=sI h;have c:=Bn q;subst c;exact (ydf PySem.F.plainAttrs_list PySem.F.slot_list_append PySem.F.type_list_append zk3 (zrt C k) p b (zw0 y) z.1 (zae y) rfl).wk λ_ _ _=>zx2
     ·exact noSome h
    ·exact noSome h
  ·exact noSome h
end
noncomputable def z5b (f:Sx->Zi->Option GE) (S:Sx) (x:Str) (args:List Zi):Option GE:=if x==("__debug__" : Str) then Zb else match args with
 |[]=>Zb
 | e::b=>match S.fs.lookup x with
  |some (m,Φ)=>if S.kd.lookup x==Za .globalImplicit then (asM f S (e::b) m).bind λa=>Za (gCall m Φ a) else Zb
  |none=>if S.bl x then (z5d x).bind λo=>(asL (za0 f S) (e::b)).bind λa=>Za (gOpN o a) else Zb
theorem zzk (H:zbb f)(C:CxOk X S d)(h:z5b f S x args=Za g):PE X (.Call (.Name x p) args [] pos) (tE X.K g):=by
 unfold z5b at h;split at h
 ·exact noSome h
 ·rename_i b;rw[Bj] at b;split at h
  ·exact noSome h
  ·rename_i e y;split at h
   ·rename_i m Φ k;split at h
    ·rename_i i;obtain⟨u,has,h⟩:=bS h;obtain rfl:=sI h;obtain⟨w,z,j⟩:=C.fs x m Φ k;obtain⟨c,s⟩:=z2n H C has;rw[Bv,Ac] at s;exact (z86 j C.room (C.gl x (by simpa using i)) c (Ag _) b (zae s.1) (zi9 s.2)).wk λ_ _ _=>zv3
    ·exact noSome h
   ·split at h
    ·rename_i l;obtain⟨o,n,h⟩:=bS h;obtain⟨u,has,h⟩:=bS h;obtain rfl:=sI h;obtain⟨c,s⟩:=zfq (λe a t=>zaf H C t) has;obtain⟨r,v,q⟩:=z0l (pos:=pos) (p:=p) C l n c s;exact v.wk λ_ _ _=>z1i q
    ·exact noSome h
noncomputable def dOn (S:Sx) (x:Str):Bool:=S.bn.contains (("d " : Str)++x)
noncomputable def zn4 (f:Sx->Zi->Option GE) (S:Sx) (t e:Zi):Option GL:=if !zpb e then Zb else match e with
 | .Call (.Name x _) args [] _ =>
  if x==("range" : Str)&&S.bl x then (match args with
   |[a]=>if zag a then (asL (za0 f S) [a]).bind λc=>Za (zcw c) else Zb
   |[a,b]=>if zag a&&zag b then (asL (za0 f S) [a,b]).bind λc=>Za (zu7 c) else Zb
   |_=>Zb)
  else if x==("enumerate" : Str)&&S.bl x then (match args,t with
   |[a],.Tuple _ _ _=>if zag a then (f S a).bind λg=>Za (zmr g) else Zb
   |_,_=>Zb)
  else if x==("reversed" : Str)&&S.bl x then (match args with
   |[a]=>if zag a then (f S a).bind λg=>Za (gRev g) else Zb
   |_=>Zb)
  else if x==("zip" : Str)&&S.bl x then (match args,t with
   |[a,b],.Tuple _ _ _=>if zag a&&zag b then (f S a).bind λg=>(f S b).bind λd=>Za (gZip g d) else Zb
   |_,_=>Zb)
  else (f S e).bind λg=>Za (zax g)
 |_=>(f S e).bind λg=>Za (zax g)
theorem zd9 (Hf:zbb f)(C:CxOk X S d)(h:zn4 f S tg e=Za g):PI X tg e (tI X.K g)/\∀x,foldedSetIterable e X.env x=pure x:=by
 unfold zn4 at h;split at h
 ·exact noSome h
 ·rename_i hs;rw[Bj,Df] at hs;refine⟨?_,zr9 hs⟩;split at h
  ·rename_i x px args pc;split at h
   ·rename_i z;rw[Ac] at z;have e':=Bn z.1;subst e';obtain⟨gl,mg⟩:=zga C z.2;split at h
    ·rename_i a;split at h
     ·rename_i y;obtain⟨as,has,h⟩:=bS h;obtain rfl:=sI h;obtain⟨pa,_⟩:=zfq (λe a ha=>zaf Hf C ha) has;exact (zv5 gl mg pa (zae y)).wk λ_ _ _=>zsc
     ·exact noSome h
    ·rename_i a b;split at h
     ·rename_i y;rw[Ac] at y;obtain⟨as,has,h⟩:=bS h;obtain rfl:=sI h;obtain⟨pa,_⟩:=zfq (λe a ha=>zaf Hf C ha) has;exact (zwn gl mg pa (by rw[zae y.1,zae y.2];rfl) (zae y.2)).wk λ_ _ _=>zv2
     ·exact noSome h
    ·exact noSome h
   ·split at h
    ·rename_i z;rw[Ac] at z;have e':=Bn z.1;subst e';obtain⟨gl,mg⟩:=zga C z.2;split at h
     ·rename_i a es k1 p1;split at h
      ·rename_i y;obtain⟨ge,hg,h⟩:=bS h;obtain rfl:=sI h;exact (zyq gl mg (pac (Hf X S d C _ _ hg) zda y) (zae y)).wk λ_ _ _=>ztn
      ·exact noSome h
     ·exact noSome h
    ·split at h
     ·rename_i z;rw[Ac] at z;have e':=Bn z.1;subst e';obtain⟨gl,mg⟩:=zga C z.2;split at h
      ·rename_i a;split at h
       ·rename_i y;obtain⟨ge,hg,h⟩:=bS h;obtain rfl:=sI h;exact (z76 gl mg (pac (Hf X S d C _ _ hg) zda y) (zae y)).wk λ_ _ _=>z1b
       ·exact noSome h
      ·exact noSome h
     ·split at h
      ·rename_i z;rw[Ac] at z;have e':=Bn z.1;subst e';obtain⟨gl,mg⟩:=zga C z.2;split at h
       ·rename_i a b es k1 p1;split at h
        ·rename_i y;rw[Ac] at y;nofun;obtain⟨ge,hg,h⟩:=bS h;obtain⟨ge',hg',h⟩:=bS h;ac_rfl;obtain rfl:=sI h;exact (z8v gl mg (pac (Hf X S d C _ _ hg) (pac (Hf X S d C _ _ hg') zda y.2) y.1) (by rw[zae y.1,zae y.2];rfl) (zae y.2)).wk λ_ _ _=>zx7
        ·exact noSome h
       ·exact noSome h
      ·obtain⟨ge,hg,h⟩:=bS h;obtain rfl:=sI h;exact (z2z (Hf X S d C _ _ hg)).wk λ_ _ _=>zlq
  ·obtain⟨ge,hg,h⟩:=bS h;obtain rfl:=sI h;exact (z2z (Hf X S d C _ _ hg)).wk λ_ _ _=>zlq
noncomputable def zgk (S:Sx):List Zi->Option (List Nat)
 |[]=>Za []
 |.Name x _::e=>(S.wr x).bind λi=>(zgk S e).bind λa=>Za (i::a)
 |_=>Zb
noncomputable def tgE (S:Sx):Zi->Option Tg
 |.Name x _=>(S.wr x).bind λi=>Za (.nm i)
 |.Tuple e _ _=>(zgk S e).bind λa=>Za (.tp a)
 |_=>Zb
section
theorem zia (C:CxOk X S d):∀(es:List Zi) {f:List Nat},zgk S es=Za f->PGs X es (zic f)/\(assignEach es X.env).length=f.length/\(assignEach es X.env).findIdx? (·.1)=Zb:=by
 intro es
 induction es with
 |nil=>intro f h;obtain rfl:=sI h;exact⟨z5n,rfl,rfl⟩
 | cons e es m =>
  intro f h;obtain ⟨x,p,rfl⟩ : ∃x p,e=.Name x p:=by
   cases e with
   |Name x p=>exact⟨x,p,rfl⟩
   |_=>exact noSome h
  nofun;obtain⟨i,k,h⟩:=bS (show (S.wr x).bind _=_ from h);obtain⟨f,g,h⟩:=bS h;ac_rfl;obtain rfl:=sI h;nofun;obtain⟨a,b,c⟩:=m g;obtain⟨j,l,w⟩:=zn1 C k;ac_rfl;refine⟨zzq (ztf (ndN C) j l w) a rfl,congrArg (· + 1) b,?_⟩;show List.findIdx? (·.1) ((Zc,assign (.Name x p) X.env)::assignEach es X.env)=Zb;rw[List.findIdx?_cons,c]
  rfl
theorem zop (C:CxOk X S d)(h:tgE S e=Za T):PG X e (TGof X.K T):=by
 unfold tgE at h;split at h
 ·obtain⟨i,j,h⟩:=bS h;obtain rfl:=sI h;obtain⟨g,k,w⟩:=zn1 C j;exact ztf (ndN C) g k w
 ·obtain⟨l,f,h⟩:=bS h;obtain rfl:=sI h;obtain⟨a,b,c⟩:=zia C _ f;exact zts C.calm a b c
 ·exact noSome h
end
noncomputable def z3i (te:GE):Fn:=zad [Zc] 1 (gRet te)
noncomputable def lamΦ (te:GE) (w:W):Option W:=(z3i te [w]).bind λp=>if p.1.length=1 then Za p.2.1 else Zb
noncomputable def zv1 (te:GE) (a:GA):GE:=λe=>(a e).bind λp=>(resA p.1 p.2).bind λw=>(seqL w).bind λb=>(mapO (lamΦ te) b).bind λk=>(z7d k b).bind λout=>Za (p.1,(.lst out,Zd))
theorem zkx (h:(scope.names.all λp=>!(p.2==NameKind.free))=Zd):closureFor scope env=pure []:=by
 unfold closureFor;have go:∀(names:List (Str×NameKind)) (a:List (Str×Zh)),(names.all λp=>!(p.2==NameKind.free))=Zd->(forIn names a λ(p:Str×NameKind) a=>(if p.2==NameKind.free then do let c <- cellOf env p.1;pure (ForInStep.yield ((p.1,c)::a)) else pure (ForInStep.yield a):Sem (ForInStep (List (Str×Zh)))))=pure a:=by
  intro names
  induction names with
  |nil=>intro a _;rw[List.forIn_nil]
  | cons p r i =>
   intro a h;rw[Bv,Ac] at h;rw[Fa];have e:(p.2==NameKind.free)=Zc:=by simpa using h.1
   simp only [e];exact i a h.2
 have:=go scope.names [] h;simpa using this
theorem z50 {K:Zg}
  (z:s.heap.get? f=Za (PySem.W.kla_obj "<lambda>" qual params body scope [] pm c' ctv)) (i:s.heap.CodeRec (.ref c') qual) (S:FnScope N p scope) (d:Room (k+1) A) (e0:Env0 P w K mg base A outer s H)
  (m:bindArgs (PySem.W.kla_fn "<lambda>" qual params body scope [] pm (.ref c') ctv) ⟨c,[]⟩=pure (p.zip c)) (r:Vals vs c) (D:vs.length=p.length)
  (h:Room k (A.deeper (envOfC qual scope s.heap.objs.size f (.ref c')))->∃t,PE (cxOf CX0 P w K mg base N qual scope f (.ref c') A outer s H E).nox body t/\t (start N vs) H Q) :
  codeAny (model P w) A (.call (.ref f) ⟨c,[]⟩) (CR CX0 outer P w H s Q E) s:=by
 have l:=e0.mod.nolimit.keeps λb o e=>(e0.bs b o e).1;have a:∀y∈p.zip c,scope.names.lookup y.1=Za .local\/(scope.names.lookup y.1=some .cell/\((cellsFrom #v[5,10] scope.names []).lookup y.1).isSome=true):=λ⟨n,v⟩ F=>by
  rcases S.par n (Ed F).1 with q|q
  ·exact .inl q
  ·exact .inr ⟨q,Gh _ _ _ (.inl q)⟩
 refine PySem.W.kla_callFunE d.depth z rfl S.co S.gen rfl i ?_;rw[m];refine Ae (wpAny_newFunctionEnv_cells S.kind a λenv C j x=>?_);subst C;refine⟨l.keeps x.toInCall.keep,PySem.W.kla_codeExpr ?_⟩;obtain⟨t,L,G⟩:=h (d.deeper _);have I:Inv (cxOf CX0 P w K mg base N qual scope f (.ref c') A outer s H E) [] (start N vs) H j:=zkq S d.hd e0 D r x;refine Cv (L.nox [] j (start N vs) H Q I G) (λu B g=>?_) λe B g=>g;obtain⟨v,M,J,O,q⟩:=g;exact⟨v,M,J.os,J.bare,J.base,J.hok,O,q⟩
noncomputable def zgs (params:Arguments):Option Str:=match params.posonlyargs,params.args,params.vararg,params.kwonlyargs,params.kwarg,params.defaults,params.kw_defaults with
 |[],[a],Zb,[],Zb,[],[]=>Za a.arg
 |_,_,_,_,_,_,_=>Zb
theorem zzs (h:zgs params=Za p):bindArgs (PySem.W.kla_fn "<lambda>" qual params body scope [] pm (.ref c') ctv) ⟨[u],[]⟩=pure ([p].zip [u]):=by
 nofun;obtain⟨l,k,v,n,r,o,m⟩:=params;refine qG ?_;unfold zgs at h;split at h
 ·rename_i a c j i q b g f;subst c j i q b g f;obtain rfl:=sI h;have e:([(a.arg,u)]:List (Str×Ze)).lookup a.arg=Za u:=by simp [List.lookup]
  have d:seqItems? (Ze.none)=(pure Zb:Sem _):=rfl;unfold bindArgs;simp [d]
 ·exact noSome h
noncomputable def zoa (scope:Scope) (p:Str):Bool:=decide (scope.kind=.function) && !scope.isCoroutine && !scope.isGenerator&&decide (scope.names.lookup p=Za .local)&&(scope.names.all λq=>!(q.2==NameKind.free))
theorem zz4 (h:zoa scope p=Zd):FnScope [p] [p] scope:=by
 unfold zoa at h;simp only [Ac,Ff,Cc] at h;obtain⟨⟨⟨⟨g,e⟩,a⟩,c⟩,f⟩:=h;refine⟨g,e,a,by simp,rfl,λx d=>.inl (by rw[Aw.mp d];exact c),λy b z=>?_⟩;have:=Az.mp f y b;rw[z] at this;cases this
noncomputable def lamS (S:Sx) (scope:Scope) (p:Str):Sx:={ N:=[p],kd:=scope.names,bn:=S.bn,fs:=[],mp:=[],top:=Zd }
section
variable {X:Cx}{S:Sx}{d:Nat}
theorem z07 (HE:zbb fE) (A:zgs params=Za p) (hs:zoa scope p=Zd) (ht:fE (lamS S scope p) body=Za te) (K:∀x∈S.bn,X.mg x=Zb) (l:("g SIGNS" : Str)∈S.bn->∃t,X.mg "SIGNS" = Za (.str "abcdef" t)) (P:Room 1 X.A) :
  KCall X (.ref f) (lamΦ te) (λpins F=>(f,PySem.W.kla_obj "<lambda>" qual params body scope [] pm c' ctv)∈pins/\F c'=Za (.ext (zc8 c' qual))) where
 mono:=λh A sm=>⟨A _ h.1,sm _ _ h.2⟩
 run:=λpins s σ H F M b w k v u al I R rp ru D=>by
  have T:=zz4 hs;nofun;obtain⟨⟨c,r⟩,e1,q⟩:=bS D;refine qG ?_;split at q
  ·rename_i n
   obtain rfl:=sI q;have cr:s.heap.CodeRec (.ref c') qual:=by
    nofun;obtain⟨φ,_,_⟩:=(show zbm X.prog X.w H s.heap c' (.ext (zc8 c' qual)) from I.hok c' _ (R.sub _ _ al.2));obtain⟨oc,Y,t,g1,g2,g3⟩:=φ;refine qG ?_;exact⟨c',oc,Y,t,rfl,g1,g2,g3⟩
   have U:=(I.pin _ (Ay _ al.1)).1;have bk:zas (za7 [(Sum.inl w:W ⊕ Nat)]) b (zav [Zc] c)=b:=by
    unfold zas;apply Ds;intro i;rw[Gy];cases b[i]? with
    |none=>rfl
    |some x=>rfl
   have V:spF X.K [Zc] (z3i te) [v] H (λd g=>∃a,Same F a/\Rel X.K a M b σ g/\Rep X.K a r.1 d) E0:=by
    refine zwu (xs:=[.inl w]) (en':=b) (r:=r) R (.cons rp .nil) ?_ λa g d O R' y=>?_
    ·show (if (Zd&&Zd&&_)=Zd then _ else Zb)=_
     show ((z3i te) [w]).bind _=_;rw[e1];show (if c.length=1 then Za (zas (za7 [(Sum.inl w:W ⊕ Nat)]) b (zav [Zc] c),r) else Zb)=_;rw[if_pos n,bk]
    ·refine aG λGg qG => ?_
     obtain⟨B,G,z,J⟩:=y.freeze R';refine qG ?_;exact⟨B,O.trans G,z,J⟩
   refine wpAny_call (Gx (z50 (E:=E0) (Q:=λd g=>∃a,Same F a/\Rel X.K a M b σ g/\Rep X.K a r.1 d) U cr T P I.env0 ?bind (.cons ru .nil) rfl λo=>?body) λres O j=>?_)
   case bind =>
    exact zzs A
   case body =>
    have rd:=zs6 (N:=[p]) V;have C:CxOk (cxOf CX0 X.prog X.w X.K X.mg X.base [p] qual scope f (.ref c') X.A X.stack s H E0).nox (lamS S scope p) 0:={
     N:=rfl
     nd:=by show [p].Nodup;simp
     loc:=λx e=>e
     cel:=λx e=>⟨e,rfl⟩
     vis:=λx e=>e
     gl:=λx e=>e
     calm:=rfl
     xe:=rfl
     bn:=K
     fs:=λx m Φ e=>by exact noSome e
     room:=o
     sl:=by have:=P.un;show X.A.units+3+16*0+205<cLine;symm
     bk:=by
      show (if scope.kind.isAnnotationScope then ScopeKind.function else scope.kind)=.function;rw[T.kind];rfl
     lam:=λh=>absurd (show ("" : Str)∈lams from h) #v[0,0,7]
     dpo:=Bk _
     sg:=l }
    exact⟨_,HE _ _ _ C _ _ ht,zqa rd⟩
   cases res with
   |error e=>exact j.elim
   | ok fl =>
    cases fl with
    | ret u' =>
     nofun;obtain⟨d,g,I',L,a,s1,R1,Z⟩:=I.after j;ac_rfl;exact⟨d,a,g,I',s1,R1,L,Z⟩
    |next=>exact False.elim j
    |brk=>exact False.elim j
    |cont=>exact False.elim j
  ·exact noSome q
variable {pins:List (Zh × Obj)}{σ:St}{H F:Hp}{s:Zf}{pr:Prt}{en:En}
theorem zyx (C:CxOk X S d) (hn:S.nm∈lams) (hp:zgs params=Za p) (hs:zoa scope p=Zd) (I:Inv X pins σ H s) (R:Rel X.K F pr en σ H)
  (h:∀f c' pm ctv s' H' F',Inv X pins σ H' s'->Same F F'->Rel X.K F' pr en σ H'->s'.heap.get? f=Za (PySem.W.kla_obj "<lambda>" (lamQ S.nm) params body scope [] pm c' ctv)->H' f=Zb->Apart X pins f->F' c'=Za (.ext (zc8 c' (lamQ S.nm)))->Q (.ref f) s') :
  wpAny #v[1,7] X.A (eval (.Lambda params body scope pos) X.env) Q E s:=by
 refine aG λ_ qG=>?_;obtain ⟨c,P,ht,hc,ecd,eq⟩:=C.lam hn;obtain ⟨ps,V,t2,t3,t4,t5⟩:=R.tb.2 S.nm hn c P ht;refine qG ?_;have hcl:closureFor scope X.env=pure []:=zkx (by unfold zoa at hs;simp only [Ac] at hs;exact hs.2);have hg:=I.mod.glob.keeps I.bk;have CH:=PySem.W.codeHd_of_K I.kIn hc;have hP:=I.hok P _ V;have hgP:mainGlobals≠P:=λz=>by
  nofun;obtain⟨o,es,ep,B,L,_⟩:=hg;refine qG ?_;rw[z,hP] at B;obtain rfl:=sI B;cases L
 refine aG λ_ qG=>?_;obtain ⟨bm,ob,b1,b2,b3,b4,b5,b6⟩:=I.mod.bmn;refine qG ?_;clear qG;have J:=I.bk _ _ b3;have hbG:bm≠mainGlobals:=λz=>by
  nofun;obtain⟨o,es,ep,B,L,_⟩:=hg;ac_rfl;rw[z,B] at J;obtain rfl:=sI J;rw[L] at b6;cases b6
 have hbP:bm≠P:=λz=>by
  rw[z,hP] at J;obtain rfl:=sI J;cases b4
 have hbm:s.heap.BuiltinsAt X.mg P:=⟨bm,ob,b1,b2,hbG,hbP,J,b4,b5,b6⟩;have hdef:defaultsOf params X.env=([],[]):=by
  nofun;obtain⟨po,ar,va,ko,kd,ka,df⟩:=params;ac_rfl;unfold zgs at hp;split at hp
  ·rename_i a q1 q2 q3 q4 q5 q6 q7
   subst q1 q2 q3 q4 q5 q6 q7
   rfl
  ·cases hp
 have eq':X.env.qual++"<lambda>" = lamQ S.nm:=by rw[eq];rfl
 refine PySem.W.kla_eval hdef ?_;rw[eq'];cases hf:codeAmong pos ps.toList with
 | some M =>
  obtain⟨c',rfl,hc'⟩:=t5 pos M hf;refine PySem.W.kla_makeFunctionHit hcl I.ok.glob hg ecd CH hP t4 hf hbm λctv h' tk k hz=>?_;have Y:∀b o,s.heap.get? b=Za o->(h'.push (PySem.W.kla_obj "<lambda>" (lamQ S.nm) params body scope [] ((X.mg "__name__").getD .none) c' ctv)).get? b=Za o:=λb o e=>Ab _ (k b o e);exact h h'.objs.size c' _ ctv _ H F (I.kept Y) (.refl F) R (An _ rfl) (I.hok.fresh hz) (I.fpOk (H':=H) hz (I.hok.fresh hz)).apart hc'
 | none =>
  refine PySem.W.kla_makeFunction hcl I.ok.glob hg ecd CH hP t4 hf hgP hbm λc' ctv h' tk hx hge hlt hrec W=>?_;have O:=I.hok.fresh hge;have nP:c'≠P:=λz=>by rw[z,V] at O;cases O
  obtain⟨K,N⟩ : ∃K,K=ps++#[rawInt pos.line,rawInt pos.col,.ref c']:=⟨_,rfl⟩;rw[<-N] at W;have j:=Gk (Hj hge hlt);have T:∀b,H b=Zb->b≠P:=λb e z=>by rw[z,V] at e;cases e
  let fo:=PySem.W.kla_obj "<lambda>" (lamQ S.nm) params body scope [] ((X.mg "__name__").getD .none) c' ctv
  have Y:∀b o,b≠P->s.heap.get? b=Za o->(h'.push fo).get? b=Za o:=λb o A e=>Ab _ (hx b o A e)
  let H':Hp:=upd (upd H P (.tbl K)) c' (.ext (zc8 c' (lamQ S.nm)))
  have G:∀b,b≠P->b≠c'->H' b=H b:=λb h1 h2=>by show upd (upd H P _) c' _ b=_;rw[upd_ne h2,upd_ne h1]
  have hHP:H' P=Za (.tbl K):=by show upd (upd H P _) c' _ P=_;rw[upd_ne nP.symm,upd_same]
  have hHc:H' c'=Za (.ext (zc8 c' (lamQ S.nm))):=upd_same;have nc:∀b o,s.heap.get? b=Za o->b≠c':=λb o e z=>by subst z;exact absurd (Am e) (Nat.not_lt_of_le hge)
  have U:∀b u,H b=Za u->b≠c':=λb u e z=>by rw[z,O] at e;cases e
  have D:∀b u,H b=Za u->(∀q,u≠.tbl q)->b≠P:=λb u e hu z=>by rw[z,V] at e;obtain rfl:=sI e;exact hu _ rfl
  have I':Inv X pins σ H' { s with heap:=h'.push fo,toks:=tk }:=by
   refine I.step (g':=s.gens) (d':=s.drawn) (ch:=[]) (λb A=>by cases A) (λb o _ _ _ e n=>Y b o (T b n) e) (λb o _ _ _ e n=>⟨o.slots,Y b o (T b n) e⟩) (λb u _ e n=>by rw [G b (T b n) (nc b u e)];exact n)
    (λb u _ e=>?_) (λb xs e=>by rw[G b (D b _ e λ_ z=>by cases z) (U b _ e)];exact e) (λb u xs e=>by rw[G b (D b _ e λ_ z=>by cases z) (U b _ e)];exact e) (λb qs e=>?_) (λm hm=>?_) (λb u e=>?_) I.bare
   ·by_cases A:b=P
    ·subst A;exact⟨_,Ab _ W⟩
    ·exact⟨u,Y b u A e⟩
   ·by_cases A:b=P
    ·subst A
     rw[V] at e;cases e;exact⟨#[rawInt pos.line,rawInt pos.col,.ref c'],by rw[hHP,N]⟩
    ·exact⟨#[],by rw[G b A (U b _ e),e];simp⟩
   ·refine aG λGg qG => ?_
    obtain⟨o,es,ep,ho,r⟩:=hm;refine qG ?_;exact⟨o,es,ep,Y _ o (T _ I.free) ho,r⟩
   ·by_cases A:b=c'
    ·subst A
     rw[hHc] at e;obtain rfl:=sI e;nofun;obtain⟨c2,oc,vs,t,e2,hoc,hd,hv⟩:=hrec;refine qG ?_;cases e2;refine⟨⟨oc,vs,t,Ab _ hoc,hd,hv⟩,⟨oc,Ab _ hoc⟩,λh1 h2 ⟨oc,vs,t,B,L,g3⟩ kk=>⟨oc,vs,t,kk oc B,L,g3⟩⟩
    ·by_cases Z:b=P
     ·subst Z
      rw[hHP] at e;obtain rfl:=sI e;exact Ab _ W
     ·rw [G b Z A] at e
      refine (I.hok b u e).stay (λc v hc q=>Y c v ?_ q) (λc q=>by rw[G c (D c _ q λ_ z=>by cases z) (U c _ q)];exact q) λc xs q=>by rw[G c (D c _ q λ_ z=>by cases z) (U c _ q)];exact q
      rcases hc with z|z
      ·rw[z];exact Z
      ·exact D c _ z λ_ y=>by cases y
  have fc:=R.sub.free O;have sF:Same F (upd F c' (.ext (zc8 c' (lamQ S.nm)))):=Same.new fc _;have R':Rel X.K (upd F c' (.ext (zc8 c' (lamQ S.nm)))) pr en σ H':=by
   refine⟨R.len,λb u e=>?_,λi w e=>?_,λi w e=>?_,R.inj,λb o q=>?_,R.tb.1,λx hx' c0 P0 e0=>?_⟩
   ·by_cases A:b=c'
    ·subst A;rw[upd_same] at e;rw[hHc];exact e
    ·rw [upd_ne A] at e
     have e':=R.sub _ _ e;rw[G b (λz=>by rw[z,t2] at e;cases e) A];exact e'
   ·obtain ⟨v,B,L⟩:=R.val i w e
    exact⟨v,B,L.mono sF⟩
   ·refine aG λGg qG => ?_
    obtain⟨a,o,w',B,L,g3,g4,g5⟩:=R.own i w e;ac_rfl;have na:=U a _ g3;exact⟨a,o,w',B,L,by rw[G a (D a _ g3 λ_ z=>by cases g5<;>cases z) na];exact g3,by rw[upd_ne na];exact g4,g5.mono sF⟩
   ·obtain ⟨B,L,g3⟩:=R.prt b o q
    have nb:=U b _ B;exact⟨by rw[G b (λz=>by subst z;exact t3 o q) nb];exact B,by rw[upd_ne nb];exact L,g3⟩
   ·refine aG λGg qG => ?_
    obtain⟨qs,u1,u2,u3,u4,u5⟩:=R.tb.2 x hx' c0 P0 e0;ac_rfl;by_cases hp0:P0=P
    ·subst hp0
     have ex:=R.tb.1.1 x hx' S.nm hn c0 c P0 e0 ht;subst ex;rw[V] at u1;cases u1;refine⟨K,hHP,by rw[upd_ne nP.symm];exact t2,t3,?_,λg M e2=>?_⟩
     ·rw [N]
      have:=TriplesOk_snoc pos.line pos.col (.ref c') ps.toList t4;simpa using this
     ·rw [N] at e2
      have e3:codeAmong g (ps.toList++[rawInt pos.line,rawInt pos.col,.ref c'])=Za M:=by simpa using e2
      have gen:∀l:List Ze,TriplesOk l->codeAmong g (l++[rawInt pos.line,rawInt pos.col,.ref c'])=Za M->codeAmong g l=Za M\/M=.ref c':=λl hl=>by
       fun_induction TriplesOk l with
       | case1 =>
        intro z
        right
        simp only [List.nil_append,rawInt,codeAmong] at z;split at z
        ·exact (sI z).symm
        ·cases z
       | case2 a b c d e rest ih =>
        intro z;simp only [List.cons_append,codeAmong] at z ⊢;split at z
        ·rename_i q;rw[if_pos q];exact .inl z
        ·rename_i q;rw[if_neg q];exact ih hl z
       |case3=>exact hl.elim
      rcases gen ps.toList t4 e3 with z|z
      ·obtain ⟨c2,q1,q2⟩:=u5 g M z
       exact⟨c2,q1,sF _ _ q2⟩
      ·exact⟨c',z,upd_same⟩
    ·have np0:=U P0 _ u1
     refine⟨qs,by rw[G P0 hp0 np0];exact u1,by rw[upd_ne np0];exact u2,u3,u4,λg M e2=>?_⟩;obtain⟨c2,q1,q2⟩:=u5 g M e2;exact⟨c2,q1,sF _ _ q2⟩
  have nf:H' h'.objs.size=Zb:=by
   rw[G _ (λz=>?_) (Fu hlt)]
   ·exact I.hok.fresh j
   ·have:=I.hok.fresh j
    rw[z,V] at this;cases this
  exact h h'.objs.size c' _ ctv _ H' _ I' sF R' (An _ rfl) nf (I.fpOk (H':=H) j (I.hok.fresh j)).apart upd_same
theorem z0u (h:Room 2 X.A):Room 1 X.inn.A:=⟨h.hd,by have:=h.dp;show X.A.depth+3*1+5<_;symm,by have:=h.un;show X.A.units+1+1+16*1+200<_;symm,h.gd⟩
noncomputable def zh0 (sq:W->Option (List W)) (S2:List W->List W->Option (List W)) (te:GE) (a:GA):GE:=λen=>(a en).bind λp=>(resA p.1 p.2).bind λw=>(sq w).bind λb=>(mapO (lamΦ te) b).bind λk=>(S2 k b).bind λout=>Za (p.1,(.lst out,Zd))
theorem z8o:∀{w:W}{ws:List W},seqL w=Za ws->seqW w=Za ws:=λ{w ws} h=>by
 cases w<;>first|exact h|exact noSome h
theorem zpf (hq:∀{w ws},sq w=Za ws->seqW w=Za ws) (hS:∀{ks ws out},S2 ks ws=Za out->zo7 ks ws out) (HE:zbb fE) (C:CxOk X S d) (ha:za0 fE S e=Za a) (G:zag e=Zd) (hn:S.nm∈lams) (h2:2<=S.dp) (Y:zgs params=Za p) (hs:zoa scope p=Zd) (ht:fE (lamS S scope p) body=Za te) (K:S.bl "sorted" = Zd) :
  PE X (.Call (.Name "sorted" px) [e] [⟨Za "key",.Lambda params body scope lpos,kpos⟩] pos) (tE X.K (zh0 sq S2 te a)):=by
 intro pins s σ H Q I h;nofun;nofun;obtain⟨F,pr,en,en',r,R,b,q⟩:=h;obtain⟨⟨W,x⟩,h1,b⟩:=bS b;obtain⟨w,hw,b⟩:=bS b;obtain⟨ws,o,b⟩:=bS b;obtain⟨ks,n,b⟩:=bS b;obtain⟨out,ho,b⟩:=bS b;ac_rfl;ac_rfl;cases b;obtain⟨gl,mn⟩:=zga C K;have U:=C.room.mono (Bu h2 C.dpo);have c:starEach [e] X.env=(Zc,eval e X.env)::starEach [] X.env:=by cases e<;>first|rfl|(cases G)
 refine Gq (zc5 I gl mn (show bootBuiltins "sorted" = Za (.builtin "sorted") from PyProof.Rows.boot_sorted) ?_);refine PyProof.Rows.callWith_kw ?_ (by rw[c];rfl) (by rw[c];rfl);refine thn (zjq (zaf HE C ha) zda c pos pins s σ H (λT E=>∃v g,T=[v]/\Same F g/\Rel X.K g pr W σ E/\ArgR X.K g σ x v) I ⟨F,pr,en,W,x,R,h1,λg E v Z D m=>⟨v,g,rfl,Z,D,m⟩⟩) λus Z ⟨T,E,I1,N,v,g,L,A,D,m⟩=>?_;subst L;cases N with
 | cons ru N =>
  cases N;refine PyProof.Rows.kws_cons (zyx C hn Y hs I1 D λf B pm ctv s2 H2 F2 O k R2 gf nf i gc=>PyProof.Rows.kws_nil ?_);have I3:Inv X ((f,PySem.W.kla_obj "<lambda>" (lamQ S.nm) params body scope [] pm B ctv)::pins) σ H2 s2:=O.pins_of λy j=>by
   rcases Ak.mp j with rfl|j
   ·exact⟨gf,nf,i.l,i.f,λv z=>by cases z⟩
   ·exact O.pin y (Ay _ j)
  have rb:=(m.mono k).repB R2 hw;nofun;nofun;obtain⟨l,vvs,L,sq,t⟩:=rb.seqW R2.sub (hq o);ac_rfl;ac_rfl;subst L;cases (show _=Ze.ref l from ru);refine thn (zqs (z07 (c':=B) HE Y hs ht C.bn C.sg (z0u U)) I3 ⟨Au,gc⟩ R2 sq t n (hS ho) (by have:=U.un;symm) λF' J v P R' y=>q F' J v (A.trans (k.trans P)) R' y) λu P ⟨v,J,V,M,q'⟩=>⟨v,J,V.pins_of λy j=>V.pin y (Ay _ (Ap _ j)),M,q'⟩
noncomputable def z3y (fE:Sx->Zi->Option GE) (S:Sx) (x:Str) (e:Zi) (key:Str) (params:Arguments) (body:Zi) (scope:Scope):Option GE :=
 if x==("sorted" : Str)&&key==("key" : Str)&&S.bl x&&zag e&&lams.contains S.nm&&decide (2<=S.dp) then (zgs params).bind λp=>if zoa scope p then (za0 fE S e).bind λa=>(fE (lamS S scope p) body).bind λt=>Za (if S.nm==("voted_terms" : Str) then zh0 seqW zfs t a else zv1 t a) else Zb else Zb
theorem zzf (H:zbb fE)(C:CxOk X S d)(h:z3y fE S x e key params body scope=Za g):PE X (.Call (.Name x px) [e] [⟨Za key,.Lambda params body scope lpos,kpos⟩] pos) (tE X.K g):=by
 unfold z3y at h;split at h
 ·rename_i z;simp only [Ac,Cc,Dc] at z;nofun;obtain⟨⟨⟨⟨⟨q,n⟩,k⟩,b⟩,j⟩,f⟩:=z;ac_rfl;have o:=Bn q;have m:=Bn n;subst o m;obtain⟨p,c,h⟩:=bS h;split at h
  ·rename_i y;nofun;obtain⟨a,i,h⟩:=bS h;obtain⟨t,l,h⟩:=bS h;ac_rfl;obtain rfl:=sI h;split
   ·exact zpf (sq:=seqW) (S2:=zfs) id ztv H C i b j f c y l k
   exact zpf (sq:=seqL) (S2:=z7d) z8o z0s H C i b j f c y l k
  ·exact noSome h
 ·exact noSome h
end
section
theorem zm7 {id:String} (j:builtinKind id=Zb) (d:plainId id=Zd) (h:entryFor table id=Za b) (i:argsOk id ⟨args,kw⟩)
  (g:wpAny (model prog w) A.in1 (b ⟨args,kw⟩) (λfin s'=>∃c,fin=.again c/\c.quiet=Zd/\codeAny (model prog w) A c (λr t=>∃v,r=.ok (.ret v)/\Q v t) s') E s):wpAny (model prog w) A (call (.builtin id) args kw) Q E s:=by
 refine wpAny_call (codeAny_call_builtin d h ?_);have fin:=Cv g (Q':=λfin s'=>match fin with
  |.done f=>(match (Except.ok f:Result) with|.ok (.ret v)=>Q v s'|.ok _=>False|.error e=>E e s')
  | .again c=>c.quiet=Zd/\codeAny (model prog w) A c (λr t=>match r with | .ok (.ret v)=>Q v t | .ok _=>False | .error e=>E e t) s') (λf t z=>by
   obtain⟨c,rfl,q,z⟩:=z;exact⟨q,Gx z λr t y=>by obtain⟨v,rfl,y⟩:=y;exact y⟩) λ_ _ z=>z
 simp only [checkBuiltinCall,j];cases sg:Manifest.signature? id with
 |none=>exact Ae fin
 | some a =>
  have e:Bind.checkArgs id a ⟨args,kw⟩=pure ():=by simpa only [argsOk,sg] using i
  simp only [e];exact Ae fin
theorem zv6 (a v:Ze):argsOk "max" ⟨[a],[("default",v)]⟩:=by unfold argsOk;kernel_rfl
noncomputable def mxF (f:Nat->Int):Nat->Nat->Int->Int
 |_,0,b=>b
 |j,k+1,b=>mxF f (j+1) k (if f j > b then f j else b)
variable {fp wr:List Zh}{St:Nat->Heap->Prop}
theorem z63 (W:Walks prog w A.in1 I fp wr n P St) (f:Nat->Int) (H:∀i v,P i v->∃t,v=.int (f i) t) (S:Zh) (Q:S ∉ fp) (d:Ze) :
  ∀(k j:Nat) (s:Zf) (b:Int) (m:Tok) (l:Nat) (c:Nat),n=j+k->P l (.int b m)->St j s.heap->s.heap.get? S=Za { cls:=.type "list",dict:=Zb,data:=.seq #[.int b m,.int b m] c,slots:=#[] } ->
   (∀h' tk t,(∀a o,a ∉ wr->a≠S->s.heap.get? a=Za o->h'.get? a=Za o)->R (.ok (.ret (.int (mxF f j k b) t))) { s with heap:=h',toks:=tk })->codeAny (model prog w) A (.builtin "max.loop" ⟨[.ref I,.none,.ref S],[("default",d)]⟩) R s:=by
 have N:S ∉ wr:=λh=>Q (W.sub _ h);have nm:(toString "max"++toString ".loop" : String) = "max.loop" := by decide
 have L:=CmpOf.ints_gt (prog:=prog) (w:=w) (A:=A.in1) f H;intro k
 induction k with
 | zero =>
  intro j s b m l c M C K y hR;refine Dj F.entry_max_loop ?_;refine Aa (Co y rfl ?_);have J:St n s.heap:=by rw[M];exact K
  refine Aa (Gw (W.done s _ _ J λh' tk x=>?_));refine Aa (wpAny_updateSeq (x S _ N y) rfl (Aa (Gs (Ae ?_))));exact hR _ tk m λa o p u e=>(Dq _ _ (Ne.symm u)).trans (x a o p e)
 | succ k O =>
  intro j s b m l c M C K y hR;refine Dj F.entry_max_loop ?_;rw[Around.under_plainId Hi _];show wpAny _ A.in1 (seqItems? (.ref S)>>=_) _ _ s;refine Aa (Co y rfl ?_);show wpAny _ A.in1 (tryCatch (pyNext (.ref I)) _>>=_) _ _ s;refine Aa (Gw (W.item j s _ _ #v[] K λv V tk E B x=>?_));obtain⟨D,rfl⟩:=H j v E;have r:=x S _ N y;show wpAny _ A.in1 (tryCatch (holding [.int (f j) D,.int (f j) D] (richCompare .Gt (.int (f j) D) (.int b m)>>=_)) _>>=_) _ _ _;refine Aa (Gw (Bh (Aa (L j l _ _ _ _ _ E C ?_))));have T:f l=b:=by obtain⟨_,e⟩:=H l _ C;cases e;rfl
  refine Aa (Bh (Fx ?_));refine Aa (Gs (Ae ?_));show wpAny _ A.in1 (if decide (f j > f l)=Zd then _ else _) _ _ _;rw[T];by_cases g:f j > b
  ·rw [Aj g]
   refine Aa (wpAny_updateSeq r rfl (Aa (Gs ?_)));refine Ae ⟨Ft Hi _,O (j+1) _ (f j) D j _ #v[] E (W.frame _ _ _ B λa U o e=>(Dq _ _ (λz:S=a=>Q (z ▸ U))).trans e) (Hg _ r rfl) λh' q t G=>?_⟩;have:=hR h' q t λa o p u e=>G a o p u ((Dq _ _ (Ne.symm u)).trans (x a o p e));rw[mxF,if_pos g] at this;exact this
  ·rw [At g]
   refine Aa (Gs ?_);rw[nm];refine Ae ⟨Ft Hi _,O (j+1) _ b m l c #v[] C B r λh' q t G=>?_⟩;have:=hR h' q t λa o p u e=>G a o p u (x a o p e);rw[mxF,if_neg g] at this;exact this
noncomputable def maxD (f:Nat->Int) (n:Nat) (d:Int):Int:=match n with
 |0=>d
 |n+1=>mxF f 1 n (f 0)
theorem zzo (W:Walks prog w A.in1 I fp wr n P St) (f:Nat->Int) (x:∀i v,P i v->∃t,v=.int (f i) t) (S:Zh) (p:S ∉ fp) (d:Int) (u:Tok) (st:St 0 s.heap) (y:s.heap.get? S=Za { cls:=.type "list",dict:=Zb,data:=.seq #[] c,slots:=#[] })
  (hR:∀h' tk t,(∀a o,a ∉ wr->a≠S->s.heap.get? a=Za o->h'.get? a=Za o)->R (.ok (.ret (.int (maxD f n d) t))) { s with heap:=h',toks:=tk }):codeAny (model prog w) A (.builtin "max.loop" ⟨[.ref I,.none,.ref S],[("default",.int d u)]⟩) R s:=by
 have B:S ∉ wr:=λh=>p (W.sub _ h);have nm:(toString "max"++toString ".loop" : String) = "max.loop" := by decide
 refine Dj F.entry_max_loop ?_;refine Aa (Co y rfl ?_);cases n with
 | zero =>
  refine Aa (Gw (W.done s _ _ st λh' tk k=>?_));refine Aa (Cd (Ae ?_));exact hR h' tk u λa o g _ e=>k a o g e
 | succ n =>
  refine Aa (Gw (W.item 0 s _ _ (Nat.succ_pos n) st λv E tk q m k=>?_));obtain⟨j,rfl⟩:=x 0 v q;have b:=k S _ B y;show wpAny _ A.in1 (updateSeq S (λ_=>#[.int (f 0) j,.int (f 0) j])>>=_) _ _ _;refine Aa (wpAny_updateSeq b rfl ?_);refine Ae ⟨Ft Hi _,z63 W f x S p _ n 1 _ (f 0) j 0 _ (Nat.add_comm n 1) q (W.frame _ _ _ m λa D o e=>(Dq _ _ (λz:S=a=>p (z ▸ D))).trans e) (Hg _ b rfl) λh' l t C=>?_⟩;exact hR h' l t λa o g r e=>C a o g r ((Dq _ _ (Ne.symm r)).trans (k a o g e))
theorem zk6
  (h:wpAny (model prog w) A.in1 (pyIter x) (λit c=>∃I fp wr n P St f,it=.ref I/\Walks prog w A.in1 I fp wr n P St/\St 0 c.heap/\(∀b∈fp,b<c.heap.objs.size)/\(∀i v,P i v->∃t,v=.int (f i) t) /\
   ∀h' tk t,(∀a o,a ∉ wr->c.heap.get? a=Za o->h'.get? a=Za o)->Q (.int (maxD f n d) t) { c with heap:=h',toks:=tk }) E s) :
  wpAny (model prog w) A (call (.builtin "max") [x] [("default",.int d td)]) Q E s:=by
 have nm:(toString "max"++toString ".loop" : String) = "max.loop" := by decide
 refine zm7 F.kind_max F.plain_max F.entry_max (zv6 _ _) ?_;refine Aa (Gr (show Builtin.Builtins.bindParams "max" ["key","default"] 0 ⟨[],[("default",.int d td)]⟩=pure [Zb,Za (.int d td)] from rfl) ?_);refine Aa (Ae ?_);refine Aa (Cv h (λit c z=>?_) λ_ _ e=>e);nofun;obtain⟨I,fp,wr,n,P,St,f,rfl,W,j,q,l,p⟩:=z;refine qG ?_;refine Aa (Dp ?_);have r:c.heap.objs.size ∉ fp:=λm=>Bp _ (q _ m);refine Ae ⟨_,rfl,Ft Hi _,zzo W f l c.heap.objs.size r d td (W.frame _ _ _ j λa _ o e=>Ab _ e) (An _ rfl) λh' tk t k=>⟨_,rfl,?_⟩⟩;exact p h' tk t λa o g e=>k a o g (Ba (Am e)) (Ab _ e)
end
noncomputable def mxL (n:List Int) (d:Int):Int:=maxD (λi=>n.getD i 0) n.length d
noncomputable def z1n (a:GA) (g:GE):GE:=λe=>(a e).bind λp=>(g p.1).bind λq=>(resA q.1 p.2).bind λw=>(seqW w).bind λb=>(zbs b).bind λn=>match q.2.1 with
 |.int d=>Za (q.1,(.int (mxL n d),Zc))
 |_=>Zb
section
theorem zwf (x:X.calm=Zd) (I:Inv X pins σ H s) (h:SqL X.K H a (ns.map V.int)\/SqT X.K H a (ns.map V.int))
  (q:∀h' tk t,(∀b o,s.heap.get? b=Za o->h'.get? b=Za o)->Q (.int (mxL ns k) t) { s with heap:=h',toks:=tk }):wpAny #v[1,7] X.A (call (.builtin "max") [.ref a] [("default",.int k tk)]) Q X.xe s:=by
 have go:∀{c:List Ze},Vals (ns.map V.int) c->c.toArray.size=ns.length/\∀(i:Nat) (v:Ze),c.toArray[i]?=Za v->∃t,v=.int (ns.getD i 0) t:=λ{c} r=>by
  have y:=r.length;rw[Af] at y;exact⟨by rw[Ai,y],λi v e=>zms r (by simpa using e)⟩
 have w:∀{l:Obj}{h':Heap},(∀b o,b ∉ [s.heap.objs.size]->(s.heap.push l).get? b=Za o->h'.get? b=Za o)->∀b o,s.heap.get? b=Za o->h'.get? b=Za o:=λf b o e =>
  f b o (λz=>by rw[Aw] at z;subst z;exact absurd (Am e) (Bp _)) (Ab _ e)
 have u:∀{l:Obj},a<s.heap.objs.size->∀b∈[s.heap.objs.size,a],b<(s.heap.push l).objs.size:=λd b m=>by
  rw[Cr];simp only [Ak,Bb,Dk] at m;rcases m with rfl|rfl
  ·exact Er _
  ·exact Dl d
 rcases h with h|h
 ·refine aG λG qG => ?_;obtain⟨c,r,p,_⟩:=I.list h;obtain⟨j,g⟩:=go r;refine qG ?_;have d:a<s.heap.objs.size:=by obtain⟨o,e,_⟩:=p.isList;exact Am e
  refine zk6 (Ep p.isList ?_);refine⟨s.heap.objs.size,_,[s.heap.objs.size],c.toArray.size,_,_,λi=>ns.getD i 0,rfl,Walks.list (show X.A.in1.handled=Zb from I.ok.hd x) _ a (Ba d) c.toArray,⟨⟨_,An _ rfl,rfl,rfl⟩,p.isList.push _⟩,u d,g,λh' tk t f=>?_⟩;rw[j];exact q h' tk t (w f)
 ·refine aG λG qG => ?_;obtain⟨c,r,⟨o,A,B,n,C⟩,_⟩:=I.tuple h;obtain⟨j,g⟩:=go r;ac_rfl;have p:s.heap.IsTuple a c.toArray:=⟨o,A,B,n,C⟩;have d:=Am A;refine zk6 (Gp p ?_);refine⟨s.heap.objs.size,_,[s.heap.objs.size],c.toArray.size,_,_,λi=>ns.getD i 0,rfl,Walks.tuple (show X.A.in1.handled=Zb from I.ok.hd x) _ a (Ba d) c.toArray,⟨⟨_,An _ rfl,rfl,rfl⟩,p.push _⟩,u d,g,λh' tk t f=>?_⟩;rw[j];exact q h' tk t (w f)
theorem z49 (W:zbb fE) (C:CxOk X S d) (ha:za0 fE S e=Za a) (K:zag e=Zd) (hd:fE S ed=Za g) (L:S.bl "max" = Zd) :
  PE X (.Call (.Name "max" px) [e] [⟨Za "default",ed,kpos⟩] pos) (tE X.K (z1n a g)):=by
 intro pins s σ H Q I h;nofun;nofun;obtain⟨F,p,Z,en',r,R,b,q⟩:=h;obtain⟨⟨D,x⟩,h1,b⟩:=bS b;obtain⟨⟨T,wd,fd⟩,Y,b⟩:=bS b;obtain⟨w,hw,b⟩:=bS b;obtain⟨ws,A,b⟩:=bS b;obtain⟨ns,hi,b⟩:=bS b;ac_rfl;ac_rfl;cases wd with
 | int k =>
  obtain rfl:=(Prod.mk.inj (sI b)).1;obtain rfl:=(Prod.mk.inj (sI b)).2;obtain⟨gl,mn⟩:=zga C L;have f:starEach [e] X.env=(Zc,eval e X.env)::starEach [] X.env:=zae K;refine Gq (zc5 I gl mn z1w ?_);refine PyProof.Rows.callWith_kw ?_ (by rw[f];rfl) (by rw[f];rfl);refine thn (zjq (zaf W C ha) zda f pos pins s σ H (λP o=>∃v c,P=[v]/\Same F c/\Rel X.K c p D σ o/\ArgR X.K c σ x v) I ⟨F,p,Z,D,x,R,h1,λc o v G E u=>⟨v,c,rfl,G,E,u⟩⟩) λus G ⟨P,o,I1,N,v,c,M,B,E,u⟩=>?_;subst M;cases N with
  | cons ru N =>
   cases N;refine PyProof.Rows.kws_cons (thn (W X S d C _ _ hd pins G σ o (λz m=>∃i,z=.int k/\Same c i/\Rel X.K i p T σ m) I1 ⟨c,p,D,T,(.int k,fd),E,Y,λi m z U R2 y=>⟨i,y.isInt,U,R2⟩⟩) λud U ⟨z,m,O,rd,i,J,n,R2⟩=>PyProof.Rows.kws_nil ?_);subst J;obtain⟨td,rfl⟩:=(show ∃t,ud=Ze.int k t from rd);have rb:=(u.mono n).repB R2 hw;nofun;obtain⟨l,vvs,M,V,j⟩:=rb.seqW R2.sub A;refine qG ?_;subst M;cases (show _=Ze.ref l from ru);rw[zbk hi] at j;rw[j.ints] at V;exact zwf C.calm O V λh' tk t hk=>⟨.int _,m,O.kept hk,⟨_,rfl⟩,q i m _ (B.trans n) R2 (.int _)⟩
 |_=>exact noSome b
noncomputable def maxE (fE:Sx->Zi->Option GE) (S:Sx) (x:Str) (e:Zi) (key:Str) (b:Zi):Option GE :=
 if x==("max" : Str)&&key==("default" : Str)&&S.bl x&&zag e then (za0 fE S e).bind λa=>(fE S b).bind λg=>Za (z1n a g) else Zb
theorem z3f (H:zbb fE)(C:CxOk X S d)(h:maxE fE S x e key ed=Za g):PE X (.Call (.Name x px) [e] [⟨Za key,ed,kpos⟩] pos) (tE X.K g):=by
 unfold maxE at h;split at h
 ·rename_i z;simp only [Ac] at z;obtain⟨⟨⟨k,c⟩,l⟩,f⟩:=z;have i:=Bn k;have b:=Bn c;subst i b;obtain⟨a,j,h⟩:=bS h;obtain⟨n,m,h⟩:=bS h;obtain rfl:=sI h;exact z49 H C j f m l
 ·exact noSome h
end
section
end
section
end
section
variable {K:Zg}
end
noncomputable def znd (x:Zi->Option GE) (X:Cx):Prop:=∀e g,x e=Za g->PE X e (tE X.K g)
section
end
noncomputable def keyF:W->Option Key
 |.int i=>Za (.inl i)
 |.str s=>Za (.inr s)
 |_=>Zb
noncomputable def keysF:List W->Option (List Key)
 |[]=>Za []
 |w::b=>(keyF w).bind λk=>(keysF b).bind λa=>Za (k::a)
noncomputable def keyD:W->Option DKey
 |.tup b=>(keysF b).bind λa=>Za (.inr a)
 |w=>(keyF w).bind λk=>Za (.inl k)
noncomputable def KeyR (F:Hp):DKey->V->Prop
 |.inl k,v=>v=kV k
 |.inr a,v=>∃b,v=.ref b/\F b=Za (.tup (a.map kV))
section
variable {K:Zg}
theorem Rep.keyF (h:Rep K F w v)(e:keyF w=Za k):v=kV k:=by
 cases w with
 |int i=>obtain rfl:=sI e;exact h.isIt
 |str s=>obtain rfl:=sI e;cases h;rfl
 |_=>exact noSome e
theorem Reps.keysF:∀{ws:List W}{vs:List V}{ks:List Key},Reps K F ws vs->keysF ws=Za ks->vs=ks.map kV
 |_,_,_,.nil,e=>by obtain rfl:=sI e;rfl
 | _,_,_,.cons h r,e=>by
  obtain⟨k,b,e⟩:=bS e;obtain⟨ks,a,e⟩:=bS e;obtain rfl:=sI e;rw[h.keyF b,Reps.keysF r a];rfl
theorem Rep.keyD (h:Rep K F w v) (e:keyD w=Za k):KeyR F k v:=by
 have flat:(L2.keyF w).bind (λk=>Za (Sum.inl k:DKey))=Za k->KeyR F k v:=λe=>by
  obtain⟨f,a,e⟩:=bS e;obtain rfl:=sI e;exact h.keyF a
 cases w with
 | tup b =>
  obtain⟨d,a,e⟩:=bS (show (L2.keysF b).bind _=_ from e);obtain rfl:=sI e;cases h with
  |tup c r=>exact⟨_,rfl,by rw[c,r.keysF a]⟩
 |_=>exact flat e
noncomputable def valW (kvs:List (DKey×W)) (k:DKey):Option W:=(kvs.find? λa=>decide (a.1=k)).map (·.2)
theorem zgt (p:DKey×W)(r:List (DKey×W))(k:DKey):valW (p::r) k=if p.1=k then Za p.2 else valW r k:=by
 unfold valW;rw[Ef];by_cases h:p.1=k
 ·rw[Aj h,if_pos h];rfl
 ·rw[At h,if_neg h]
theorem zsn {κ:Type} [DecidableEq κ] (p:κ×V)(r:List (κ×V))(k:κ):valV (p::r) k=if p.1=k then Za p.2 else valV r k:=by
 by_cases h:p.1=k
 ·rw[ziw h,if_pos h]
 ·rw[zi0 h,if_neg h]
theorem zer {κ:Type} [DecidableEq κ] {f:κ->DKey} (c:∀a b,f a=f b->a=b):∀{ks:List κ}{ws:List W}{vs:List V}{k:κ}{w:W},ks.length=vs.length->Reps K F ws vs->valW ((ks.map f).zip ws) (f k)=Za w->∃v,valV (ks.zip vs) k=Za v/\Rep K F w v
 |[],_,_,_,_,_,_,e=>by simp [valW] at e
 |_::_,_,_,_,_,_,.nil,e=>by simp [valW] at e
 | d::ks,j::ws,i::vs,k,w,g,.cons h r,e=>by
  rw[Ax,Dd,zgt] at e;rw[Dd,zsn];by_cases z:d=k
  ·subst z
   rw[if_pos rfl] at e ⊢;obtain rfl:=sI e;exact⟨_,rfl,h⟩
  ·rw [if_neg λq=>z (c _ _ q)] at e
   rw[if_neg z];exact zer c (Nat.succ.inj g) r e
theorem zdf {κ:Type}{f:κ->DKey}{k:DKey} (h:∀a,f a≠k):∀{ks:List κ}{ws:List W},valW ((ks.map f).zip ws) k=Zb
 |[],_=>rfl
 |_::_,[]=>rfl
 | b::ks,w::ws=>by
  rw[Ax,Dd,zgt,if_neg (h b)];exact zdf h
noncomputable def zff {κ:Type} [DecidableEq κ] (ks:List κ) (k:κ):List κ:=if k∈ks then ks else ks++[k]
noncomputable def zfg {κ α:Type} [DecidableEq κ] (ks:List κ) (vs:List α) (k:κ) (v:α):List α:=if k∈ks then List.zipWith (λb a=>if b=k then v else a) ks vs else vs++[v]
theorem zs0 {κ:Type} [DecidableEq κ] {f:κ->DKey}(c:∀a b,f a=f b->a=b)(ks:List κ)(k:κ):zff (ks.map f) (f k)=(zff ks k).map f:=by
 have m:f k∈ks.map f↔k∈ks:=by
  rw[Dw];exact⟨λ⟨a,h,e⟩=>c _ _ e ▸ h,λh=>⟨k,h,rfl⟩⟩
 unfold zff;by_cases h:k∈ks
 ·rw[if_pos h,if_pos (m.mpr h)]
 ·rw[if_neg h,if_neg (mt m.mp h),Bw];rfl
theorem zj9 {κ:Type} [DecidableEq κ] {f:κ->DKey} (g:∀a b,f a=f b->a=b) {k:κ}{w:W}{v:V} (h:Rep K F w v):∀{ks:List κ}{ws:List W}{vs:List V},Reps K F ws vs->Reps K F (List.zipWith (λc d=>if c=f k then w else d) (ks.map f) ws) (List.zipWith (λc d=>if c=k then v else d) ks vs)
 |[],_,_,_=>.nil
 |_::_,_,_,.nil=>.nil
 | c::ks,_,_,.cons q r=>by
  rw[Ax,List.zipWith_cons_cons,List.zipWith_cons_cons];refine .cons ?_ (zj9 g h r);by_cases z:c=k
  ·subst z;rw[if_pos rfl,if_pos rfl];exact h
  ·rw[if_neg z,if_neg λe=>z (g _ _ e)];exact q
theorem zqy {κ:Type} [DecidableEq κ] {f:κ->DKey}(c:∀a b,f a=f b->a=b){k:κ}{w:W}{v:V}(h:Rep K F w v){ks:List κ}{ws:List W}{vs:List V}(r:Reps K F ws vs):Reps K F (zfg (ks.map f) ws (f k) w) (zfg ks vs k v):=by
 have m:f k∈ks.map f↔k∈ks:=by
  rw[Dw];exact⟨λ⟨a,h,e⟩=>c _ _ e ▸ h,λh=>⟨k,h,rfl⟩⟩
 unfold zfg;by_cases z:k∈ks
 ·rw[if_pos z,if_pos (m.mpr z)];exact zj9 c h r
 ·rw[if_neg z,if_neg (mt m.mp z)];exact r.append (.cons h .nil)
theorem z7l {κ α:Type} [DecidableEq κ] {ks:List κ}{vs:List α}(h:ks.length=vs.length)(k:κ)(v:α):(zff ks k).length=(zfg ks vs k v).length:=by
 unfold zff zfg;split
 ·rw[Em,h,Gi]
 ·rw[Be,Be,h];rfl
theorem ztd {κ:Type} [DecidableEq κ] (k:κ) (v:V):∀{ks:List κ}{vs:List V},(ks.zip vs).map (λa=>if a.1=k then (a.1,v) else a)=ks.zip (List.zipWith (λb c=>if b=k then v else c) ks vs)
 |[],_=>rfl
 |_::_,[]=>rfl
 | b::ks,c::vs=>by
  rw[Dd,Ax,ztd k v,List.zipWith_cons_cons,Dd];by_cases z:b=k
  ·rw[if_pos z,if_pos z]
  ·rw[if_neg z,if_neg z]
theorem zsa {κ:Type} [DecidableEq κ] (k:κ):∀{ks:List κ}{vs:List V},ks.length=vs.length->((ks.zip vs).any λb=>decide (b.1=k))=decide (k∈ks)
 |[],_,_=>rfl
 |_::_,[],h=>by simp at h
 | a::ks,v::vs,h=>by
  rw[Dd,Dy,zsa k (Nat.succ.inj h)];by_cases z:a=k
  ·subst z;simp
  ·have : ¬ k=a:=λe=>z e.symm
   simp [z,this]
theorem zx0 {κ:Type} [DecidableEq κ] {ks:List κ}{vs:List V}(h:ks.length=vs.length)(k:κ)(v:V):putK (ks.zip vs) k v=(zff ks k).zip (zfg ks vs k v):=by
 unfold putK zff zfg;rw[zsa k h];by_cases z:k∈ks
 ·rw[if_pos (Aj z),if_pos z,if_pos z,ztd]
 ·rw[if_neg (λq=>z (Ao q)),if_neg z,if_neg z,List.zip_append h];rfl
noncomputable def DctR (K:Zg) (F H:Hp) (a:Zh) (ks:List DKey) (ws:List W):Prop :=
 (∃(j:List Key) (v:List V),ks=j.map .inl/\H a=Za (.dK (j.zip v))/\j.length=v.length/\Reps K F ws v) \/
 ∃(j:List (List Key)) (v:List V),ks=j.map .inr/\H a=Za (.dT (j.zip v))/\j.length=v.length/\Reps K F ws v
theorem OwnR.dct' (h:OwnR K F (.dct ks ws) o)(e:H a=Za o):DctR K F H a ks ws:=by
 generalize b:W.dct ks ws=w at h;cases h with
 |lst r=>cases b
 |dct c r=>cases b;exact .inl ⟨_,_,rfl,e,c,r⟩
 |dctT c r=>cases b;exact .inr ⟨_,_,rfl,e,c,r⟩
theorem RepB.dct (s:Same F H)(r:RepB K F H (.dct ks ws) v):∃a,v=.ref a/\DctR K F H a ks ws:=by
 rcases r with r|⟨a,o,d,e,rfl,h,q⟩
 ·generalize b:W.dct ks ws=w at r;cases r with
  |dct h c r=>cases b;exact⟨_,rfl,.inl ⟨_,_,rfl,s _ _ h,c,r⟩⟩
  |dctT h c r=>cases b;exact⟨_,rfl,.inr ⟨_,_,rfl,s _ _ h,c,r⟩⟩
  |_=>cases b
 ·subst e;exact⟨a,rfl,q.dct' h⟩
noncomputable def DczR (K:Zg) (F H:Hp) (a:Zh) (ks:List DKey) (ws:List W):Prop :=
 (∃(j:List Key) (v:List V),ks=j.map .inl/\(∃o,H a=Za (.frz o (.dK (j.zip v))))/\j.length=v.length/\Reps K F ws v) \/
 ∃(j:List (List Key)) (v:List V),ks=j.map .inr/\(∃o,H a=Za (.frz o (.dT (j.zip v))))/\j.length=v.length/\Reps K F ws v
theorem RepB.dcz (s:Same F H)(r:RepB K F H (.dcz ks ws) v):∃a,v=.ref a/\DczR K F H a ks ws:=by
 rcases r with r|⟨a,o,d,e,rfl,h,q⟩
 ·generalize b:W.dcz ks ws=w at r;cases r with
  |dcz h c r=>cases b;exact⟨_,rfl,.inl ⟨_,_,rfl,⟨_,s _ _ h⟩,c,r⟩⟩
  |dczT h c r=>cases b;exact⟨_,rfl,.inr ⟨_,_,rfl,⟨_,s _ _ h⟩,c,r⟩⟩
  |_=>cases b
 ·subst e;cases q
theorem zil (a b:Key)(h:(Sum.inl a:DKey)=.inl b):a=b:=Sum.inl.inj h
theorem zxl (a b:List Key)(h:(Sum.inr a:DKey)=.inr b):a=b:=Sum.inr.inj h
theorem DctR.get {d:DKey}{y:V}{w:W} (s:Same F H) (h:DctR K F H a ks ws) (i:KeyR F d y) (e:valW (ks.zip ws) d=Za w):∃v,DGet H a y (Za v)/\Rep K F w v:=by
 rcases h with⟨l,n,rfl,h,g,r⟩|⟨l,n,rfl,h,g,r⟩
 ·cases d with
  | inl k =>
   obtain⟨v,f,c⟩:=zer zil g r e;exact⟨v,.inl ⟨_,k,.inl h,i,f.symm⟩,c⟩
  |inr k=>rw[zdf (λa z=>by cases z)] at e;exact nomatch e
 ·cases d with
  |inl k=>rw[zdf (λa z=>by cases z)] at e;exact nomatch e
  | inr k =>
   obtain⟨v,f,c⟩:=zer zxl g r e;obtain⟨b,j,m⟩:=i;exact⟨v,.inr ⟨_,k,b,.inl h,j,s _ _ m,f.symm⟩,c⟩
theorem DczR.get {d:DKey}{y:V}{w:W} (s:Same F H) (h:DczR K F H a ks ws) (i:KeyR F d y) (e:valW (ks.zip ws) d=Za w):∃v,DGet H a y (Za v)/\Rep K F w v:=by
 rcases h with⟨l,n,rfl,h,g,r⟩|⟨l,n,rfl,h,g,r⟩
 ·cases d with
  | inl k =>
   obtain⟨v,f,c⟩:=zer zil g r e;exact⟨v,.inl ⟨_,k,.inr h,i,f.symm⟩,c⟩
  |inr k=>rw[zdf (λa z=>by cases z)] at e;exact nomatch e
 ·cases d with
  |inl k=>rw[zdf (λa z=>by cases z)] at e;exact nomatch e
  | inr k =>
   obtain⟨v,f,c⟩:=zer zxl g r e;obtain⟨b,j,m⟩:=i;exact⟨v,.inr ⟨_,k,b,.inr h,j,s _ _ m,f.symm⟩,c⟩
end
section
end
noncomputable def rIxD:R2:=λx y H Q=>∃a v,x=.ref a/\DGet H a y (Za v)/\Q v H
theorem z3u (i:X.A.units+1<cLine):IxR X rIxD:=by
 intro value b pins s σ H x y v u Q I d c h f;obtain⟨a,z,rfl,g,q⟩:=h;cases d;exact tail_any (zne I g) PySem.F.slot_dict_getitem.lookup (zwe i I g c λw j e r=>⟨z,H,e,r,q⟩) f
noncomputable def oIxD:O2:=λa k=>match a with
 |.dct b c=>(keyD k).bind λd=>(valW (b.zip c) d).bind λw=>#v[w,6]
 |.dcz b c=>(keyD k).bind λd=>(valW (b.zip c) d).bind λw=>#v[w,6]
 |a=>oIx a k
theorem RepB.key {K:Zg}(r:RepB K F H w v)(e:keyD w=Za d):KeyR F d v:=by
 rcases r with r|⟨a,o,b,z,rfl,h,q⟩
 ·exact r.keyD e
 ·subst z;cases q<;>exact noSome e
theorem z44 {K:Zg}:OpS K (λx y H Q=>rIxB K x y H Q\/rIxD x y H Q) oIxD:=λF H l b o m n Q s r c e q=>by
 cases l with
 | dct k j =>
  nofun;obtain⟨d,i,e⟩:=bS (show (keyD b).bind _=_ from e);obtain⟨w,g,e⟩:=bS e;obtain rfl:=sI e;obtain⟨a,rfl,D⟩:=r.dct s;obtain⟨v,f,h⟩:=D.get s (c.key i) g;refine qG ?_;exact .inr ⟨a,v,rfl,f,q _ _ (.val h)⟩
 | dcz k j =>
  nofun;obtain⟨d,i,e⟩:=bS (show (keyD b).bind _=_ from e);obtain⟨w,g,e⟩:=bS e;obtain rfl:=sI e;obtain⟨a,rfl,D⟩:=r.dcz s;obtain⟨v,f,h⟩:=D.get s (c.key i) g;ac_rfl;exact .inr ⟨a,v,rfl,f,q _ _ (.val h)⟩
 |_=>exact .inl (z2h F H _ b o m n Q s r c e q)
section
variable {K:Zg}
theorem Rel.newOwn (R:Rel K F pr en σ H)(b:H p=Zb)(h:OwnR K F w o):Rel K F pr en σ (upd H p o)/\Res K F (upd H p o) pr en σ (w,Zd) (.ref p):=by
 refine⟨R.lay b o,p,o,w,rfl,rfl,upd_same,R.sub.free b,h,λi j e z=>?_,λq d f z=>?_⟩
 ·obtain⟨a,v,l,n,g,c,k,m⟩:=R.own i j e;rw[g] at z;cases z;rw[b] at c;exact noSome c
 ·have:=(R.prt q d f).1;rw[z,b] at this;exact noSome this
end
section
end
section
end
noncomputable def ybc (S:Sx):Zi->Bool
 |.Name x _=>dOn S x
 |_=>Zc
section
theorem ycn (C:CxOk X S d):X.A.units+1<cLine:=by have:=C.sl;symm
noncomputable def zt4 (fE:Sx->Zi->Option GE) (S:Sx):Zi->Option GE
 |.Subscript a s _=>if ybc S a&&zcs s then (za0 fE S a).bind λx=>(za0 fE S s).bind λy=>Za (gOp2 oIxD x y) else Zb
 |_=>Zb
theorem zvq (H:zbb fE)(C:CxOk X S d):znd (zt4 fE S) X:=λe g h=>by
 unfold zt4 at h;split at h
 ·split at h
  ·rename_i z;rw[Ac] at z;obtain⟨x,b,h⟩:=bS h;obtain⟨y,a,h⟩:=bS h;obtain rfl:=sI h;exact (z9k ((zwy.or z2e).or (z3u (ycn C))) (zaf H C b) (zaf H C a) (zh1 z.2)).wk λ_ _ _=>zcz z44
  ·exact noSome h
 ·exact noSome h
end
section
end
section
end
section
variable {K:Zg}
end
section
end
section
end
section
theorem ze6:entryFor table "dict.update.loop" = Za Builtin.«dict.update.loop»:=by kernel_rfl
theorem zco:plainId "dict.update.loop" = Zd:=by decide +kernel
variable {K:Type} [DecidableEq K]
noncomputable def dmF (kf:Nat->K) (v:Nat->Ze):Nat->Nat->List (K×Ze)->List (K×Ze)
 |_,0,kvs=>kvs
 |j,k+1,kvs=>dmF kf v (j+1) k (stored kvs (kf j) (v j))
theorem zjg (h:s.heap.get? a=Za o)(d:o.cls=.type "tuple")(b:∃c,o.data=.seq ps c)(q:Q ps.toList s):wpAny (model prog w) A (Builtin.Dict.pairItems (.ref a)) Q E s:=by
 obtain⟨c,b⟩:=b;refine Aa (wpAny_typeOf_ref h ?_);rw[d];refine Aa (Co h b (Ae ?_));exact q
variable {fp wr:List Zh}{St:Nat->Heap->Prop}
end
section
variable {prog:Program}{w:World}{A:Around}{s:Zf}{TI TO:Zh}
theorem z72 {K:Type} [DecidableEq K] {knd:KeyKind prog w K}{R:Result->Zf->Prop} (S:A.handled=Zb) (D:ZipApart z TI TO i1 i2 l1 l2) (C:Zh) (nC:C ∉ [z,TI,TO,i1,i2,l1,l2]) (kf:Nat->K) (M:Nat->Ze)
  (X:∀i x,xs[i]?=Za x->knd.is (kf i) x=Zd) (P:∀i y,ys[i]?=Za y->M i=y) (e:n=min xs.size ys.size) :
  ∀(k j:Nat) (s:Zf) (kvs:List (K×Ze)) (i:Int) (t:Tok),n=j+k->ZU s.heap z TI TO i1 i2 l1 l2 C xs ys j->Heap.DictOf knd s.heap C kvs->kvs.length+k<=sizeLine ->
   (∀h' tk,(∀a o,a ∉ [z,TO,i1,i2]->a≠C->s.heap.get? a=Za o->h'.get? a=Za o)->Heap.DictOf knd h' C (dmF kf M j k kvs)->R (.ok (.ret .none)) { s with heap:=h',toks:=tk })->codeAny (model prog w) A (.builtin "dict.update.loop" ⟨[.ref C,.ref z,.int i t,.none],[]⟩) R s:=by
 have d:C ∉ [z,TO,i1,i2]:=λh=>nC (by simp only [Ak,Bb,Dk] at h ⊢;rcases h with h|h|h|h<;>simp [h]);intro k
 induction k with
 | zero =>
  intro j s kvs i t Z F m W hR;refine Dj ze6 ?_;refine Aa (yal S D F (by
   by_cases c:xs.size<=j
   ·exact .inl (Dn c)
   ·exact .inr (Dn #v[])) λh' f=>?_)
  refine Aa (Gr (show Builtin.Dict.addKeywords C []=pure () from rfl) (Ae ?_));obtain⟨o,q,l,g,p⟩:=m;exact hR h' s.toks (λa o Q _ e=>f a o Q e) ⟨o,q,l,f C o d g,p⟩
 | succ k Y =>
  intro j s kvs i t Z F m W hR;refine Dj ze6 ?_;rw [Around.under_plainId zco _];show wpAny _ A.in1 (pyNext (.ref z)>>=_) _ _ s;have V:C<s.heap.objs.size:=by
   obtain⟨o,q,l,g,p⟩:=m;exact Am g
  have H:xs[j]?=Za xs[j]:=Fy (by symm);have N:ys[j]?=Za ys[j]:=Fy (by symm);refine Aa (z6q D F V H N λT a E u la f=>?_);have G:Heap.DictOf knd T C kvs:=by
   obtain⟨o,q,l,g,p⟩:=m;exact⟨o,q,l,f C o d g,p⟩
  refine Aa (Bh (Aa (Gw (zjg u rfl ⟨_,rfl⟩ ?_))));refine Bh (wpAny_dictSet_pairs (X j _ H) G (λh2 B I=>?_) #v[]);refine Ae ⟨Ft zco _,Y (j+1) _ _ _ _ #v[] ?_ B ?_ λh' r U L=>?_⟩
  ·exact E.frame nC λc o n e=>(I.2 c n).trans e
  ·have:=PySem.stored_length_le kvs (kf j) ys[j]
   symm
  ·refine hR h' r (λb o O J e=>U b o O J ((I.2 b J).trans (f b o O e))) ?_
   rw[<-P j _ N] at L;exact L
end
section
end
section
theorem z25 {K:Type} [DecidableEq K] {kf:Nat->K}{v:Nat->Ze}:∀(r:List (K×Ze)) (j:Nat) (kvs:List (K×Ze)),(∀i p,r[i]?=Za p->kf (j+i)=p.1/\v (j+i)=p.2)->dmF kf v j r.length kvs=merged kvs r
 |[],_,_,_=>rfl
 | p::r,j,kvs,h=>by
  obtain ⟨b,e⟩:=h 0 p rfl;show dmF kf v (j+1) r.length (stored kvs (kf (j+0)) (v (j+0)))=_;rw [b,e,z25 r (j+1) _ λi q a=>by
   have:=h (i+1) q a
   rwa [show j+(i+1)=j+1+i by symm] at this]
  rfl
end
noncomputable def updW:List (Key×W)->List DKey->List W->List DKey×List W
 |[],k,w=>(k,w)
 |p::a,k,w=>updW a (zff k (.inl p.1)) (zfg k w (.inl p.1) p.2)
section
variable {K:Zg}
theorem zt7:∀{a:List (Key×W)}{more:List (Key×V)}{js:List Key}{vs:List V}{ws:List W},Paired (λ(p:Key×W) (q:Key×V)=>p.1=q.1/\Rep K F p.2 q.2) a more->js.length=vs.length->Reps K F ws vs->OwnR K F (.dct (updW a (js.map .inl) ws).1 (updW a (js.map .inl) ws).2) (.dK (zif (js.zip vs) more))
 |_,_,_,_,_,.nil,b,r=>.dct b r
 | p::a,q::more,js,vs,ws,.cons ⟨e,c⟩ h,b,r=>by
  show OwnR K F (.dct (updW a (zff (js.map (Sum.inl:Key->DKey)) (.inl p.1)) (zfg (js.map (Sum.inl:Key->DKey)) ws (.inl p.1) p.2)).1 (updW a (zff (js.map (Sum.inl:Key->DKey)) (.inl p.1)) (zfg (js.map (Sum.inl:Key->DKey)) ws (.inl p.1) p.2)).2) (.dK (zif (putK (js.zip vs) q.1 q.2) more));rw[zs0 zil,zx0 b,<-e];exact zt7 h (z7l b _ _) (zqy zil c r)
end
section
end
section
end
section
end
section
end
section
end
section
end
section
end
section
end
section
end
theorem ybq (v:Ze):bindSpecial (.builtin "zip.__getattribute__") v=pure (.builtin "zip.__getattribute__",[v]):=by
 rfl
theorem zq5:typeLookup (Ze.type "zip") (Str.ofString "keys")=pure Zb:=am_miss_of_fast #v[0,0,7]
theorem zgh:entryFor table "zip.__getattribute__" = Za Builtin.«object.__getattribute__» :=
 entryFor_alias (id' := "object.__getattribute__") (by kernel_rfl) #v[0,0,7] #v[0,0,7] (by kernel_rfl)
set_option maxHeartbeats 800000 in
theorem zhk (a:Zh) (fs:Array Ze) (e:Array (Option Ze)) (name:Str) (u:Tok) (c:typeLookup (.type "zip") name=pure Zb) (h:(["__module__","__name__","__qualname__","__doc__","__annotations__"]:List Str).contains name=Zc) (d:name.length+100<=sizeLine:=by size_fits) :
  Meets (Builtin.«object.__getattribute__» ⟨[.ref a,.str name u],[]⟩) (λA R s=>s.heap.get? a=Za { cls:=.type "zip",dict:=Zb,data:=.fields fs,slots:=e }/\raisesAttr (.ref a) name A R s) :=
 Meets.of_wp λprog w A R s b=>by
  obtain⟨f,b⟩:=b
  repeat (any_goals (first|assumption|wp_step))
  simp only [h]
  repeat (any_goals (first|assumption|wp_step))
  exact wpAny_raiseAttrError b.1 b.2 (attrMsg_fits #v[0,0,7] d)
section
theorem zl9 (h:s.heap.get? l=Za { cls:=.type "zip",dict:=Zb,data:=.fields fs,slots:=osl }) (a:A.handled=Zb)
  (q:∀h' tk,(∀b o,s.heap.get? b=Za o->h'.get? b=Za o)->Q Zb { s with heap:=h',toks:=tk }):wpAny (model prog w) A (getAttr? (.ref l) (Str.ofString "keys")) Q E s:=by
 refine Aa (wpAny_mkText ?_);refine Aa (Et ?_);refine Bh (Aa (wpAny_typeOf_ref h ?_));refine Aa (Ae ?_);refine Aa (Gr (show hookBefore (.type "zip")=pure Zb from rfl) ?_);refine Aa (Et (Bh ?_));show wpAny _ A (boundAndCalled (.builtin "zip.__getattribute__") (.ref l) _) _ _ _;unfold boundAndCalled;refine Aa (Ae ?_);refine Hr PySem.F.slot_zip_getattribute ⟨_,h,rfl⟩ zgh (PySem.F.args_zip_getattribute_2 _ _) (zhk l fs osl (Str.ofString "keys") _ zq5 #v[0,0,7]) ⟨h,a,λh' tk e n=>?_⟩;obtain⟨t,u,c⟩:=n.there;have ty:Zf.TypeIs { s with heap:=h',toks:=tk } (.ref e) "AttributeError" := ⟨_,c,rfl⟩;refine Aa (Ey ty sub_AttributeError ?_);refine Aa (Ae ?_);refine Aa (wpAny_throw ?_);refine Aa (Ey ty sub_AttributeError ?_);rw[if_pos rfl];exact Ae (q h' tk n.keeps)
theorem zzc {K:Type} [DecidableEq K] {knd:KeyKind prog w K}{TI TO:Zh}{Q:Ze->Zf->Prop} (D:ZipApart z TI TO i1 i2 l1 l2) (g:IsZip s.heap z TI TO .none) (p:IsPair s.heap TI (.ref i1) (.ref i2)) (go:IsPair s.heap TO a b)
  (m:Src s.heap i1 l1 0 xs) (j:Src s.heap i2 l2 0 ys) (F:A.handled=Zb) (kf:Nat->K) (l:Nat->Ze) (N:∀i x,xs[i]?=Za x->knd.is (kf i) x=Zd) (G:∀i y,ys[i]?=Za y->l i=y) (T:min xs.size ys.size<=sizeLine)
  (q:∀h' tk,(∀a o,a ∉ [z,TO,i1,i2]->s.heap.get? a=Za o->h'.get? a=Za o)->Heap.DictOf knd h' s.heap.objs.size (dmF kf l 0 (min xs.size ys.size) [])->Q (.ref s.heap.objs.size) { s with heap:=h',toks:=tk }):wpAny (model prog w) A (call (.type "dict") [.ref z]) Q E s:=by
 have lt:∀{c o},s.heap.get? c=Za o->s.heap.objs.size≠c:=λe=>Fu (Am e);obtain⟨R,u,_⟩:=m.iter;obtain⟨P,r,_⟩:=j.iter;obtain⟨O,M⟩:=m.src;obtain⟨S,H⟩:=j.src;refine callType_codes (Q₁:=λobj s₁=>obj=.ref s.heap.objs.size/\s₁={ s with heap:=s.heap.push { cls:=.type "dict",data:=.dict #[] } }) PySem.F.kt_called_dict (PySem.F.kt_typeCall_dict_1 _) PySem.F.entry_dict_init (kt_code_dict_new _ ⟨rfl,rfl⟩) λobj s₁ ⟨u,r⟩=>?_;subst u r;have h:(s.heap.push { cls:=.type "dict",data:=.dict #[] }).get? s.heap.objs.size=Za { cls:=.type "dict",data:=.dict #[] }:=An _ rfl;have f:∀b d,s.heap.get? b=Za d->(s.heap.push { cls:=.type "dict",data:=.dict #[] }).get? b=Za d:=λb d e=>Ab _ e;refine⟨⟨_,h,rfl⟩,PySem.F.args_dict_init_2 _ _,?_⟩;refine Aa (Aa (wpAny_notOrdered_dict ⟨_,h,rfl⟩ ?_));refine Aa (Ae (Ae ?_));refine Aa (wpAny_typeOf_ref (f z _ g) ?_);refine Aa (zl9 (f z _ g) F λB tk C=>?_);refine Aa (Cd ?_);have k:∀b d,s.heap.get? b=Za d->B.get? b=Za d:=λb d e=>C b d (f b d e);refine Aa (wpAny_pyIter_zip (k _ _ g) (Ae ⟨Ft zco _,?_⟩));refine z72 (A:=A.in1) (knd:=knd) (show A.in1.handled=Zb from F) D s.heap.objs.size ?_ kf l N G rfl (min xs.size ys.size) 0 { s with heap:=B,toks:=tk } [] 0 0 #v[] ⟨k _ _ p,m.at (λo=>k _ o) λo=>k _ o,j.at (λo=>k _ o) λo=>k _ o,.inl ⟨k _ _ g,a,b,k _ _ go⟩⟩ ⟨{ cls:=.type "dict",data:=.dict #[] },#[],0,C _ _ h,⟨rfl,rfl,rfl⟩,rfl,(λe J=>absurd J (by simp)),.nil,Gm⟩ (by show 0+_<=_;symm) λh' t L I=>?_
 ·simp only [Ak,Aw,Bb,Dk,not_or];exact⟨lt g,lt p,lt go,lt (by assumption),lt (by assumption),lt M,lt H⟩
 ·exact⟨rfl,q h' t (λa d n e=>L a d n (Ba (Am e)) (k a d e)) I⟩
noncomputable def tDZ (K:Zg) (t:TA):TE:=λσ H Q=>t σ H λv c=>∃a b e d y,∃k:List Key,v=[.ref a,.ref b]/\SqK K e c a (k.map kV)/\SqK K d c b y/\k.length=y.length/\k.length<=sizeLine/\∀p,c p=Zb->Q (.ref p) (upd c p (.dK (zif [] (k.zip y))))
theorem z12:∀{ks:List Key}{ys:List V}{i:List Ze},Vals ys i->KV (ks.zip ys) (ks.zip i)
 |[],_,_,_=>.nil
 |_::_,[],_,r=>by cases r;exact .nil
 | k::ks,y::ys,_,r=>by
  cases r with
  |cons h r=>exact .cons ⟨rfl,h⟩ (z12 r)
theorem z4w (hc:X.calm=Zd) (gd:Gl X "dict") (md:X.mg "dict" = Zb) (hg:Gl X "zip") (hm:X.mg "zip" = Zb) (hl:PA X [l,m] tl) (hs:starEach [l,m] X.env=[(Zc,eval l X.env),(Zc,eval m X.env)]) (F:starEach [m] X.env=[(Zc,eval m X.env)]) :
  PE X (.Call (.Name "dict" p0) [.Call (.Name "zip" p) [l,m] [] pos] [] pos0) (tDZ X.K tl):=by
 intro pins s σ H Q I h;refine Call_ (zc5 I gd md PyProof.Rows.boot_dict (Bt (Calls.spliced_cons ?_) rfl rfl));refine Call_ (zc5 I hg hm zp0 (Bt (thn (hl pos pins s σ H _ I h) λus j ⟨vs,H1,w,r1,q1⟩=>?_) (by rw[hs,F]) (by rw[F];rfl)));nofun;obtain⟨a,b,M,N,U,f,e,q2,q3,el,hz,q⟩:=q1;ac_rfl;subst e;cases r1 with
 | cons r P =>
  cases P with
  | cons r' P =>
   cases P;cases r;cases r';refine aG λ_ qG=>?_;obtain ⟨E,A,g⟩:=w.sqK q2;obtain ⟨its',B,n⟩:=w.sqK q3;refine qG ?_;clear qG;refine zpy g n λt g1 g2 g3 g4 g5 d=>Calls.spliced_nil ?_;have J:a<j.heap.objs.size:=by
    cases M with
    |true=>obtain⟨o,e,_⟩:=g;exact Am e
    |false=>obtain⟨o,e,_⟩:=g;exact Am e
   have K:b<j.heap.objs.size:=by
    cases N with
    |true=>obtain⟨o,e,_⟩:=n;exact Am e
    |false=>obtain⟨o,e,_⟩:=n;exact Am e
   have D:ZipApart (j.heap.objs.size+4) (j.heap.objs.size+2) (j.heap.objs.size+3) j.heap.objs.size (j.heap.objs.size+1) a b:=by
    have d:∀{c:Zh} (k:Nat),c<j.heap.objs.size->c≠j.heap.objs.size+k:=λk h=>Ba (Bc h (Cm _ k));refine⟨?_,?_,?_,?_,?_,?_,?_,?_,?_,?_,d 4 J,d 3 J,d 0 J,d 1 J,d 4 K,d 3 K,d 0 K,d 1 K⟩<;>(intro z;have z':(_:Nat)=_:=z;symm)
   have T:=A.length;have l2:=B.length;rw [Af] at T;have S:=w.kept (t':=j.toks) d;have C:SrcO t M a E.toArray:=by
    cases M with
    |true=>exact Heap.IsList.at g λo e=>d _ o e
    |false=>obtain⟨o,e,r⟩:=g;exact⟨o,d _ _ e,r⟩
   have G:SrcO t N b its'.toArray:=by
    cases N with
    |true=>exact Heap.IsList.at n λo e=>d _ o e
    |false=>obtain⟨o,e,r⟩:=n;exact⟨o,d _ _ e,r⟩
   have Y:min E.toArray.size its'.toArray.size=(f.zip its').length:=by
    rw[Hb,Ai,Ai];symm
   refine zzc (knd:=zbl X.prog X.w) D g1 g2 g3 (z2r C g4) (z2r G g5) (S.ok.hd hc) (λi=>f.getD i (.inl 0)) (λi=>its'.getD i .none) (λi x O=>?_) (λi y Z=>?_) (by rw[Y,Hb];symm) λh'' tk k2 W=>?_
   ·rw [List.getElem?_toArray] at O
    have V:i<f.length:=by rw[T];exact (Ah.mp O).1
    obtain⟨u,hu,ru⟩:=A.get (show (f.map kV)[i]?=Za (kV f[i]) from by rw[Ar,Ad V];rfl);rw[O] at hu;obtain rfl:=sI hu;rw[Bi,Ad V];exact z4u ru
   ·rw [List.getElem?_toArray] at Z
    rw[Bi,Z];rfl
   ·have get:∀i p,(f.zip its')[i]?=Za p->f.getD (0+i) (.inl 0)=p.1/\its'.getD (0+i) .none=p.2:=λi p hp=>by
     obtain⟨e1,e2⟩:=Hm.mp hp;rw[Ct,Bi,Bi,e1,e2];exact⟨rfl,rfl⟩
    rw [Y,z25 (f.zip its') 0 [] get] at W;have sz:j.heap.objs.size+4<t.objs.size:=Am g1;have big:=S.big;have L:(t.objs.size==sysModules)=Zc:=by
     cases e:t.objs.size==sysModules with
     |false=>rfl
     |true=>have:=Bn e;rw[this] at big;exact absurd big (Bp _)
    have kz:=z12 (ks:=f) B;have lz:(f.zip U).length<=sizeLine:=by rw[Hb];symm
    have fr:H1 t.objs.size=Zb:=w.hok.fresh #v[];refine⟨.ref t.objs.size,_,w.laid (t':=tk) (λc o e=>k2 c o (λR=>?_) (d c o e)) #v[] (z8x (by have:=zem (f.zip U) [];rw[Ez] at this;symm) L (kz.merge .nil) W),rfl,q _ fr⟩;have:=Am e;simp only [Ak,Aw,Bb,Dk] at R;rcases R with rfl|rfl|rfl|rfl
    ·exact absurd this (Nat.not_lt.mpr (Cm _ 4))
    ·exact absurd this (Nat.not_lt.mpr (Cm _ 3))
    ·exact absurd this (Bp _)
    ·exact absurd this (Nat.not_lt.mpr (Cm _ 1))
end
noncomputable def gDZ (g g':GE):GE:=λe=>(g e).bind λp=>(g' p.1).bind λq=>(seqW p.2.1).bind λw=>(seqW q.2.1).bind λu=>(keysF w).bind λk=>if k.length=u.length/\k.length<=sizeLine then Za (q.1,(.dct (updW (k.zip u) [] []).1 (updW (k.zip u) [] []).2,Zd)) else Zb
section
variable {K:Zg}
theorem zk4 {F:Hp}:∀{ks:List Key}{u:List W}{vs:List V},Reps K F u vs->Paired (λ(p:Key×W) (q:Key×V)=>p.1=q.1/\Rep K F p.2 q.2) (ks.zip u) (ks.zip vs)
 |[],_,_,_=>.nil
 |_::_,_,_,.nil=>.nil
 |_::_,_,_,.cons h r=>.cons ⟨rfl,h⟩ (zk4 r)
theorem z7e (h:tE K (gDZ g g') σ H Q):tDZ K (ze8 (tE K g) (ze8 (tE K g') tNil)) σ H Q:=by
 nofun;obtain⟨F,e,t,S,r,Re,h,q⟩:=h;obtain⟨⟨i,C⟩,J,h⟩:=bS h;obtain⟨⟨x,o⟩,m,h⟩:=bS h;obtain⟨ws,P,h⟩:=bS h;obtain⟨us,d,h⟩:=bS h;obtain⟨X,V,h⟩:=bS h;refine qG ?_;split at h
 ·rename_i f;cases h;refine⟨F,e,t,i,C,Re,J,λF1 H1 v M E z=>?_⟩;nofun;obtain⟨L,A,R2,y⟩:=z.freeze E;refine qG ?_;refine⟨L,e,i,x,o,R2,m,λF3 H3 v' k n l=>?_⟩;nofun;obtain⟨F4,s,R,U⟩:=l.freeze n;obtain⟨a,N,vs,G,I,w⟩:=zbw (y.mono (k.trans s)) P;obtain⟨b,O,c,W,u,j⟩:=zbw U d;have Z:=w.keysF V;ac_rfl;subst G W Z;have T:=j.length;refine⟨a,b,N,O,c,X,rfl,I.mono R.sub,u.mono R.sub,f.1.trans T,f.2,λp D=>?_⟩;obtain⟨Y,B⟩:=R.newOwn D (zt7 (js:=[]) (zk4 j) rfl .nil);exact q F4 _ _ (M.trans (A.trans (k.trans s))) Y B
 ·exact noSome h
noncomputable def z7a (fE:Sx->Zi->Option GE) (S:Sx):Zi->Option GE
 |.Call (.Name x _) [.Call (.Name y _) [l,m] [] _] [] _=>if x==("dict" : Str)&&y==("zip" : Str)&&S.bl x&&S.bl y&&zag l&&zag m then (fE S l).bind λg=>(fE S m).bind λa=>Za (gDZ g a) else Zb
 |_=>Zb
theorem z0r (H:zbb fE)(C:CxOk X S d):znd (z7a fE S) X:=λe g h=>by
 unfold z7a at h;split at h
 ·split at h
  ·rename_i z;simp only [Ac] at z;obtain⟨⟨⟨⟨⟨q,k⟩,r⟩,l⟩,f⟩,b⟩:=z;have o:=Bn q;have i:=Bn k;subst o i;obtain⟨t,c,h⟩:=bS h;obtain⟨s,a,h⟩:=bS h;obtain rfl:=sI h;obtain⟨p,n⟩:=zga C r;obtain⟨j,m⟩:=zga C l;exact (z4w C.calm p n j m (pac (H X S d C _ _ c) (pac (H X S d C _ _ a) zda b) f) (by rw[zae f,zae b];rfl) (zae b)).wk λ_ _ _=>z7e
  ·exact noSome h
 ·exact noSome h
end
section
end
section
variable {K:Zg}
end
section
variable {K:Zg}
end
section
end
noncomputable def chW (x:Str):List W:=x.cps.toList.map λc=>W.str ⟨#[c]⟩
noncomputable def seqS:W->Option (List W)
 |.str x=>Za (chW x)
 |w=>seqW w
section
end
section
variable {K:Zg}{F:Hp}
end
section
end
noncomputable def ycz (g:GE):GL:=λe=>(g e).bind λp=>(seqS p.2.1).bind λw=>Za (p.1,w)
noncomputable def z93 (g:GE):GL:=λe=>(g e).bind λp=>match p.2.1 with
 |.str x=>Za (p.1,zfu (chW x) 0)
 |_=>Zb
section
variable {K:Zg}
end
noncomputable def tN (S:Sx):Zi->Bool
 |.Name x _=>S.bn.contains ("t "++x:Str)
 |.Call (.Name x _) _ _ _=>S.bn.contains ("t "++x:Str)
 |_=>Zc
noncomputable def ydi (f:Sx->Zi->Option GE) (S:Sx) (t e:Zi):Option GL:=match e with
 |.Name x p=>if tN S (.Name x p) then (f S (.Name x p)).bind λg=>Za (ycz g) else Zb
 | .Call (.Name x _) [.Name y q] [] _=>(match t with
  |.Tuple _ _ _=>if x==("enumerate" : Str)&&S.bl x&&tN S (.Name y q) then (f S (.Name y q)).bind λg=>Za (z93 g) else Zb
  |_=>Zb)
 |_=>Zb
section
end
noncomputable def oIxS:O2
 |.str x,.int i=>if x.length<=sizeLine then (atI x.cps.toList i).bind λc=>Za (.str ⟨#[c]⟩,Zc) else Zb
 |_,_=>Zb
section
variable {K:Zg}
end
section
variable {K:Zg}
end
section
open PySem.AutoSeq1 (wpAny_loadPart')
set_option maxHeartbeats 1000000 in
theorem zuh (l b c c':Zh) (i j:Int) (t u:Tok) (n D:Nat) (E e:Option Zh) (F o:Array (Option Ze)) (k m:List Int) (a its':List Ze) (y:IntsAre a k) (p:IntsAre its' m) :
  Meets (Builtin.«tuple.__lt__» ⟨[.ref l,.ref b],[]⟩)
   (λA R s=>s.heap.get? l=Za { cls:=.type "tuple",dict:=E,data:=.seq #[.int i t,.ref c] n,slots:=F }/\s.heap.get? b=Za { cls:=.type "tuple",dict:=e,data:=.seq #[.int j u,.ref c'] D,slots:=o }/\A.units+5<cLine/\IsTup s.heap c a.toArray/\IsTup s.heap c' its'.toArray /\
    R (.ok (.ret (.bool (lexI (i::k) (j::m))))) s) :=
 .of_wp λprog w A R s h=>by
  obtain⟨H,g,d,J,I⟩:=s;obtain⟨C,B,K,x,r,h⟩:=h;have G:=AutoSeq1.sub_tuple_tuple;have f:A.in1.units+1<cLine:=by show A.units+1+1<cLine;symm
  wp_walk using Cp C,Cp B
  refine show wpAny _ _ (eqBool (.int i t) (.int j u)) _ _ _ from wpAny_eqBool_int ?_
  unfold lexI at h;by_cases q:i=j
  ·rw[if_pos q] at h;rw[show (i==j)=Zd by simpa using q]
   wp_walk using zp2 f x y r p
   by_cases z:k=m
   ·rw[Aj z]
    wp_walk
    refine⟨_,rfl,?_⟩;rw[z,zbq] at h;simpa [Builtin.Tuple.tupleCompareSizes] using h
   ·rw[At z];simp only [Fo,Gf];refine Aa (Cd ?_);refine Aa (show wpAny _ _ (compareOp .Lt _ _) _ _ _ from zqo #v[] x y r p ?_)
    wp_walk
    exact⟨_,rfl,by simpa using h⟩
  ·rw[if_neg q] at h;rw[show (i==j)=Zc by simpa using q];simp only [Fo,Gf];refine Aa (Cd ?_);refine Aa (show wpAny _ _ (compareOp .Lt _ _) _ _ _ from PyProof.Rows.lt_int ?_)
   wp_walk
   exact⟨_,rfl,by simpa using h⟩
end
noncomputable def rLtP:R2:=λx y H Q=>∃a b c d i j n m,x=.ref a/\y=.ref b/\H a=Za (.tup [.int i,.ref c])/\H b=Za (.tup [.int j,.ref d])/\H c=Za (.tup (n.map V.int))/\H d=Za (.tup (m.map V.int))/\Q (.bl (lexI (i::n) (j::m))) H
theorem z81 (hu:X.A.units+6<cLine):OpR X (compareOp .Lt) rLtP:=by
 intro pins s σ H x y v u Q I K J h;obtain⟨a,b,c,U,i,j,E,C,rfl,rfl,ha,G,g,m,q⟩:=h;cases K;cases J;obtain⟨its,S,L,_⟩:=I.tuple (.inl (.inl ha));obtain⟨A,O,Y,_⟩:=I.tuple (.inl (.inl G));obtain⟨l,P,V,_⟩:=I.tuple (.inl (.inl g));obtain⟨w,N,t4,_⟩:=I.tuple (.inl (.inl m));obtain⟨v1,v2,rfl,T,R⟩:=S.two;obtain⟨w1,w2,rfl,M,e4⟩:=O.two;obtain⟨p,rfl⟩:=T;obtain⟨t,rfl⟩:=M;cases R;cases e4;obtain⟨⟨cls,Z,data,sl⟩,z,g,n,B⟩:=id L;obtain⟨⟨D,k,o,r⟩,d,f,W,e⟩:=id Y;simp only at g B f e;subst g B f e;exact richCompare_meets_room (op:=.Lt) ⟨_,z,rfl⟩ ⟨_,d,rfl⟩ F.slot_tuple_lt F.entry_tuple_lt (F.args_tuple_lt_2 _ _) (zuh a b c U i j p t n W Z k sl r E C l w (zch P) (zch N))
  ⟨z,d,(show X.A.units+5<cLine by symm),V,t4,show Ze.bool (lexI (i::E) (j::C))≠Ze.notImplemented/\_ from ⟨(λx=>nomatch x),⟨.bl _,H,I,rfl,q⟩⟩⟩ #v[]
noncomputable def keyP:W->Option (List Int)
 |.tup [.int i,.tup u]=>(zbs u).bind λn=>Za (i::n)
 |_=>Zb
noncomputable def oLtX:O2:=λa b=>match a,b with
 |.int i,.int j=>Za (.bl (decide (i<j)),Zc)
 |a,b=>(keyP a).bind λk=>(keyP b).bind λc=>Za (.bl (lexI k c),Zc)
theorem zvz {K:Zg} (s:Same F H) (r:RepB K F H w v) (e:keyP w=Za k):∃a c i n,k=i::n/\v=.ref a/\H a=Za (.tup [.int i,.ref c])/\H c=Za (.tup (n.map V.int)):=by
 unfold keyP at e;split at e
 ·rename_i i o
  obtain⟨n,j,e⟩:=bS e;obtain rfl:=sI e;obtain⟨a,x,f,m,z,p⟩:=r.tup s;obtain⟨y,g,rfl,d,p⟩:=p.uncons;obtain⟨t,u,rfl,q,l⟩:=p.uncons;cases l;cases d;cases q with
  | tup h b =>
   rw[zbk j] at b;rw[b.ints] at h;exact⟨a,_,i,n,rfl,f,m,s _ _ h⟩
 ·exact noSome e
theorem zs5 {K:Zg}:OpS K (λx y H Q=>(∃i j,x=.int i/\y=.int j/\Q (.bl (decide (i<j))) H)\/rLtP x y H Q) oLtX:=λF H w u B v z Q s r d e q=>by
 unfold oLtX at e;split at e
 ·obtain rfl:=sI e;exact .inl ⟨_,_,r.int,d.int,q _ _ (.val (.bl _))⟩
 ·obtain⟨k,t,e⟩:=bS e;obtain⟨A,h,e⟩:=bS e;obtain rfl:=sI e;obtain⟨a,c,i,n,rfl,rfl,p,l⟩:=zvz s r t;obtain⟨b,m,j,o,rfl,rfl,f,g⟩:=zvz s d h;exact .inr ⟨a,b,c,m,i,j,n,o,rfl,rfl,p,f,l,g,q _ _ (.val (.bl _))⟩
section
noncomputable def cmpL (f:Sx->Zi->Option GE) (S:Sx) (a:Zi) (ops:List CmpOp) (c:List Zi):Option GE:=match ops,c with
 |[.Lt],[b]=>if S.bn.contains ("lt" : Str) then (za0 f S a).bind λx=>(za0 f S b).bind λy=>Za (gOp2 oLtX x y) else Zb
 |_,_=>Zb
theorem z5o (c:zbb fE)(C:CxOk X S d)(h:cmpL fE S a ops cs=Za g):PE X (.Compare a ops cs pos) (tE X.K g)/\PT X (.Compare a ops cs pos) (tT X.K (zah g)):=by
 unfold cmpL at h;split at h
 ·rename_i b;split at h
  ·obtain⟨x,k,h⟩:=bS h;obtain⟨y,f,h⟩:=bS h;obtain rfl:=sI h;have e:OpR X (compareOp .Lt) (λx y H Q=>(∃i j,x=.int i/\y=.int j/\Q (.bl (decide (i<j))) H)\/rLtP x y H Q):=.or z8t (z81 (by have:=C.sl;symm));exact⟨(zuv e (zaf c C k) (zaf c C f) (z1z b)).wk λ_ _ _=>zcz zs5,(zub e (zaf c C k) (zaf c C f) (z1z b)).wk λ_ _ _=>zde λ_ _ _=>zcz zs5⟩
  ·exact noSome h
 ·exact noSome h
noncomputable def cmpZ (f:Sx->Zi->Option GE) (S:Sx) (a:Zi) (ops:List CmpOp) (c:List Zi):Option GE:=match cmpL f S a ops c with
 |some g=>Za g
 |none=>cmpE f S a ops c
theorem z7j (H:zbb fE)(C:CxOk X S d)(h:cmpZ fE S a ops cs=Za g):PE X (.Compare a ops cs pos) (tE X.K g)/\PT X (.Compare a ops cs pos) (tT X.K (zah g)):=by
 unfold cmpZ at h;split at h
 ·rename_i q;obtain rfl:=sI h;exact z5o H C q
 ·exact z5v H C h
end
set_option maxHeartbeats 1000000
section
variable {prog:Program}{w:World}{A:Around}{E:Ze->Zf->Prop}{s:Zf}
end
section
end
section
end
theorem z71:bootBuiltins "set" = Za (.type "set"):=by decide +kernel
section
end
namespace SetT
theorem zpo {α:Type}(xs:Array α)(p:Nat)(x:α):(SetTable.insertAt xs p x).toList=xs.toList.take p++[x]++xs.toList.drop p:=by
 unfold SetTable.insertAt;simp;exact Ev (by rw[Gu];exact Ag _)
noncomputable abbrev HT:=Array Int×SetTable
noncomputable def dmy (H:Array Int):Array (Int×Ze):=H.map λx=>(x,Ze.none)
theorem dmy_fst (H:Array Int):(dmy H).map (·.1)=H:=by
 unfold dmy;rw[Array.map_map];exact Array.map_id'' (λ_=>rfl) H
noncomputable def addT (p:HT) (h:Int):HT :=
 let r:=layNew p.2 (dmy p.1) h .none
 if !r.2.2.1&&r.2.1.tooFull then ((relayAll r.2.1 r.1 (SetTable.grown r.1.size)).1.map (·.1),(relayAll r.2.1 r.1 (SetTable.grown r.1.size)).2.1) else (r.1.map (·.1),r.2.1)
theorem zsp {α β:Type}(f:α->β)(xs:Array α)(p:Nat)(x:α):(SetTable.insertAt xs p x).map f=SetTable.insertAt (xs.map f) p (f x):=by
 apply Array.toList_inj.mp;rw[Gv,zpo,zpo];simp
theorem size_fst {es e:Array (Int×Ze)}(h:es.map (·.1)=e.map (·.1)):es.size=e.size:=by
 have:=congrArg Array.size h;rw[Array.size_map,Array.size_map] at this;exact this
theorem lay_sim (h:es.map (·.1)=es0.map (·.1)) (x:Int) (v v0:Ze):(layNew t es x v).1.map (·.1)=(layNew t es0 x v0).1.map (·.1)/\(layNew t es x v).2=(layNew t es0 x v0).2:=by
 have sz:=size_fst h;unfold layNew;cases q:t.freeSlot x with
 | none =>
  refine⟨by rw[Array.map_push,Array.map_push,h],by rw[sz]⟩
 | some p =>
  obtain⟨s,b⟩:=p;dsimp only;have e:(SetTable.insertAt es (t.put s).2 (x,v)).map (·.1)=(SetTable.insertAt es0 (t.put s).2 (x,v0)).map (·.1):=by rw[zsp,zsp,h]
  refine⟨e,?_⟩;rw[size_fst e]
theorem z28 {es e:Array (Int×Ze)}(h:es.map (·.1)=e.map (·.1))(i:Nat):(es[i]?).map (·.1)=(e[i]?).map (·.1):=by
 rw[<-Array.getElem?_map,<-Array.getElem?_map,h]
theorem relay_sim {t:SetTable}{es e:Array (Int×Ze)} (h:es.map (·.1)=e.map (·.1)) (n:Nat):(relayAll t es n).1.map (·.1)=(relayAll t e n).1.map (·.1)/\(relayAll t es n).2=(relayAll t e n).2:=by
 have sz:=size_fst h;unfold relayAll;rw[h];cases q:t.relaid (e.map (·.1)) n with
 |none=>dsimp only;rw[sz];exact⟨h,rfl⟩
 | some p =>
  obtain ⟨a,o⟩:=p;dsimp only;have f:(o.filterMap (es[·]?)).map (·.1)=(o.filterMap (e[·]?)).map (·.1):=by
   apply Array.toList_inj.mp;rw[Gv,Gv,Array.toList_filterMap,Array.toList_filterMap,List.map_filterMap,List.map_filterMap];congr 1
   funext i
   exact z28 h i
  rw[sz,size_fst f];split
  ·exact⟨f,rfl⟩
  ·exact⟨h,rfl⟩
end SetT
section
variable {prog:Program}{w:World}{A:Around}{E:Ze->Zf->Prop}{s:Zf}
noncomputable def SetX (prog:Program) (w:World) (p:SetT.HT) (h:Heap) (a:Zh) (S:Int->Bool) (n:Nat):Prop :=
 ∃o b c,h.get? a=Za o/\o.ExactSet/\o.data=.set b c p.2/\b.map (·.1)=p.1/\ElemsOf (intKind prog w) b.toList/\(∀k,S k=Zd↔∃e∈b.toList,(intKind prog w).is k e.2=Zd)/\b.size<scanBound/\p.2.fits b.size=Zd/\b.size=n
theorem zh5 {p':SetT.HT}{h:Heap}{a:Zh}{o:Obj}{es:Array (Int×Ze)}{c:Nat}{t:SetTable} (go:h.get? a=Za o) (d:o.ExactSet) (m:o.data=.set es c t) {b:Array (Int×Ze)}{t':SetTable}{S:Int->Bool} (i:ElemsOf (intKind prog w) b.toList) (j:∀k,S k=Zd↔∃e∈b.toList,(intKind prog w).is k e.2=Zd) (l:b.size<scanBound) (g:t'.fits b.size=Zd) (n:(b.map (·.1),t')=p') :
  (h.update a (Obj.putSet b t')).get? a=Za { o with data:=.set b (c+1) t' }/\SetX prog w p' (h.update a (Obj.putSet b t')) a S b.size:=by
 subst n;have f:=(SetOf_store go d m i j l g).1;exact⟨f,_,b,c+1,f,d,rfl,rfl,i,j,l,g,rfl⟩
theorem zlf {p':SetT.HT}{g:Bool->Sem Unit} (N:∀(b:Bool) (s₁:Zf) (Q':Unit->Zf->Prop),Q' () s₁->wpAny (model prog w) A (g b) Q' E s₁)
  {a:Zh}{o:Obj}{es:Array (Int×Ze)}{M:Nat}{t:SetTable} (go:s.heap.get? a=Za o) (H:o.ExactSet) (J:o.data=.set es M t)
  {d:Array (Int×Ze)}{f:SetTable}{S:Int->Bool} (F:ElemsOf (intKind prog w) d.toList) (I:∀k,S k=Zd↔∃e∈d.toList,(intKind prog w).is k e.2=Zd)
  (x:d.size<scanBound) (L:f.fits d.size=Zd) {B:Bool} (l:(if !B&&f.tooFull then ((relayAll f d (SetTable.grown d.size)).1.map (·.1),(relayAll f d (SetTable.grown d.size)).2.1) else (d.map (·.1),f))=p') {R:Option Bool->Zf->Prop}
  (h:∀h',Heap.SameBut a s.heap h'->SetX prog w p' h' a S d.size->R (Za Zd) { s with heap:=h' }) :
  wpAny (model prog w) A (do
   storeSet a d f
   if (!B&&f.tooFull)=Zd then do
     g (relayAll f d (SetTable.grown d.size)).2.2
     storeSet a (relayAll f d (SetTable.grown d.size)).1 (relayAll f d (SetTable.grown d.size)).2.1
     pure (Za Zd)
    else pure (Za Zd)) R E s:=by
 refine Aa (wpAny_storeSet_of go J ?_ (fits_of_scanBound x));have G:=Cg s.heap a (Obj.putSet d f);obtain⟨r,z⟩:=zh5 (prog:=prog) (w:=w) go H J F I x L rfl;by_cases c:(!B&&f.tooFull)=Zd
 ·rw [if_pos c] at l ⊢
  have i:=relayAll_perm f d (SetTable.grown d.size);have p:=relayAll_fits f d (SetTable.grown d.size);generalize relayAll f d (SetTable.grown d.size)=K at i p l ⊢;obtain⟨j,O,y⟩:=K;have C:=F.perm i;have D:∀u,S u=Zd↔∃e∈j.toList,(intKind prog w).is u e.2=Zd:=λu=>(I u).trans ⟨λ⟨e,v,q⟩=>⟨e,i.mem_iff.mpr v,q⟩,λ⟨e,v,q⟩=>⟨e,i.mem_iff.mp v,q⟩⟩;have sz:j.size=d.size:=by rw[<-Bg,i.length_eq,Bg]
  have m:j.size<scanBound:=by rw[sz];exact x
  refine Aa (N _ _ _ (Aa (wpAny_storeSet_of r rfl ?_ (fits_of_scanBound m))));obtain⟨_,n⟩:=zh5 (prog:=prog) (w:=w) r H rfl C D m p l;rw[sz] at n;exact Ae (h _ (G.trans (Cg _ a _)) n)
 ·rw [if_neg c] at l ⊢
  rw[l] at z;exact Ae (h _ G z)
noncomputable def nxt (prog:Program) (w:World) (p:SetT.HT) (S:Int->Bool) (k:Int):SetT.HT:=if S k then p else SetT.addT p ((intKind prog w).hash k)
theorem zxy {n:Nat}{k:Int}{tk:Nat}{Q:Bool->Zf->Prop} (zs:SetX prog w p s.heap a S n) (V:n+1<scanBound)
  (h:∀h',Heap.SameBut a s.heap h'->SetX prog w (nxt prog w p S k) h' a (λy=>S y||decide (y=k)) (if S k then n else n+1)->Q (!S k) { s with heap:=h' }) :
  wpAny (model prog w) A (setAddHashed a (.int k tk) ((intKind prog w).hash k)) Q E s:=by
 have D:(intKind prog w).is k (.int k tk)=Zd:=intKind_is _ _ _ _;have N:(Ze.int k tk).scannable=Zd:=rfl;obtain⟨o,c,ep,go,F,u,R,x,B,P,G,L⟩:=zs;have J:c.size+1<scanBound:=by rw[L];exact V
 unfold setAddHashed setAddHashedIn;refine Bh (Aa (wpAny_setState_of go u G ?_));dsimp only;rw[byScan_of N P x];simp only [↓reduceIte];unfold setAddByScan;refine Aa (Aa (Cd (Aa (wpAny_setScan_of D go u G x ?_))));cases fr:List.findIdx? (λe=>(intKind prog w).is k e.2) c.toList with
 | some j =>
  dsimp only;obtain⟨lj,Y,_⟩:=Ge.mp fr;have f:S k=Zd:=(B k).mpr ⟨c.toList[j],Fv lj,Y⟩;refine Ae (Ae ?_);have e:s={ s with heap:=s.heap }:=by cases s;rfl
  have nx:nxt prog w p S k=p:=by unfold nxt;rw[f];rfl
  rw [nx] at h;have:=h s.heap (Heap.SameBut.refl a s.heap) ⟨o,c,ep,go,F,u,R,x,λy=>by
   rw[Bx,Cc,<-B y];exact⟨λC=>C.elim id (λe=>e ▸ f),.inl⟩,P,G,by rw[f];exact L⟩
  rw[f] at this;rw[e];exact this
 | none =>
  dsimp only;have f:S k=Zc:=by
   cases C:S k with
   |false=>rfl
   |true=>obtain⟨e,X,hp⟩:=(B k).mp C;have:=List.findIdx?_eq_none_iff.mp fr e X;rw[hp] at this;exact Bool.noConfusion this
  have nx:nxt prog w p S k=SetT.addT p ((intKind prog w).hash k):=by unfold nxt;rw[f];rfl
  rw [nx] at h;have W:∀(b:Bool) {s₁:Zf}{i:Unit->Zf->Prop},i () s₁->wpAny (model prog w) A (match b with | true=>rule "set.scan.the-table-gave-way" | false=>pure ()) i E s₁ :=
   λb s₁ i q=>by cases b<;>first|exact Ae q|exact Cd q
  have g:=layNew_perm p.2 c ((intKind prog w).hash k) (.int k tk);have v:=layNew_fits p.2 c ((intKind prog w).hash k) (.int k tk);have I:c.map (·.1)=(SetT.dmy p.1).map (·.1):=by rw[SetT.dmy_fst];exact R
  obtain ⟨H,Z⟩:=SetT.lay_sim (t:=p.2) I ((intKind prog w).hash k) (.int k tk) .none;have U:SetT.addT p ((intKind prog w).hash k)=(if !(layNew p.2 c ((intKind prog w).hash k) (.int k tk)).2.2.1&&(layNew p.2 c ((intKind prog w).hash k) (.int k tk)).2.1.tooFull then ((relayAll (layNew p.2 c ((intKind prog w).hash k) (.int k tk)).2.1 (layNew p.2 c ((intKind prog w).hash k) (.int k tk)).1 (SetTable.grown (layNew p.2 c ((intKind prog w).hash k) (.int k tk)).1.size)).1.map (·.1),(relayAll (layNew p.2 c ((intKind prog w).hash k) (.int k tk)).2.1 (layNew p.2 c ((intKind prog w).hash k) (.int k tk)).1 (SetTable.grown (layNew p.2 c ((intKind prog w).hash k) (.int k tk)).1.size)).2.1) else ((layNew p.2 c ((intKind prog w).hash k) (.int k tk)).1.map (·.1),(layNew p.2 c ((intKind prog w).hash k) (.int k tk)).2.1)):=by
   unfold SetT.addT;dsimp only;rw[<-Z,<-H,SetT.size_fst H];have O:=SetT.relay_sim (t:=(layNew p.2 c ((intKind prog w).hash k) (.int k tk)).2.1) H (SetTable.grown (layNew p.2 (SetT.dmy p.1) ((intKind prog w).hash k) .none).1.size);rw[O.1,O.2]
  rw[U] at h;generalize layNew p.2 c ((intKind prog w).hash k) (.int k tk)=L0 at g v h ⊢;obtain⟨d,t1,wd,T⟩:=L0;dsimp only at g v h ⊢;rw[Dm] at g;have m:ElemsOf (intKind prog w) d.toList:=(x.push D N).perm g;have r:=mem_push_iff D B g;have l:d.size<scanBound:=by rw[<-Bg,g.length_eq,Be,Bg];simpa using J
  refine Aa (W _ ?_);have K:d.size=n+1:=by rw[<-Bg,g.length_eq,Be,Bg,L];rfl
  rw[f] at h;rw[if_neg As,<-K] at h;split
  ·refine Aa ?_
   rw[hashByValue_scannable 8 N];refine Ae ?_;simp only [plainKind,↓reduceIte];refine zlf ?_ go F u m r l v rfl ?_
   ·intro b s₁ i q;cases b<;>first|exact Ae q|exact Cd q
   ·intro h' M z;dsimp only;exact Ae (h h' M z)
  ·refine Aa (Ae ?_)
   simp only [↓reduceIte];refine zlf ?_ go F u m r l v rfl ?_
   ·intro b s₁ i q;cases b<;>first|exact Ae q|exact Cd q
   ·intro h' M z;dsimp only;exact Ae (h h' M z)
end
noncomputable def zws (w:World):Bool:=w.params.followText "set-order"
noncomputable def ptab (w:World) (val:Nat->Int):Nat->SetT.HT
 |0=>(#[],.fresh 0 0 (!zws w))
 |i+1=>if (firstMet val i).any (· == val i) then ptab w val i else SetT.addT (ptab w val i) (hashInt (val i))
theorem SetX.congr (z:SetX prog w p h a S n)(e:∀k,S k=S' k)(en:n=n'):SetX prog w p h a S' n':=by
 have:=funext e;subst this;subst en;exact z
section
variable {fp wr:List Zh}{G:Array GenState->Array GenState->Prop}{St:Nat->Zf->Prop}
theorem zxn (W:WalksS prog w A.in1 I fp wr G n P St) (S:Zh) (F:S ∉ fp) (val:Nat->Int) (O:∀i v,P i v->∃t,v=.int (val i) t) (g:n+1<scanBound) :
  ∀(k i:Nat) (s:Zf),n-i=k->i<=n->St i s->SetX prog w (ptab w val i) s.heap S (λa=>(firstMet val i).any (· == a)) (firstMet val i).length ->
   (∀s',Moved (S::wr) G s s'->SetX prog w (ptab w val n) s'.heap S (λa=>(firstMet val n).any (· == a)) (firstMet val n).length->R (.ok (.ret .none)) s') ->
   codeAny (model prog w) A (.builtin "set.update.loop" ⟨[.ref S,.ref I],[]⟩) R s:=by
 have B:S ∉ wr:=λh=>F (W.sub _ h);have D:∀b∈wr,b∈S::wr:=λb g=>Ap _ g;intro k
 induction k with
 | zero =>
  intro i s J K j l fin;have x:i=n:=by symm
  subst x;refine Dj PyProof.Rows.F.entry_set_update_loop ?_;refine Aa (W.done s _ _ j λs' d=>?_);exact Ae (fin s' (d.mono D) (by
   obtain⟨o,y,m,go,rest⟩:=l;exact⟨o,y,m,d.heap S _ B go,rest⟩))
 | succ k N =>
  intro i s J K j l fin;have C:i<n:=by symm
  refine Dj PyProof.Rows.F.entry_set_update_loop ?_;rw [Around.under_plainId PyProof.Rows.F.plain_set_update_loop _];show wpAny _ A.in1 (pyNext (.ref I)>>=_) _ _ s;refine Aa (W.item i s _ _ C j λv s' L f d=>?_);obtain ⟨t,rfl⟩:=O i v L;have p:SetX prog w (ptab w val i) s'.heap S (λa=>(firstMet val i).any (· == a)) (firstMet val i).length:=by
   obtain⟨o,y,m,go,rest⟩:=l;exact⟨o,y,m,d.heap S _ B go,rest⟩
  refine Aa (Bh ?_);refine Bh ?_;refine Aa ((intKind prog w).pyHash (k:=val i) (intKind_is _ _ _ _) ?_);have H:(firstMet val i).length+1<scanBound:=by have:=firstMet_length_le val i;symm
  refine zxy p H λM E r=>?_;have q:SetX prog w (ptab w val (i+1)) M S (λa=>(firstMet val (i+1)).any (· == a)) (firstMet val (i+1)).length :=
   SetX.congr r (λa=>by rw[firstMet_succ,step_any]) (by rw[firstMet_succ,step_length])
  refine Ae ⟨Ft PyProof.Rows.F.plain_set_update_loop _,N (i+1) _ #v[] C (W.frame _ s' _ _ f (Nat.le_succ _) λb g o e=>?_) q λu c z=>?_⟩
  ·rw[E.2 b (λh:b=S=>F (by rw[<-h];exact g))];exact e
  ·refine fin u (Moved.trans W.gtrans ((d.mono D).then_heap (Nat.le_succ _) λb o g e => ?_) c) z
   rw[E.2 b (λh:b=S=>g (by rw[h];exact Au))];exact e
end
section
noncomputable abbrev new0 (w:World):Obj:={ cls:=.type "set",dict:=Zb,data:=.set #[] 0 (.fresh 0 0 (!zws w)) }
theorem zi2 (a:Ze) (h:Q₁ (.ref s.heap.objs.size) { s with heap:=s.heap.push { cls:=.type "set",dict:=Zb,data:=.set #[] 0 (.fresh 0 0 (!zws w)) } }) :
  codeAny (model prog w) A (.call (.builtin "set.__new__") ⟨[.type "set",a],[]⟩) (wants Q₁ E) s:=by
 refine codeAny_of_tree ?_;refine Aa (Gr (PySem.F.newCall_set_1 a) (Ae ⟨Ft PySem.F.plain_set_new _,Dj PySem.F.entry_set_new ?_⟩));unfold Builtin.«set.__new__» Builtin.Frozenset.newClass;have b:=sub_set_self
 wp_walk
 refine wpAny_askSetting (Ae ?_);dsimp only;refine Aa (wpAny_alloc (Ae ?_));exact Ae h
theorem zqp (go:h.get? a=Za { cls:=.type "set",dict:=Zb,data:=.set #[] 0 (.fresh 0 0 (!zws w)) }):SetX prog w (#[],.fresh 0 0 (!zws w)) h a (λ_=>Zc) 0 :=
 ⟨_,#[],0,go,⟨rfl,rfl,rfl⟩,rfl,by simp,λe m=>by simp at m,λk=>by simp,by decide,rfl,rfl⟩
end
end L2
namespace L2
open PySem PySem.Spec PyProof.Rows
section
variable {prog:Program}{w:World}{A:Around}{E:Ze->Zf->Prop}{s:Zf}{it d:Zh}{es:Array (Int × Ze)}{ep slot i:Nat}{t:SetTable}
end
section
set_option maxHeartbeats 3200000 in
theorem zsm
  (L:A.handled=Zb) (d:SrcO s.heap b l items) (ia:PyProof.Rows.IntsAre items.toList ns) (p:items.size+1<scanBound)
  (h:∀(h':Heap) (tk:Nat),SetX prog w (ptab w (λi=>ns.getD i 0) items.size) h' s.heap.objs.size (λG=>(PyProof.Rows.firstMet (λi=>ns.getD i 0) items.size).any (· == G)) (PyProof.Rows.firstMet (λi=>ns.getD i 0) items.size).length ->
   (∀b o,b<s.heap.objs.size->s.heap.get? b=Za o->h'.get? b=Za o)->Q (.ref s.heap.objs.size) { s with heap:=h',toks:=tk }) :
  wpAny (model prog w) A (call (.type "set") [.ref l]) Q E s:=by
 obtain⟨c,tl,k0⟩:=PySem.F.called_set.mro;have k1:=PySem.F.called_set.made;have k2:=PySem.F.called_set.sub;refine wpAny_call (codeAny_of_tree ?_);show wpAny _ _ (callAny (.type "set") _) _ _ _;refine Ae ⟨Code.quiet_builtin _ #v[0,0,7],Dj PySem.F.entry_type_call ?_⟩;rw[Around.under_plain (weight_type_call_type "set" [.ref l] []) rfl];have h1:=PySem.F.called_set.notType;have h2:=PySem.F.called_set.canCreate;have k5:=PySem.F.typeCall_set_1 (.ref l)
 repeat (any_goals (first|assumption|wp_step))
 refine Gx (zi2 (.ref l) (E:=E) (Q₁:=λobj s₁=>obj=.ref s.heap.objs.size/\s₁={ s with heap:=s.heap.push (new0 w) }) ⟨rfl,rfl⟩) λr s₁ z=>?_;cases r with
 |error e=>exact z
 | ok fl =>
  cases fl with
  | ret obj =>
   obtain⟨rfl,rfl⟩:=z;have I:#v[6,10].get? s.heap.objs.size=Za (new0 w):=An _ rfl;have ty:Zf.TypeIs { s with heap:=s.heap.push (new0 w) } (.ref s.heap.objs.size) "set" := ⟨_,I,rfl⟩;have f1:=PySem.F.called_set.init.lookup;have f2:=PySem.F.called_set.init.bind (.ref s.heap.objs.size)
   repeat (any_goals (first|assumption|wp_step))
   refine Gx (codeAny_call_builtin (R:=wants (λr a=>r=.none/\∃h' tk,a={ s with heap:=h',toks:=tk } /\
     SetX prog w (ptab w (λi=>ns.getD i 0) items.size) h' s.heap.objs.size (λG=>(PyProof.Rows.firstMet (λi=>ns.getD i 0) items.size).any (· == G)) (PyProof.Rows.firstMet (λi=>ns.getD i 0) items.size).length /\
     (∀b o,b<s.heap.objs.size->s.heap.get? b=Za o->h'.get? b=Za o)) E) PySem.F.called_set.init.plain PySem.F.entry_set_init (check_set_init_1 ty ?_)) λj a B=>?_
   ·have D:SrcO #v[6,10] b l items:=d.push _
    obtain ⟨g,T,u1,u2,u3,u,m,q,g4⟩:l<s.heap.objs.size/\∃T:String,isSubtype (.type T) (.type "set")=pure Zc/\isSubtype (.type T) (.type "frozenset")=pure Zc/\(Ze.type T==Ze.type "dict")=Zc/\∃u m q,#v[6,10].get? l=Za { cls:=.type T,dict:=u,data:=m,slots:=q }:=by
     cases b with
     | true =>
      obtain⟨⟨c1,u,m,q⟩,k,rfl,g3⟩:=d;exact⟨Am k,_,PySem.F.sub_list_set,PySem.F.sub_list_frozenset,by decide,_,_,_,Ab _ k⟩
     | false =>
      obtain⟨⟨c1,u,m,q⟩,k,rfl,g3⟩:=d;exact⟨Am k,_,PySem.F.sub_tuple_set,PySem.F.sub_tuple_frozenset,by decide,_,_,_,Ab _ k⟩
    unfold Builtin.«set.__init__» noKeywords Builtin.Frozenset.updateFrom;generalize C:pyIter=P0
    wp_walk
    subst C;refine zgj D ?_;refine Aa (wpAny_runValue ?_);have J:A.in1.in1.in1.handled=Zb:=by simp [L]
    have n:l≠#v[6,10].objs.size:=by
     rw[Cr];exact Ba (Dl g)
    have N:s.heap.objs.size ∉ [#v[6,10].objs.size,l]:=by
     rw[Cr];simp only [Ak,Aw,Bb,Dk,not_or];exact⟨Ba (Er _),Fu g⟩
    have vl:∀(i:Nat) (v:Ze),items[i]?=Za v->∃t,v=.int ((λi=>ns.getD i 0) i) t:=λi v K =>
     PyProof.Rows.IntsAre.int_at ia i v (by rw[Fc];exact K)
    have W:∃St:Nat->Heap->Prop,Walks prog w A.in1.in1.in1 #v[6,10].objs.size [#v[6,10].objs.size,l] [#v[6,10].objs.size] items.size (λi v=>items[i]?=Za v) St/\St 0 (#v[6,10].push (itO b l)):=by
     cases b with
     |true=>exact⟨_,Walks.list J _ l n items,⟨_,An _ rfl,rfl,rfl⟩,D.push _⟩
     |false=>exact⟨_,Walks.tuple J _ l n items,⟨_,An _ rfl,rfl,rfl⟩,D.push _⟩
    obtain⟨St,W,Y⟩:=W;refine zxn W.toS s.heap.objs.size N (λi=>ns.getD i 0) vl p (items.size-0) 0 _ #v[] (Bk _) (by exact Y) ?hS0 ?fin
    case hS0 =>
     have Z:(#v[6,10].push (itO b l)).get? s.heap.objs.size
       = Za (new0 w):=Ab _ I
     exact zqp Z
    case fin =>
     intro O x F;obtain ⟨h',g',M,y,H⟩:=O;have V:g'=s.gens:=x.gens;have S:M=s.drawn:=x.drawn;have q3:H=s.os:=x.os;subst V;subst S;subst q3;show wpAny _ _ _ _ _ _;refine Ae ?_;show wpAny _ _ (ret Ze.none) _ _ _;refine Ae ⟨rfl,h',y,rfl,F,λb o p e=>?_⟩;have X:b≠s.heap.objs.size:=Ba p;have P:b≠#v[6,10].objs.size:=by
      rw[Cr];exact Ba (Dl p)
     exact x.heap b o (by simp only [Ak,Aw,Bb,Dk,not_or];exact⟨X,P⟩) (Ab _ (Ab _ e))
   ·cases j with
    |error e=>exact B
    | ok f =>
     cases f with
     | ret r =>
      obtain⟨rfl,h',tk,rfl,F,U⟩:=B
      repeat (any_goals (first|assumption|wp_step))
      exact h _ _ F U
     |_=>exact B.elim
  |_=>exact z.elim
end
section
end
noncomputable def valI (n:List Int):Nat->Int:=λi=>n.getD i 0
noncomputable def metI (n:List Int):List Int:=firstMet (valI n) n.length
section
end
noncomputable def ssW:W->Option (List W)
 |.lst w=>Za w
 |.tup w=>Za w
 |_=>Zb
section
end
section
variable {prog:Program}{w:World}{A:Around}{E:Ze->Zf->Prop}{s:Zf}
theorem zg1 {l:List (Int×Ze)}(h:ElemsOf (intKind prog w) l):∀e∈l,∃k t,e=((intKind prog w).hash k,.int k t):=λe c=>by
 obtain⟨⟨k,b,z⟩,_⟩:=h e c;obtain⟨t,a⟩:=Ze.isInt_shape b;exact⟨k,t,by obtain⟨f,d⟩:=e;simp at a z;subst a;rw[z]⟩
theorem zrg {a b:Zh}{Q:List (Int×Ze)->Zf->Prop} (go:s.heap.get? a=Za o) (n:o.data=.set es ep t) (r:t.fits es.size=Zd) (q:ElemsOf (intKind prog w) es.toList)
  (g:s.heap.get? b=Za o') (f:o'.data=.set c ep' t') (j:t'.fits c.size=Zd) (d:ElemsOf (intKind prog w) c.toList) (h:Q es.toList s) :
  wpAny (model prog w) A (Builtin.Frozenset.walkUnseen a b) Q E s:=by
 refine Aa (Ex go n r ?_);refine Aa (Ex g f j ?_);have al:∀e∈es.toList++c.toList,∃k t,e.2=.int k t:=λe u=>by
  rcases Cb.mp u with z|z
  ·obtain⟨k,t,rfl⟩:=zg1 q e z;exact⟨k,t,rfl⟩
  ·obtain⟨k,t,rfl⟩:=zg1 d e z;exact⟨k,t,rfl⟩
 generalize es.toList++c.toList=l at al
 induction l with
 |nil=>exact Aa (Ae (Ae h))
 | cons e l m =>
  obtain⟨⟨k,t,p⟩,al⟩:=List.forall_mem_cons.mp al;have m:=m al;obtain⟨i,v⟩:=e;obtain rfl:v=.int k t:=p;rw[Fa];exact m
theorem z3x {id:String}{Q:Bool->Zf->Prop} (x:SetX prog w p s.heap a S n) (y:SetX prog w p' s.heap b S' n') (h:∀r:Bool,(r=Zd↔n<=n'/\∀k,S k=Zd->S' k=Zd)->Q r s) :
  wpAny (model prog w) A (Builtin.Frozenset.subsetOf id a b) Q E s:=by
 obtain⟨o,H,ep,go,gx,I,_,K,P,gb,F,Y⟩:=x;have y0:=y;obtain⟨X,m,R,g,N,u,_,B,J,M,f,T⟩:=y;subst Y T;refine Aa (Aa (Ex go I F (Ae ?_)));refine Aa (Aa (Ex g u f (Ae ?_)));by_cases c:H.size > m.size
 ·rw [if_pos c]
  exact Ae (h _ ⟨λz=>(Bool.noConfusion z),λz=>absurd z.1 #v[]⟩)
 rw [if_neg c];refine Aa (wpAny_setEpoch_of go I F ?_);refine Aa (zrg go I F K g u f B ?_);have al:=zg1 K;have D:(∀e∈H.toList,∀k,(intKind prog w).is k e.2=Zd->S' k=Zd)↔∀k,S k=Zd->S' k=Zd:=⟨λz k C=>by
  obtain⟨e,d,C⟩:=(P k).mp C;exact z e d k C,λz e d k C=>z k ((P k).mpr ⟨e,d,C⟩)⟩
 have G:∀r:Bool,(r=Zd↔∀e∈H.toList,∀k,(intKind prog w).is k e.2=Zd->S' k=Zd)->Q r s:=λr z=>h r (z.trans (D.trans ⟨λq=>⟨by symm,q⟩,λq=>q.2⟩));clear h P D K;have sy:s.heap.SetOf (intKind prog w) b S' m.size:=⟨X,m,R,_,g,N,u,B,J,M,f,rfl⟩;refine Aa ?_;generalize H.toList=l at al G
 induction l with
 |nil=>exact Ae (Ae (G Zd ⟨λ_ e d=>by simp at d,λ_=>rfl⟩))
 | cons e l Z =>
  obtain ⟨⟨k,t,V⟩,O⟩:=List.forall_mem_cons.mp al;subst V;rw [Fa];refine Aa (Aa (Bh (wpAny_setFind_of (knd:=intKind prog w) (intKind_is _ _ _ _) rfl sy λr L=>?_)));have W:∀j,(intKind prog w).is j (.int k t)=Zd->j=k:=λj z=>by
   exact (Ao z).symm
  cases r with
  | none=>exact Ae (Ae (Ae (G Zc ⟨λz=>Bool.noConfusion z,λz=>by
    have:=z _ (.head _) k (intKind_is _ _ _ _);rw[this] at L;exact L⟩)))
  | some i =>
   refine Aa (Aa (wpAny_setEpoch_of go I F ?_));rw[if_neg (by simp)];refine Ae (Ae (Z O λr z=>G r (z.trans ⟨λq e d j U=>?_,λq e d=>q e (.tail _ d)⟩)));rcases Ak.mp d with rfl|d
   ·rw[W j U];exact L.symm
   ·exact q e d j U
theorem SetX.ty (x:SetX prog w p s.heap a S n):s.TypeIs (.ref a) "set" := let ⟨o,_,_,go,g,_⟩:=x;⟨o,go,g.1⟩
theorem zki:entryFor table "set.__ne__" = Za Builtin.«frozenset.__ne__»:=entryFor_alias (id' := "frozenset.__ne__") (by kernel_rfl) rfl #v[0,0,7] (by kernel_rfl)
theorem zme:entryFor table "set.__eq__" = Za Builtin.«frozenset.__eq__»:=entryFor_alias (id' := "frozenset.__eq__") (by kernel_rfl) rfl #v[0,0,7] (by kernel_rfl)
noncomputable def opNe:Bool->CmpOp
 |true=>.NotEq
 |false=>.Eq
theorem ya2 {Q:Ze->Zf->Prop} (d:Bool) (l:A.units<cLine) (x:SetX prog w p s.heap a S n) (y:SetX prog w p' s.heap b S' n') (h:∀r:Bool,(r=Zd↔n=n'/\∀k,S k=Zd->S' k=Zd)->Q (.bool (if d then !r else r)) s) :
  wpAny (model prog w) A (compareOp (opNe d) (.ref a) (.ref b)) Q E s:=by
 have B:=x;have D:=y;obtain⟨o,I,O,go,N,K,_,L,P,M,F,J⟩:=B;obtain⟨R,f,H,g,G,i,_,u,v,C,e,j⟩:=D;have t:∀{A:Around}{Q:Bool->Zf->Prop} (h:Q Zd s),wpAny (model prog w) A (isInstance (.ref b) (.type "set")) Q E s:=λh=>Ey y.ty (by rw[isSubtype_type];kernel_rfl) h;have q:∀{A:Around}{Q:Bool->Zf->Prop} (h:Q Zc s),wpAny (model prog w) A (isInstance (.ref a) (.type "frozenset")) Q E s:=λh=>Ey x.ty (by rw[isSubtype_type];kernel_rfl) h;subst J j;cases d
 case' false =>
  refine wpAny_richCompare_same_room (op:=.Eq) x.ty y.ty PySem.F.slot_set_eq ?_ l;refine Cz PySem.F.slot_set_eq x.ty zme ?_ (PySem.F.args_set_eq_2 _ _)
 case' true =>
  refine wpAny_richCompare_same_room (op:=.NotEq) x.ty y.ty PySem.F.slot_set_ne ?_ l;refine Cz PySem.F.slot_set_ne x.ty zki ?_ (PySem.F.args_set_ne_2 _ _)
 all_goals
  wp_step
  wp_walk using t,q,Ex go K F,Ex g i e
  by_cases c:I.size=f.size
  ·rw[if_neg (by simp [c])]
   wp_walk using q,z3x x y
   intro r m
   wp_walk
   exact⟨_,rfl,λz=>Ze.noConfusion z,h r ⟨λz=>⟨c,(m.mp z).2⟩,λz=>m.mpr ⟨by symm,z.2⟩⟩⟩
  ·rw[if_pos (by simp [c])]
   wp_walk
   exact⟨_,rfl,λz=>Ze.noConfusion z,h Zc ⟨λz=>Bool.noConfusion z,λz=>absurd z.1 c⟩⟩
theorem SetX.at' (x:SetX prog w p h a S n)(e:∀o,h.get? a=Za o->h'.get? a=Za o):SetX prog w p h' a S n:=let ⟨o,b,c,go,r⟩:=x;⟨o,b,c,e o go,r⟩
end
noncomputable def sqV (K:Zg) (vs:List V) (H:Hp) (n:List Int):Prop:=∃a,vs=[.ref a]/\(SqL K H a (n.map V.int)\/SqT K H a (n.map V.int))/\n.length<=1000
section
theorem z2x (x:X.calm=Zd) (u:Gl X "set") (A:X.mg "set" = Zb) (F:PA X [a] ta) (B:starEach [a] X.env=[(Zc,eval a X.env)]) {q:List Int->Hp->Prop}
  (I:Inv X pins σ H s) (h:ta σ H λvs c=>∃n,sqV X.K vs c n/\q n c)
  (l:∀p c n j,Inv X pins σ c j->(∀b∈[p],FpOk X pins c b)->SetX X.prog X.w (ptab X.w (valI n) n.length) j.heap p (λC=>(metI n).any (· == C)) (metI n).length->q n c->Q (.ref p) j) :
  wpAny #v[1,7] X.A (eval (.Call (.Name "set" p') [a] [] pos') X.env) Q X.xe s:=by
 refine Call_ (zc5 I u A z71 (Bt (thn (F pos' pins s σ H _ I h) λL z ⟨vs,c,d,y,w⟩=>?_) B rfl));nofun;obtain⟨n,⟨a,e,g,J⟩,q⟩:=w;refine qG ?_;subst e;cases y with
 | cons r E =>
  cases E;cases r;refine aG λ_ qG=>?_;obtain ⟨b,i,p',sz,m⟩ : ∃b i,SrcO z.heap b a i/\i.size=n.length/\PyProof.Rows.IntsAre i.toList n:=by
   rcases g with g|g
   ·obtain ⟨i,f,p', G⟩:=d.list g
    exact⟨Zd,i.toArray,p'.isList,by rw[Ai,<-f.length,Af],zch f⟩
   ·obtain ⟨i,f,p', G⟩:=d.tuple g
    exact⟨Zc,i.toArray,p',by rw[Ai,<-f.length,Af],zch f⟩
  refine qG ?_;refine zsm (d.ok.hd x) p' m (by rw[sz];show n.length+1<4096;symm) λK D hS t=>?_;rw[sz] at hS;refine l _ c n _ (d.kept (t':=D) λb o e=>t b o (Am e) e) (λb k=>?_) hS q;rw[Aw] at k;subst k;exact d.fpOk (Ag _) (d.hok.fresh (Ag _))
end
noncomputable def zhq (n m:List Int):Bool:=decide ((metI n).length=(metI m).length)&&(metI n).all λk=>(metI m).any (· == k)
noncomputable def tCS (K:Zg) (d:Bool) (t c:TA):TE:=λσ H Q=>t σ H λv a=>∃n,sqV K v a n/\c σ a λu b=>∃m,sqV K u b m/\Q (.bl (if d then !zhq n m else zhq n m)) b
section
theorem z7g (d:Bool) (q:X.A.units<cLine) (m:X.calm=Zd) (l:Gl X "set") (n:X.mg "set" = Zb) (N:PA X [a] ta) (G:starEach [a] X.env=[(Zc,eval a X.env)]) (c:PA X [b] tb) (g:starEach [b] X.env=[(Zc,eval b X.env)]) :
  PC X (opNe d) (.Call (.Name "set" p) [a] [] pos) (.Call (.Name "set" p') [b] [] pos') (tCS X.K d ta tb):=by
 intro pins s σ H Q I h;refine z2x m l n N G I h λp S L U w E x B=>?_;have A:=x;obtain⟨o,V,T,go,_,F,_⟩:=A;refine z2x m l n c g (w.pinned E λb c=>by rw[Aw] at c;subst c;exact⟨o,go,λv z=>by rw[F] at z;cases z⟩) B λW y C R i P D u=>?_;have K:=x.at' λM e=>(i.pin (p,M) (Ay _ (Ay _ (zcc (.head _) e)))).1;refine ya2 d q K D λr t=>?_;have J:r=zhq L C:=by
  rw[Du,t];unfold zhq;rw[Ac,Cc,Az];exact⟨λz=>⟨z.1,λk f=>z.2 k (List.any_eq_true.mpr ⟨k,f,beq_self_eq_true k⟩)⟩,λz=>⟨z.1,λk f=>by
   obtain⟨j,O,e⟩:=List.any_eq_true.mp f;rw[<-Bn e];exact z.2 j O⟩⟩
 subst J;exact⟨.bl _,y,i.unpinned,rfl,u⟩
end
noncomputable def gSI (as:GAs):En->Option (En×List Int):=λe=>(as e).bind λp=>match za4 p.1 p.2 with
 |some [w]=>(ssW w).bind λa=>(zbs a).bind λn=>if n.length<=1000 then Za (p.1,n) else Zb
 |_=>Zb
noncomputable def gCS (d:Bool) (as bs:GAs):GE:=λe=>(gSI as e).bind λp=>(gSI bs p.1).bind λq=>Za (q.1,(.bl (if d then !zhq p.2 q.2 else zhq p.2 q.2),Zc))
theorem z6a (h:as en=Za (e1,xs))(r:za4 e1 xs=Za [w])(b:ssW w=Za (n.map W.int))(q:n.length<=1000):gSI as en=Za (e1,n):=by
 unfold gSI;rw[h];show (match za4 e1 xs with
  |some [w]=>(ssW w).bind λa=>(zbs a).bind λn=>if n.length<=1000 then Za (e1,n) else Zb
  |_=>Zb)=_
 rw[r];show (ssW w).bind _=_;rw[b];show (zbs (n.map W.int)).bind _=_;rw[zdv];exact if_pos q
theorem ztz {K:Zg} (h:gSI as en=Za (e1,ns)):∃xs,as en=Za (e1,xs)/\∀F j σ H vs,Rel K F j e1 σ H->ArgRs K F σ xs vs->sqV K vs H ns:=by
 obtain⟨⟨c,xs⟩,o,h⟩:=bS h;cases e:za4 c xs with
 |none=>simp only [e] at h;exact noSome h
 | some u =>
  match u,e with
  | [w],e =>
   simp only [e] at h;obtain⟨k,f,h⟩:=bS h;obtain⟨q,n,h⟩:=bS h;split at h
   ·rename_i z
    obtain⟨rfl,rfl⟩:=Prod.mk.inj (sI h);refine⟨xs,o,λF j σ H vs R l=>?_⟩;obtain⟨v,c,i⟩:=(l.repBs R e).one;subst c;have m:=zbk n;subst m;cases w with
    | lst k =>
     obtain rfl:=sI f;obtain⟨a,u,b,d,p⟩:=i.lst R.sub;subst b;have g:=p.ints;subst g;exact⟨a,rfl,.inl (SqL.of' d),z⟩
    | tup k =>
     obtain rfl:=sI f;obtain⟨a,u,b,d,r,p⟩:=i.tup R.sub;subst b;have g:=p.ints;subst g;exact⟨a,rfl,.inr (.inl (.inl d)),z⟩
    |_=>exact noSome f
   ·exact noSome h
  |[],e=>simp only [e] at h;exact noSome h
  |_::_::_,e=>simp only [e] at h;exact noSome h
theorem zjj {K:Zg}(h:tE K (gCS d as bs) σ H Q):tCS K d (tAs K as) (tAs K bs) σ H Q:=by
 obtain⟨F,p,g,w,r,Re,h,q⟩:=h;obtain⟨⟨e,n⟩,t,h⟩:=bS h;obtain⟨⟨k,m⟩,b,h⟩:=bS h;obtain⟨rfl,rfl⟩:=Prod.mk.inj (sI h);obtain⟨x,a,o⟩:=ztz t;obtain⟨y,j,f⟩:=ztz b;refine⟨F,p,g,e,x,Re,a,λz E C v R B=>⟨n,o _ _ _ _ _ R B,z,p,e,k,y,R,j,λG D I s R2 l=>⟨m,f _ _ _ _ _ R2 l,?_⟩⟩⟩;obtain⟨c,u,i,A⟩:=(Out.val (Rep.bl (if d then !zhq n m else zhq n m))).close R2;exact q c _ _ ((v.trans s).trans u) i A
noncomputable def z4a (f:Sx->Zi->Option GE) (S:Sx) (a:Zi) (ops:List CmpOp) (c:List Zi):Option GE:=match a,ops,c with
 |.Call (.Name x _) [a] [] _,[o],[.Call (.Name y _) [b] [] _]=>if x==("set" : Str)&&y==("set" : Str)&&S.bl x&&zag a&&zag b then (match o with|.NotEq=>Za Zd|.Eq=>Za Zc|_=>Zb).bind λd=>(asL (za0 f S) [a]).bind λe=>(asL (za0 f S) [b]).bind λbs=>Za (gCS d e bs) else Zb
 |_,_,_=>Zb
noncomputable def cmpC (f:Sx->Zi->Option GE) (S:Sx) (a:Zi) (ops:List CmpOp) (c:List Zi):Option GE:=match z4a f S a ops c with
 |some g=>Za g
 |none=>cmpZ f S a ops c
section
theorem zzb (H:zbb f)(C:CxOk X S d)(h:z4a f S a ops cs=Za g):PE X (.Compare a ops cs pos) (tE X.K g)/\PT X (.Compare a ops cs pos) (tT X.K (zah g)):=by
 unfold z4a at h;split at h
 ·split at h
  ·rename_i z;simp only [Ac] at z;obtain⟨⟨⟨⟨r,t⟩,v⟩,k⟩,l⟩:=z;have n:=Bn r;have m:=Bn t;subst n m;obtain⟨d,c,h⟩:=bS h;obtain⟨w,has,h⟩:=bS h;obtain⟨bs,i,h⟩:=bS h;obtain rfl:=sI h;obtain⟨q,_⟩:=zfq (λe a j=>zaf H C j) has;obtain⟨u,_⟩:=zfq (λe a j=>zaf H C j) i;obtain⟨s,o⟩:=zga C v;have P:∀{p b pos pos'},PC X (opNe d) (.Call (.Name "set" p) _ [] pos) (.Call (.Name "set" b) _ [] pos') _:=λ{p b pos pos'}=>z7g (p':=b) (pos':=pos') d C.room.units0 C.calm s o q (zae k) u (zae l);split at c
   ·obtain rfl:=sI c;exact⟨(z2l P).wk λ_ _ _=>zjj,(z2y P).wk λ_ _ _=>zde λ_ _ _=>zjj⟩
   ·obtain rfl:=sI c;exact⟨(z2l P).wk λ_ _ _=>zjj,(z2y P).wk λ_ _ _=>zde λ_ _ _=>zjj⟩
   ·exact noSome c
  ·exact noSome h
 ·exact noSome h
theorem zug (H:zbb f)(C:CxOk X S d)(h:cmpC f S a ops cs=Za g):PE X (.Compare a ops cs pos) (tE X.K g)/\PT X (.Compare a ops cs pos) (tT X.K (zah g)):=by
 unfold cmpC at h;split at h
 ·rename_i q;obtain rfl:=sI h;exact zzb H C q
 ·exact z7j H C h
end
noncomputable def isT:DKey->Bool
 |.inr _=>Zd
 |.inl _=>Zc
noncomputable def gLsT (i:Nat):GE:=λe=>match e[i]? with
 |some (Za (.dct (k::a) _,Zd))=>if isT k then Za (e,(.lst ((k::a).map dkW),Zd)) else Zb
 |_=>Zb
noncomputable def kOn (S:Sx):Zi->Bool
 |.Name x _=>S.bn.contains (("k " : Str)++x)
 |_=>Zc
theorem zls (k:Int):∀{vs:List Ze}{a:List Int},IntsAre vs a->vs.countP (isInt k)=a.count k
 |_,_,.nil=>rfl
 | _,_,.cons n u h=>by
  rw[List.countP_cons,List.count_cons,zls k h]
  rfl
noncomputable def z9x:V->List V->Hp->VK->Prop:=λx v H Q=>∃(l:Zh) (n:List Int) (k:Int),x=.ref l/\v=[.int k]/\H l=Za (.tup (n.map V.int))/\Q (.int (n.count k:Nat)) H
theorem z6c:MtR X "tuple.count" z9x:=by
 intro pins s σ H x C v D Q I e A h;obtain⟨l,w,k,rfl,rfl,B,q⟩:=h;cases e;obtain⟨u,rfl,p⟩:=A.one;obtain⟨t,rfl⟩:=p;obtain⟨z,i,r,⟨o,b,⟨d,n,a⟩,_⟩⟩:=(show zbm X.prog X.w H s.heap l (.tup (w.map V.int)) from I.hok l _ B);have c:=zch r;obtain⟨cls,g,j,m⟩:=o;simp only at d a;subst d a;refine Hr PySem.F.slot_tuple_count ⟨_,b,rfl⟩ PySem.F.entry_tuple_count (PySem.F.args_tuple_count_2 _ _)
  (PySem.SeqAt.tuple_countAt l i.toArray n g m (.int k t) (isInt k)) ⟨b,λy f=>(eq_isInt k t c y (by simpa using f)).at _ _,?_⟩
 rw[show i.toArray.toList=i from rfl,zls k c];exact⟨.int _,H,I.tok _,⟨_,rfl⟩,q⟩
noncomputable def zn8 (i:Nat) (g:GE):GE:=λe=>match e[i]? with
 | some (Za (.tup w,Zc))=>(g e).bind λp=>match p.2.1,p.1[i]?,zbs w with
  |.int k,Za (#v[_,3]),Za n=>Za (p.1,(.int (n.count k:Nat),Zc))
  |_,_,_=>Zb
 |_=>Zb
noncomputable def tBT (r:V->List V->Hp->VK->Prop) (c:TE) (t:TA):TE:=λσ H Q=>c σ H λx b=>(∃p a,x=.ref p/\b p=Za (.tup a))/\t σ b λa d=>r x a d Q
theorem yac {id:String} (slot:Slot "tuple" name id) (i:typeOf (.builtin id)=pure (.type "method_descriptor")) (M:MtR X id r) (u:PE X o to) (P:PA X [e] t)
  (c:attributeBase o name X.env (eval o X.env)=eval o X.env)
  (f:((backTo cpos (starEach [e] X.env)).all (λx=>!x.1)&&(backToKw cpos (keywordEach [] X.env)).all (λx=>x.1.isSome)
   && decide (([e]:List Zi).length+([]:List Keyword).length+(if ([]:List Keyword).isEmpty then 0 else 1)<30))=Zd)
  (d:(apos.endLine==cpos.line)=Zd) (N:starEach [e] X.env=(Zc,eval e X.env)::starEach [] X.env) (b:(backTo cpos (starEach [] X.env)).any (·.1)=Zc) :
  PE X (.Call (.Attribute o name apos) [e] [] cpos) (tBT r to t):=by
 intro pins s σ H Q I h;refine wpAny_Call_method_late c f d rfl (thn (u pins s σ H _ I h) λv n ⟨x,m,k,F,ty,E⟩=>?_);obtain⟨p,C,rfl,G⟩:=ty;cases F;obtain⟨_,O,_,q,g,J,j⟩:=(show zbm X.prog X.w m n.heap p (.tup C) from k.hok p _ G);refine⟨"tuple",id,PySem.F.plainAttrs_tuple,slot,i,⟨q,g,J.1⟩,λa K=>by cases K;exact⟨q,g,j⟩,?_⟩;have l:=P cpos pins n σ m _ k E;rw[N] at l ⊢;refine Calls.callWith_builtin (by show (Zc||(backTo cpos (starEach [] X.env)).any (·.1))=Zc;rw[b]<;>rfl) (Calls.evalArgs_plain ?_);exact thn l λL D ⟨y,B,w,z,A⟩=>M pins D σ B (.ref p) y _ L Q w rfl z A
theorem ztm {K:Zg}(h:tE K (zn8 i g) σ H Q):tBT z9x (tVar i) (ze8 (tE K g) tNil) σ H Q:=by
 nofun;obtain⟨F,f,m,u,L,R,h,q⟩:=h;ac_rfl;unfold zn8 at h;split at h
 ·rename_i I c;nofun;obtain⟨E,b⟩:=R.has c;obtain⟨a,v,rfl,C,A,p⟩:=(R.repB c b).tup R.sub;obtain⟨⟨n,w,t⟩,r,h⟩:=bS h;ac_rfl;refine⟨.ref a,b,⟨a,v,rfl,C⟩,F,f,m,n,(w,t),R,r,λx o G s d y=>?_⟩;split at h
  ·rename_i k J z e D l;simp only at e;subst e;cases h;have j:=y.isInt;subst j;rw[zbk l] at p;have B:=p.ints;subst B;exact⟨a,z,k,rfl,rfl,d.sub _ _ (s _ _ A),q x o _ s d (.int _)⟩
  ·exact noSome h
 ·exact noSome h
section
noncomputable def cOn (S:Sx):Zi->Bool
 |.Name x _=>S.bn.contains (("c " : Str)++x)
 |_=>Zc
noncomputable def ydh (fE:Sx->Zi->Option GE) (S:Sx):Zi->Option GE
 |.Call (.Name x _) [.Name y p] [] _=>if kOn S (.Name y p)&&S.bl x&&x==("list" : Str) then (S.rd y).bind λi=>Za (gLsT i) else Zb
 |_=>Zb
noncomputable def zm6 (fE:Sx->Zi->Option GE) (S:Sx):Zi->Option GE
 |.Call (.Attribute (.Name y p) name apos) [e] [] cpos=>if cOn S (.Name y p)&&name==("count" : Str)&&zag e&&apos.endLine==cpos.line then (S.rd y).bind λi=>(fE S e).bind λg=>Za (zn8 i g) else Zb
 |_=>Zb
theorem zre (H:zbb fE)(C:CxOk X S d):znd (zm6 fE S) X:=λe g h=>by
 unfold zm6 at h;split at h
 ·split at h
  ·rename_i z;simp only [Ac] at z;obtain⟨⟨⟨m,f⟩,a⟩,j⟩:=z;have k:=Bn f;subst k;obtain⟨i,c,h⟩:=bS h;obtain⟨l,b,h⟩:=bS h;obtain rfl:=sI h;exact (yac PySem.F.slot_tuple_count PySem.F.type_tuple_count z6c (zrt C c) (zjq (H X S d C _ _ b) zda (zae a)) (zw2 rfl) (zw0 a) j (zae a) rfl).wk λ_ _ _=>ztm
  ·exact noSome h
 ·exact noSome h
end
section
variable {K:Zg}
end
section
end
section
open PySem.AutoSeq1 (wpAny_loadPart')
end
section
end
section
open PySem.AutoSeq1 (wpAny_loadPart')
end
section
end
section
open HT in
end
section
noncomputable def orX (a b:Option GE):Option GE:=match a with
 |some g=>Za g
 |none=>b
theorem zvf (c:znd x X)(b:znd y X):znd (λe=>orX (x e) (y e)) X:=λe g h=>by
 have h:orX (x e) (y e)=Za g:=h;unfold orX at h;split at h
 ·rename_i a q;obtain rfl:=sI h;exact c e a q
 ·exact b e g h
noncomputable def extE (fE:Sx->Zi->Option GE) (S:Sx) (e:Zi):Option GE:=orX (zm6 fE S e) (orX (zt4 fE S e) (z7a fE S e))
theorem z5h (H:zbb fE)(C:CxOk X S d):znd (extE fE S) X:=zvf (zre H C) (zvf (zvq H C) (z0r H C))
end
noncomputable def ncOf (scope:Scope):List Str:=(scope.names.filter λp=>p.2==.free||p.2==.local||p.2==.cell).map (·.1)
noncomputable def capC (S:Sx) (scope:Scope):Cap:=(ncOf scope).map λx=>if scope.names.lookup x==Za .free then S.N.findIdx? (· == x) else Zb
noncomputable def inS (S:Sx) (scope:Scope):Sx:={ N:=ncOf scope,kd:=scope.names,bn:=S.bn,fs:=S.fs,mp:=capKeep (capC S scope),top:=Zc }
noncomputable def zju (S:Sx) (scope:Scope):Bool:=decide (scope.kind=.function)&&zhm (capC S scope) (ncOf scope) S.N scope&&(scope.names.all λp=>!(p.2==.free)||S.kd.lookup p.1==Za .cell||S.kd.lookup p.1==Za .free) &&
 zfo scope && (scope.names.all λp=>!(p.2 == NameKind.local) || decide (scope.names.lookup p.1=some .local))&&decide (ncOf scope).Nodup
noncomputable def zos (fT:Sx->Zi->Option GT) (S:Sx):List Zi->Option GT
 |[]=>Za gYes
 |[c]=>fT S c
 |_=>Zb
noncomputable def zxc (fE:Sx->Zi->Option GE) (fT:Sx->Zi->Option GT) (S:Sx) (elt:Zi) (gens:List Comprehension) (scope:Scope):Option GE:=match gens with
 |[c]=>if zju S scope&&decide (c.is_async=0) then (zn4 fE S c.target c.iter).bind λg=>(tgE (inS S scope) c.target).bind λT=>(zos fT (inS S scope) c.ifs).bind λb=>(fE (inS S scope) elt).bind λt=>Za (zbu (capC S scope) T g b t) else Zb
 |[c,a]=>if zju S scope&&decide (c.is_async=0/\a.is_async=0) then (zn4 fE S c.target c.iter).bind λg=>(tgE (inS S scope) c.target).bind λT=>(zos fT (inS S scope) c.ifs).bind λb=>(zn4 fE (inS S scope) a.target a.iter).bind λe=>(tgE (inS S scope) a.target).bind λf=>(zos fT (inS S scope) a.ifs).bind λd=>(fE (inS S scope) elt).bind λt=>Za (zuq (capC S scope) T g b f e d t) else Zb
 |_=>Zb
structure ScOk (X:Cx) (S:Sx) (scope:Scope):Prop where
 kind:scope.kind=.function
 cap:zhm (capC S scope) (ncOf scope) X.N scope=Zd
 fr:zhe scope X.env.scope=Zd
 nc:zfo scope=Zd
 nm:(scope.names.all λp=>!(p.2 == NameKind.local) || decide (scope.names.lookup p.1=some .local))=Zd
 nd:(ncOf scope).Nodup
section
theorem zqb (C:CxOk X S d)(h:zju S scope=Zd):ScOk X S scope:=by
 unfold zju at h;simp only [Ac] at h;obtain⟨⟨⟨⟨⟨i,e⟩,b⟩,c⟩,g⟩,a⟩:=h;refine⟨Ao i,by rw[C.N];exact e,?_,c,g,Ao a⟩;unfold zhe;refine Az.mpr λp f=>?_;have q:=Az.mp b p f;simp only [Bx,Ff,El,beq_iff_eq,Cc] at q ⊢;rcases q with (q|q)|q
 ·exact .inl (.inl q)
 ·rcases C.vis p.1 (.inl q) with z|z
  ·exact .inl (.inr z)
  ·exact .inr z
 ·rcases C.vis p.1 (.inr q) with z|z
  ·exact .inl (.inr z)
  ·exact .inr z
theorem zho (C:CxOk X S d)(h:ScOk X S scope)(c:List (Str×Zh))(L:Zh)(s:Zf)(H:Hp)(fp:List Zh):CxOk (za8 X (ncOf scope) scope c L s H fp) (inS S scope) d where
 N:=rfl
 nd:=h.nd
 loc:=λx e=>za9 (env:=X.env) #v[0,9] e
 cel:=λx e=>⟨za9 (env:=X.env) #v[0,9] e,Aj e⟩
 vis:=λx e=>by
  rcases e with e|e
  ·exact .inl (za9 (env:=X.env) #v[0,9] e)
  ·exact zaz (env:=X.env) e
 gl:=λx e=>za9 (env:=X.env) #v[0,9] e
 calm:=C.calm
 xe:=rfl
 bn:=C.bn
 fs:=C.fs
 room:=C.room
 sl:=C.sl
 lam:=λh=>absurd (show ("" : Str)∈lams from h) #v[0,0,7]
 dpo:=Bk _
 sg:=C.sg
 bk:=by
  show (if scope.kind.isAnnotationScope then ScopeKind.function else scope.kind)=.function;rw[h.kind];rfl
end
theorem z0o {K:Zg}(h:tT K gYes σ H Q):z1v σ H Q:=by
 obtain⟨F,p,a,e,b,R,h,q⟩:=h;cases h;exact q F H (.refl F) R
structure CompP (X:Cx) (S:Sx) (elt:Zi) (gens:List Comprehension) (scope:Scope) (g:GE):Prop where
 ex:∃tg iter ifs gs gi T tc,∃(em:Pos->Ze->Env->Sem Unit) (tm:Zh->TM),gens=⟨tg,iter,ifs,0⟩::gs/\(∀pos it acc env,compTurn #v[2,10] 0 it acc env=zoc #v[2,10] 0 tg iter ifs (em pos acc env) it acc env)/\ScOk X S scope/\PI X tg iter (tI X.K gi)/\(∀x,foldedSetIterable iter X.env x=pure x) /\
  (∀cl C s3 H3 fp,PG (za8 X (ncOf scope) scope cl C s3 H3 fp) tg (TGof X.K T))/\(∀cl C s3 H3 fp,PTs (za8 X (ncOf scope) scope cl C s3 H3 fp) ifs (tT X.K tc))/\(∀pos cl C s3 H3 fp acc,PM (za8 X (ncOf scope) scope cl C s3 H3 fp) (em pos (.ref acc) (za8 X (ncOf scope) scope cl C s3 H3 fp).env) (tm acc)) /\
  ∀σ H Q,tE X.K g σ H Q->zst (tI X.K gi) (capC S scope) (TGof X.K T) (tT X.K tc) tm σ H Q
section
theorem PTs.wk (h:PTs X ifs t)(i:∀σ H Q,t' σ H Q->t σ H Q):PTs X ifs t':=λpins s σ H Q I q=>h pins s σ H Q I (i σ H Q q)
theorem zi3 (HT:zkg fT)(C:CxOk X S d):∀{ifs:List Zi}{tc:GT},zos fT S ifs=Za tc->PTs X ifs (tT X.K tc)
 |[],_,h=>by obtain rfl:=sI h;exact z4t.wk λ_ _ _=>z0o
 |[_],_,h=>z6r (HT _ _ d C _ _ h)
 |_::_::_,_,h=>noSome h
theorem zhc (j:zbb fE)(HT:zkg fT)(C:CxOk X S d)(h:zxc fE fT S elt gens scope=Za g):CompP X S elt gens scope g:=by
 unfold zxc at h;split at h
 ·rename_i c;obtain⟨tg,iter,ifs,q⟩:=c;split at h
  ·rename_i z;rw[Ac] at z;have B:q=0:=Ao z.2;subst B;obtain⟨m,r,h⟩:=bS h;obtain⟨T,hT,h⟩:=bS h;obtain⟨y,i,h⟩:=bS h;obtain⟨t,f,h⟩:=bS h;obtain rfl:=sI h;have e:=zqb C z.1;obtain⟨w,p⟩:=zd9 j C r;exact⟨tg,iter,ifs,[],m,T,y,λ_=>z8h elt,λb=>zq9 b (tE X.K t),rfl,λ_ _ _ _=>rfl,e,w,p,λa L s H fp=>zop (zho C e a L s H fp) hT,λa L s H fp=>zi3 HT (zho C e a L s H fp) i,λ_ a L s H fp b=>z18 (j _ _ d (zho C e a L s H fp) _ _ f),λ_ _ _=>zuy⟩
  ·exact noSome h
 ·rename_i c E;obtain⟨tg,iter,ifs,q⟩:=c;obtain⟨tg2,iter2,ifs2,o⟩:=E;split at h
  ·rename_i z;rw [Ac] at z;obtain ⟨B,u⟩:q=0/\o=0:=Ao z.2;subst B u;obtain ⟨m,r,h⟩:=bS h;obtain ⟨T,hT,h⟩:=bS h;obtain ⟨y,i,h⟩:=bS h;obtain ⟨n,k,h⟩:=bS h;obtain ⟨F,x,h⟩:=bS h;obtain ⟨A,l,h⟩:=bS h;obtain ⟨t,f,h⟩:=bS h;obtain rfl:=sI h;have e:=zqb C z.1;obtain ⟨w,p⟩:=zd9 j C r;exact ⟨tg,iter,ifs,[⟨tg2,iter2,ifs2,0⟩],m,T,y,λpos=>zzg #v[3,7] iter2,λb=>tTwo (tI X.K n) (TGof X.K F) (tT X.K A) (zq9 b (tE X.K t)),rfl,λ_ _ _ _=>zzv,e,w,p,λa L s H fp=>zop (zho C e a L s H fp) hT,λa L s H fp=>zi3 HT (zho C e a L s H fp) i,
   λpos a L s H fp b=>ybj (λ_ _ z=>z) C.calm (zd9 j (zho C e a L s H fp) k).1 (zop (zho C e a L s H fp) x) (zi3 HT (zho C e a L s H fp) l) (j _ _ d (zho C e a L s H fp) _ _ f) (zd9 j (zho C e a L s H fp) k).2,λ_ _ _=>zhv λG b D=>yb6 (z8k D)⟩
  ·exact noSome h
 ·exact noSome h
theorem zxb (C:CxOk X S d)(h:CompP X S elt gens scope g):PE X #v[2,10] (tE X.K g):=by
 nofun;obtain⟨m,iter,ifs,l,i,T,t,k,j,c,e,s,a,b,p,pt,f,rd⟩:=h.ex;ac_rfl;subst c;exact (z3o a p pt (f pos) (e pos) C.calm s.kind s.cap s.fr s.nc s.nm b).wk rd
noncomputable def z7f (fE:Sx->Zi->Option GE) (S:Sx):Option Zi->Option GO
 |none=>Za zbx
 |some e=>(fE S e).bind λg=>Za (zd2 g)
noncomputable def z09 (fE:Sx->Zi->Option GE) (fT:Sx->Zi->Option GT) (S:Sx) (e:Zi):Option GE:=match e with
 |.Name x _=>(S.rd x).bind λi=>Za (gVar i)
 | .Constant c _ _=>(match c with
  |.int i=>Za (gC (.int i))
  |.bool b=>Za (gC (.bl b))
  |.none=>Za (gC .non)
  |.str x=>Za (gC (.str x))
  |_=>Zb)
 |.BinOp a d b _=>(za0 fE S a).bind λx=>(za0 fE S b).bind λy=>(binO d).bind λo=>Za (gOp2 o x y)
 | .UnaryOp d a _=>(match d with
  |.USub=>(za0 fE S a).bind λx=>Za (gOp1 oNeg x)
  |_=>Zb)
 | .BoolOp d f _=>(match f with
  |v::f=>z5p (fE S) d v f
  |[]=>Zb)
 |.Compare a ops u _=>cmpC fE S a ops u
 | .Subscript a s _=>(match s with
  | .Slice t r w _=>(match w with
   |none=>(za0 fE S a).bind λx=>(z7f fE S t).bind λl=>(z7f fE S r).bind λh=>Za (gSl x l h)
   |some _=>Zb)
  |s=>if zcs s then (za0 fE S a).bind λx=>(za0 fE S s).bind λy=>Za (gOp2 oIx x y) else Zb)
 |.List n _=>(asL (λe=>(fE S e).bind λg=>Za (gArg g)) n).bind λp=>Za (zap p)
 |.Tuple n _ _=>(asL (λe=>(fE S e).bind λg=>Za (gArg g)) n).bind λp=>Za (zb1 p)
 | .Call j args k pos=>(match k with
  | []=>(match j with
   |.Name x _=>z5b fE S x args
   |.Attribute o m z=>z6s fE S o m z args pos
   |_=>Zb)
  | [⟨Za key,.Lambda params body scope _,_⟩]=>(match j,args with
   |.Name x _,[e]=>z3y fE S x e key params body scope
   |_,_=>Zb)
  | [⟨Za key,q,_⟩]=>(match j,args with
   |.Name x _,[e]=>maxE fE S x e key q
   |_,_=>Zb)
  |_=>Zb)
 |.ListComp elt gens scope _=>zxc fE fT S elt gens scope
 |_=>Zb
noncomputable def z60 (fE:Sx->Zi->Option GE) (fT:Sx->Zi->Option GT) (S:Sx) (e:Zi):Option GT:=match e with
 | .BoolOp o b _=>(match b with
  |v::b=>z57 (fT S) o v b
  |[]=>Zb)
 |.Compare a ops c _=>(cmpC fE S a ops c).bind λg=>Za (zah g)
 | .UnaryOp o a p=>(match o with
  |.Not=>(fT S a).bind λg=>Za (zhg g)
  |o=>if zoh (.UnaryOp o a p) then (fE S (.UnaryOp o a p)).bind λg=>Za (zah g) else Zb)
 |e=>if zoh e then (fE S e).bind λg=>Za (zah g) else Zb
theorem zoo (b:zbb fE) (C:CxOk X S d) (h:z7f fE S o=Za g):PO X o (tO X.K g):=by
 cases o with
 |none=>obtain rfl:=sI h;exact λpins s σ H Q I q=>z3v pins s σ H Q I (zny q)
 | some e =>
  obtain⟨c,a,h⟩:=bS h;obtain rfl:=sI h;exact λpins s σ H Q I q=>z3b (b X S d C _ _ a) pins s σ H Q I (zwq q)
theorem z05 (H:zbb fE) (HT:zkg fT):zbb (z09 fE fT):=λX S d C e g h=>by
 have A:∀e a,((fE S e).bind λg=>Za (gArg g))=Za a->PE X e (tA X.K a):=λe a h=>by
  obtain⟨P,E,h⟩:=bS h;obtain rfl:=sI h;exact (H X S d C _ _ E).wk λ_ _ _=>zf3
 cases e with
 | Name x p =>
  obtain⟨i,w,h⟩:=bS (show (S.rd x).bind _=_ from h);obtain rfl:=sI h;exact (zrt C w).wk λ_ _ _=>zzn
 | Constant c k p =>
  cases c with
  |int i=>obtain rfl:=sI h;exact ya6.wk λ_ _ _=>zdt λ_=>.int i
  |bool b=>obtain rfl:=sI h;exact ycj.wk λ_ _ _=>zdt λ_=>.bl b
  |none=>obtain rfl:=sI h;exact ya7.wk λ_ _ _=>zdt λ_=>.non
  |str x=>obtain rfl:=sI h;exact ybg.wk λ_ _ _=>zdt λ_=>.str x
  |_=>exact noSome h
 | BinOp a j b p =>
  obtain⟨x,f,h⟩:=bS (show (za0 fE S a).bind _=_ from h);obtain⟨y,n,h⟩:=bS h;obtain⟨o,B,h⟩:=bS h;obtain rfl:=sI h;obtain⟨r,G,D⟩:=z6b (X:=X) B;exact (ycw G (zaf H C f) (zaf H C n)).wk λ_ _ _=>zcz D
 | UnaryOp j a p =>
  cases j with
  | USub =>
   obtain⟨x,f,h⟩:=bS (show (za0 fE S a).bind _=_ from h);obtain rfl:=sI h;exact (yce z9i (zaf H C f)).wk λ_ _ _=>zyg z3w
  |_=>exact noSome h
 | BoolOp j t p =>
  cases t with
  |nil=>exact noSome h
  |cons v t=>exact zoi (λe g=>H X S d C e g) h
 |Compare a ops R p=>exact (zug H C h).1
 | Subscript a s p =>
  have J:∀s,(if zcs s then (za0 fE S a).bind λx=>(za0 fE S s).bind λy=>Za (gOp2 oIx x y) else Zb)=Za g->PE X (.Subscript a s p) (tE X.K g):=λs h=>by
   split at h
   ·rename_i z
    obtain⟨x,f,h⟩:=bS h;obtain⟨y,n,h⟩:=bS h;obtain rfl:=sI h;exact (z9k (zwy.or z2e) (zaf H C f) (zaf H C n) (zh1 z)).wk λ_ _ _=>zcz z2h
   ·exact noSome h
  cases s with
  | Slice Q w K M =>
   cases K with
   |some _=>exact noSome h
   | none =>
    obtain⟨x,f,h⟩:=bS (show (za0 fE S a).bind _=_ from h);obtain⟨l,I,h⟩:=bS h;obtain⟨u,O,h⟩:=bS h;obtain rfl:=sI h;exact (zy9 ((z43.or ybd).or z6f) (zaf H C f) (zoo H C I) (zoo H C O)).wk λ_ _ _=>z5j
  |_=>exact J _ h
 | List q p =>
  obtain⟨N,has,h⟩:=bS (show (asL _ q).bind _=_ from h);obtain rfl:=sI h;exact (z79 (zfq A has).1).wk λ_ _ _=>z1d
 | Tuple q k p =>
  obtain⟨N,has,h⟩:=bS (show (asL _ q).bind _=_ from h);obtain rfl:=sI h;exact (z8w (zfq A has).1).wk λ_ _ _=>z0i
 | Call L args F p =>
  simp only [z09] at h;split at h
  ·cases L with
   |Name x M=>exact zzk H C h
   |Attribute o m T=>exact zxx H C h
   |_=>exact noSome h
  ·split at h
   ·exact zzf H C h
   ·exact noSome h
  ·split at h
   ·exact z3f H C h
   ·exact noSome h
  ·exact noSome h
 |ListComp elt gens scope p=>exact zxb C (zhc H HT C h)
 |_=>exact noSome h
theorem zys (H:zbb fE) (HT:zkg fT):zkg (z60 fE fT):=λX S d C e g h=>by
 have b:∀e,(if zoh e then (fE S e).bind λg=>Za (zah g) else Zb)=Za g->PT X e (tT X.K g):=λe h=>by
  split at h
  ·rename_i z
   obtain⟨x,c,h⟩:=bS h;obtain rfl:=sI h;exact (ybi (H X S d C _ _ c) (zr1 z)).wk λ_ _ _=>zde λ_ _ _ q=>q
  ·exact noSome h
 cases e with
 | BoolOp o f p =>
  cases f with
  |nil=>exact noSome h
  |cons v f=>exact (zir (λe g=>HT X S d C e g) h).pt
 | Compare a ops i p =>
  obtain⟨x,c,h⟩:=bS (show (cmpC fE S a ops i).bind _=_ from h);obtain rfl:=sI h;exact (zug H C c).2
 | UnaryOp o a p =>
  cases o with
  | Not =>
   obtain⟨x,c,h⟩:=bS (show (fT S a).bind _=_ from h);obtain rfl:=sI h;exact (z95 (HT X S d C _ _ c)).wk λ_ _ _=>zsb
  |_=>exact b _ h
 |_=>exact b _ h
end
mutual
noncomputable def zhh:W->Bool
 |.non=>Zd
 |.bl _=>Zd
 |.int _=>Zd
 |.str _=>Zd
 |.tup x=>zh2 x
 |_=>Zc
noncomputable def zh2:List W->Bool
 |[]=>Zd
 |w::a=>zhh w&&zh2 a
end
noncomputable def z53:W->Bool
 |.lst w=>zh2 w
 |_=>Zc
noncomputable def borX (x y:Option (W×Bool)):Option (W×Bool):=match x with
 | some (_,Zd)=>(match y with
  |#v[w,5]=>if z53 w then #v[w,5] else Zb
  |_=>Zb)
 |x=>x
noncomputable def gBor (i:Nat) (g:GE):GE:=λe=>match e[i]? with
 |some (#v[w,2])=>(g (e.set i (#v[w,1]))).bind λp=>if p.1.length=e.length/\zhh p.2.1=Zd/\p.2.2=Zc then Za ((List.zipWith borX e p.1).set i (#v[w,2]),p.2) else Zb
 |_=>g e
section
variable {K:Zg}
mutual
theorem zo1 (a:∀b w,zhh w=Zd->Rep K F2 w (.ref b)->F b=F2 b):∀{w:W}{v:V},Rep K F2 w v->zhh w=Zd->Rep K F w v
 |_,_,.non,_=>.non
 |_,_,.bl b,_=>.bl b
 |_,_,.int i,_=>.int i
 |_,_,.str x,_=>.str x
 |_,_,.tup h r,p=>.tup ((a _ _ p (.tup h r)).trans h) (zf8 a r p)
 |_,_,.lst _ _,p=>nomatch p
 |_,_,.frl _ _,p=>nomatch p
 |_,_,.dic _,p=>nomatch p
 |_,_,.dct _ _ _,p=>nomatch p
 |_,_,.dctT _ _ _,p=>nomatch p
 |_,_,.dcz _ _ _,p=>nomatch p
 |_,_,.dczT _ _ _,p=>nomatch p
theorem zf8 (a:∀b w,zhh w=Zd->Rep K F2 w (.ref b)->F b=F2 b):∀{ws:List W}{vs:List V},Reps K F2 ws vs->zh2 ws=Zd->Reps K F ws vs
 |_,_,.nil,_=>.nil
 |_,_,.cons h r,p=>.cons (zo1 a h ((Ac _ _).mp p).1) (zf8 a r ((Ac _ _).mp p).2)
end
open Classical in
noncomputable def ze2 (K:Zg) (F a:Hp):Hp:=λb=>match F b with
 |some o=>Za o
 |none=>if (∃c,a b=Za (.ext c))\/∃w,zhh w=Zd/\Rep K a w (.ref b) then a b else Zb
theorem zvv (s:Same F F2):Same (ze2 K F F2) F2:=λb o e=>by
 unfold ze2 at e;split at e
 ·rename_i c a;cases e;exact s _ _ a
 ·split at e
  ·exact e
  ·cases e
theorem zvr:Same F (ze2 K F F2):=λb o e=>by
 unfold ze2;rw[e]
theorem zqx (s:Same F F2)(b:Zh)(w:W)(p:zhh w=Zd)(r:Rep K F2 w (.ref b)):ze2 K F F2 b=F2 b:=by
 unfold ze2;split
 ·rename_i o e;exact (s _ _ e).symm
 ·rw[if_pos (.inr ⟨w,p,r⟩)]
theorem z0j (h:tE K (gBor i g) σ H Q):tE K g σ H Q:=by
 obtain⟨F,Z,t,Y,r,R,h,q⟩:=h;unfold gBor at h;split at h
 ·rename_i X e
  obtain⟨⟨I,r1⟩,h1,h⟩:=bS h;split at h
  ·rename_i z
   obtain ⟨z1,z2,z3⟩:=z;cases h;obtain ⟨a,o,M,rfl,B,ha,fa,ow⟩:=R.own i _ e;obtain ⟨S,rfl,rv⟩:=ow.list;obtain ⟨F1,s1,R1,d⟩:=R.freeze e B;have f1:F1 a=Za (.lst S):=by
    cases d with
    |lst J _=>exact J.trans ((R1.sub _ _ J).symm.trans ha)
   refine ⟨F1,Z,_,I,r1,R1,h1,λl H2 v s2 R2 f=>?_⟩;have s:Same F l:=s1.trans s2;have C:l a=Za (.lst S):=s2 _ _ f1;have sub:=zvv (K:=K) s;have p:Same F (ze2 K F l):=zvr;have pu:∀b w,zhh w=Zd->Rep K l w (.ref b)->ze2 K F l b=l b:=zqx s;have n:∀b,l b=Zb->ze2 K F l b=Zb:=λb e=>by
    cases x:ze2 K F l b with
    |none=>rfl
    |some o=>rw[sub _ _ x] at e;cases e
   have ka:ze2 K F l a=Zb:=by
    unfold ze2;rw[fa];refine if_neg λz=>?_;rcases z with⟨c,z⟩|⟨w,z,y⟩
    ·rw[C] at z;cases z
    ·cases y with
     |tup J _=>rw[C] at J;cases J
     |_=>cases z
   have hi:i<(List.zipWith borX t I).length:=by rw[Em,z1,Gi];exact (Ah.mp e).1
   have get:∀(j:Nat) (w:W) (b:Bool),((List.zipWith borX t I).set i (Za (.lst X,Zd)))[j]?=Za (Za (w,b))->(j=i/\w=.lst X/\b=Zd)\/(j≠i/\b=Zc/\t[j]?=Za (Za (w,Zc)))\/(j≠i/\b=Zd/\(∃N,t[j]?=Za (Za (N,Zd)))/\I[j]?=Za (Za (w,Zd))/\z53 w=Zd):=λj w b x=>by
    have E:=zce hi x;clear x;rcases E with⟨ji,y⟩|⟨ne,x⟩
    ·cases y;exact .inl ⟨ji,rfl,rfl⟩
    ·rw [List.getElem?_zipWith] at x
     refine .inr ?_;cases D:t[j]? with
     |none=>rw[D] at x;cases x
     | some u =>
      cases L:I[j]? with
      |none=>rw[D,L] at x;cases x
      | some A =>
       rw[D,L] at x;have x:borX u A=Za (w,b):=sI x
       match u,x with
       |none,x=>cases x
       |#v[N,6],x=>cases x;exact .inl ⟨ne,rfl,rfl⟩
       | some (N,Zd),x =>
        match A,x with
        |none,x=>cases x
        |#v[U,6],x=>cases x
        | some (U,Zd),x =>
         have x:(if z53 U then #v[U,5] else Zb)=Za (w,b):=x;split at x
         ·rename_i O
          cases x;exact .inr ⟨ne,rfl,⟨N,rfl⟩,rfl,O⟩
         ·cases x
   refine q (ze2 K F l) H2 v p ⟨?_,λb o x=>R2.sub _ _ (sub _ _ x),λj w x=>?_,λj w x=>?_,λj k b w M D L d f=>?_,λb o x=>?_,?_⟩ ?_
   ·rw[Ee,Em,z1,Gi];exact R.len
   ·rcases get j w Zc x with ⟨_,_,c⟩ | ⟨_,_,x⟩ | ⟨_,c,_⟩
    ·cases c
    ·obtain ⟨v,d,f⟩:=R.val j w x
     exact⟨v,d,f.mono p⟩
    ·cases c
   ·rcases get j w Zd x with ⟨rfl,rfl,_⟩ | ⟨_,c,_⟩ | ⟨_,_,_,x,O⟩
    ·exact⟨a,.lst S,.lst X,rfl,B,R2.sub _ _ C,ka,.lst (rv.mono p)⟩
    ·cases c
    ·obtain ⟨b,o,M, rfl,d,f,m,V⟩:=R2.own j w x
     refine⟨b,o,w,rfl,d,f,n b m,?_⟩;cases V with
     |lst r=>exact .lst (zf8 pu r O)
     |_=>cases O
   ·rcases get j w Zd D with ⟨rfl,_,_⟩ | ⟨_,c,_⟩ | ⟨n1,_,_,u1,_⟩
    ·rcases get k M Zd L with ⟨rfl,_,_⟩ | ⟨_,c,_⟩ | ⟨n2,_,_,A,_⟩
     ·rfl
     ·cases c
     ·obtain ⟨b', o,w2,_,m,V,G,_⟩:=R2.own k _ A
      rw[f] at m;cases m;rw[d] at B;cases B;rw[C] at G;cases G
    ·cases c
    ·rcases get k M Zd L with ⟨rfl,_,_⟩ | ⟨_,c,_⟩ | ⟨n2,_,_,A,_⟩
     ·obtain ⟨b', o,w2,_,m,V,G,_⟩:=R2.own j _ u1
      rw[d] at m;cases m;rw[f] at B;cases B;rw[C] at G;cases G
     ·cases c
     ·exact R2.inj j k b w M u1 A d f
   ·obtain ⟨d,f,m⟩:=R2.prt b o x
    refine⟨d,n b f,λj w y=>?_⟩;rcases get j w Zd y with⟨rfl,_,_⟩|⟨_,c,_⟩|⟨_,_,_,u,_⟩
    ·exact (R.prt b o x).2.2 j _ e
    ·cases c
    ·exact m j w u
   ·refine ⟨R2.tb.1,λx hx c P ex => ?_⟩
    obtain⟨ps,a1,a2,a3,a4,a5⟩:=R2.tb.2 x hx c P ex;refine⟨ps,a1,n P a2,a3,a4,λpos cv y=>?_⟩;obtain⟨c',b1,T⟩:=a5 pos cv y;refine⟨c',b1,?_⟩;cases E:F c' with
    |some o=>rw[p _ _ E];exact (s _ _ E).symm.trans T
    | none =>
     unfold ze2;rw[E];exact (if_pos (.inl ⟨_,T⟩)).trans T
   ·obtain ⟨w,fl⟩:=r1
    cases z3;exact zo1 pu f z2
  ·cases h
 ·exact⟨F,Z,t,Y,r,R,h,q⟩
end
noncomputable def borA (S:Sx):Zi->Option Nat
 |.Name x _=>if S.bn.contains (("b " : Str)++x) then S.rd x else Zb
 |_=>Zb
noncomputable def borN (S:Sx):Zi->Option Nat
 |.Call (.Name f _) args [] _=>if S.bl f then Zb else args.findSome? (borA S)
 |_=>Zb
noncomputable def borE (S:Sx) (e:Zi) (g:GE):GE:=match borN S e with
 |some i=>gBor i g
 |none=>g
theorem zta (h:PE X e (tE X.K g)):PE X e (tE X.K (borE S e g)):=by
 unfold borE;split
 ·exact h.wk λ_ _ _=>z0j
 ·exact h
noncomputable def z3h:GE:=λ_=>Zb
noncomputable def zxq:GT:=λ_=>Zb
mutual
noncomputable def compE:Nat->Sx->Zi->Option GE
 |0,_,_=>Za z3h
 |n+1,S,e=>Za (borE S e ((orX (extE (compE n) S e) (z09 (compE n) (compT n) S e)).getD z3h))
noncomputable def compT:Nat->Sx->Zi->Option GT
 |0,_,_=>Za zxq
 |n+1,S,e=>Za ((z60 (compE n) (compT n) S e).getD zxq)
end
theorem zvx:PE X e (tE X.K z3h):=λ_ _ _ _ _ _ q=>by obtain⟨_,_,_,_,_,_,h,_⟩:=q;exact noSome h
theorem zot:PT X e (tT X.K zxq):=λ_ _ _ _ _ _ q=>by obtain⟨_,_,_,_,_,_,h,_⟩:=q;exact noSome h
theorem zgy:∀n,zbb (compE n)/\zkg (compT n)
 |0=>⟨λ_ _ _ _ _ _ h=>by rw[compE] at h;obtain rfl:=sI h;exact zvx,λ_ _ _ _ _ _ h=>by rw[compT] at h;obtain rfl:=sI h;exact zot⟩
 | n+1=>by
  obtain⟨a,b⟩:=zgy n;refine⟨λX S d C e g h=>?_,λX S d C e g h=>?_⟩
  ·rw [compE] at h
   cases q:orX (extE (compE n) S e) (z09 (compE n) (compT n) S e) with
   |none=>rw[q] at h;obtain rfl:=sI h;exact zta zvx
   |some c=>rw[q] at h;obtain rfl:=sI h;exact zta (zvf (z5h a C) (z05 a b X S d C) e _ q)
  ·rw [compT] at h
   cases q:z60 (compE n) (compT n) S e with
   |none=>rw[q] at h;obtain rfl:=sI h;exact zot
   |some c=>rw[q] at h;obtain rfl:=sI h;exact zys a b X S d C e _ q
end L2
namespace L2
open PySem PySem.Spec PyProof.Rows
section
end
section
variable {K:Zg}
end
section
end
section
theorem z7z:swappedStores [.Subscript o k p] e env=pure Zb:=by
 cases e<;>rfl
theorem zyf:swapsWithSole [.Subscript o k p] e l env=pure Zc:=by
 cases e<;>rfl
theorem zrw (h:zcs k=Zd):∀v,assign (.Subscript o k p) env v=(do
  let a <- holding [v] (eval o env)
  let i <- holding [v,a] (eval k env)
  standAt p
  holding [v,a,i] (setItem a i v)
  release [v,a,i] []):=by
 intro v;cases k<;>first|rfl|(cases h)
end
noncomputable def zc6 (mp:List Nat) (i:Nat):GS:=λe=>match e[i]? with
 |some (#v[w,5])=>if mp.contains i then Zb else Za (e.set i Zb,.ret (w,Zd))
 |some (#v[w,6])=>Za (e,.ret (w,Zc))
 |_=>Zb
theorem zvh {K:Zg}(h:tS K mp (zc6 mp i) D σ H):tRet (tVar i) D σ H:=by
 obtain⟨F,p,d,c,fl,R,h,q⟩:=h;unfold zc6 at h;split at h
 ·rename_i w e;split at h
  ·exact noSome h
  ·cases h;obtain⟨v,a,b,z⟩:=R.drop e;exact⟨v,a,q F σ H v (.refl F) b (.refl _ _) z⟩
 ·rename_i w e;cases h;obtain⟨v,a,z⟩:=R.val i w e;exact⟨v,a,q F σ H v (.refl F) R (.refl _ _) z⟩
 ·exact noSome h
noncomputable def zz8 (f:Sx->Stmt->Option GS):Prop:=∀X S d,CxOk X S d->∀s g,f S s=Za g->PS X s (tS X.K S.mp g)
noncomputable def blk (f:Sx->Stmt->Option GS) (S:Sx):List Stmt->Option GS
 |[]=>Za zc7
 | c::s=>match s with
  |[]=>f S c
  |_::_=>(f S c).bind λa=>(blk f S s).bind λb=>Za (gSeq a b)
noncomputable def zjz (S:Sx) (x:Str) (p:Pos) (scope:Scope) (pos:Pos):Bool:=S.kd.lookup x==Za .local&&p.line==pos.line && !(scope.names.any λ(n,k)=>n == x && (k == .local || k == .cell))
noncomputable def zm0 (S:Sx) (x:Str):Bool:=S.top&&S.kd.lookup x==Za .cell
noncomputable def zyu (S:Sx) (x:Str) (p:Pos) (y:Str) (c:Pos) (a b:Zi):Bool:=S.kd.lookup x==Za .local&&S.kd.lookup y==Za .local&&p.line==c.line && !(x==y) && !(foldedForSure 8 a&&foldedForSure 8 b) && !(constantsAlone 8 a&&constantsAlone 8 b)&&zag a&&zag b
noncomputable def z3p:Zi->Bool
 |.Tuple ..=>Zd
 |_=>Zc
noncomputable def ze1:Nat:=4096
noncomputable def asgE (fE:Sx->Zi->Option GE) (fT:Sx->Zi->Option GT) (S:Sx) (t e:Zi):Option GS:=match t with
 | .Name x p=>(S.wr x).bind λi=>(match e with
  |.ListComp elt gens scope pos=>(zxc fE fT S elt gens scope).bind λg=>if zjz S x p scope pos||zm0 S x then Za (gSet S.mp i g) else Zb
  |e=>if zg8 e then (fE S e).bind λg=>Za (gSet S.mp i g) else Zb)
 | .Tuple c _ _=>(match c,e with
  |[.Name x p,.Name y m],.Tuple [a,b] _ _=>if zyu S x p y m a b then (S.wr x).bind λi=>(S.wr y).bind λj=>(fE S a).bind λf=>(fE S b).bind λl=>Za (gPar S.mp i j f l) else Zb
  |c,e=>if z3p e then Zb else (zgk S c).bind λd=>(fE S e).bind λg=>Za (gAsg S.mp (.tp d) g))
 | .Subscript o k _=>(match o with
  |.Name x _=>if zcs k then (S.rd x).bind λi=>(fE S k).bind λh=>(fE S e).bind λg=>Za (za1 i h g) else Zb
  |_=>Zb)
 |_=>Zb
noncomputable def zq6 (mp:List Nat) (i:Nat) (g:GE):GS:=λe=>match e[i]? with
 |some (#v[_,2])=>z5f mp i g e
 |_=>gAug mp #v[5,11] i (gArg g) e
theorem zwt {K:Zg}(b:OpS K r #v[5,11])(h:tS K mp (zq6 mp i g) D σ H):tAug i (tE K g) z3s D σ H\/tAug i (tA K (gArg g)) r D σ H:=by
 obtain⟨F,p,a,e,fl,R,h,q⟩:=h;unfold zq6 at h;split at h
 ·exact .inl (zt3 ⟨F,p,a,e,fl,R,h,q⟩)
 ·exact .inr (zqn b ⟨F,p,a,e,fl,R,h,q⟩)
noncomputable def zo2:Zi->Bool
 |.Constant ..=>Zc
 |_=>Zd
noncomputable def z6w (fS:Sx->Stmt->Option GS) (fE:Sx->Zi->Option GE) (fT:Sx->Zi->Option GT) (S:Sx) (st:Stmt):Option GS:=match st with
 | .Return o _=>(match o with
  |none=>Zb
  | some e=>(match e with
   |.Name x _=>(S.rd x).bind λi=>Za (zc6 S.mp i)
   |e=>(fE S e).bind λg=>Za (gRet g)))
 |.If c a b _=>(fT S c).bind λt=>(blk fS S a).bind λx=>(blk fS S b).bind λy=>Za (gIfS t x y)
 | .For f j body d _=>(match d with
  |[]=>(zn4 fE S f j).bind λk=>(tgE S f).bind λT=>(blk fS S body).bind λg=>Za (gFor S.mp T k g)
  |_=>Zb)
 | .While c body d _=>(match d with
  |[]=>(fT S c).bind λt=>(blk fS S body).bind λg=>Za (zdb t g ze1)
  |_=>Zb)
 |.Pass _=>Za zc7
 |.Expr e _=>if zg8 e then (fE S e).bind λg=>Za (zfj g) else Zb
 | .Assign l e _=>(match l with
  |[f]=>asgE fE fT S f e
  |_=>Zb)
 | .AugAssign f h e _=>(match f with
  |.Name x _=>if h==.Add&&zo2 e then (S.wr x).bind λi=>(fE S e).bind λg=>Za (zq6 S.mp i g) else (S.wr x).bind λi=>(augO h).bind λo=>(za0 fE S e).bind λa=>Za (gAug S.mp o i a)
  |_=>Zb)
 |_=>Zb
section
theorem zhw (HS:zz8 fS) (C:CxOk X S d):∀{s:List Stmt}{g:GS},blk fS S s=Za g->PSs X s (tS X.K S.mp g)
 |[],_,h=>by obtain rfl:=sI h;exact z4b.wk λ_ _ _=>zmc
 |[c],_,h=>z4n (HS X S d C _ _ h)
 | c::e::s,_,h=>by
  obtain⟨a,i,h⟩:=bS (show (fS S c).bind _=_ from h);obtain⟨b,f,h⟩:=bS h;obtain rfl:=sI h;exact (z0g (HS X S d C _ _ i) (zhw HS C f)).wk λ_ _ _=>z08
theorem yc2 (C:CxOk X S d)(h:zjz S x px scope pos=Zd):swapsWith #v[2,10] (Za (.Name x px)) l X.env=pure Zd:=by
 unfold zjz at h;rw[Ac,Ac] at h;have a:X.env.kindOf x=Za .local:=C.loc x (by simpa using h.1.1);show (pure (X.env.blockKind==.function&&X.env.kindOf x==Za .local&&px.line==pos.line && !(scope.names.any λ(n,k)=>n == x && (k == .local || k == .cell))):Sem Bool)=pure Zd;rw[C.bk,a,h.1.2,h.2]
 rfl
theorem swNo (C:CxOk X S d)(h:zm0 S x=Zd):swapsWith #v[2,10] (Za (.Name x px)) l X.env=pure Zc:=by
 unfold zm0 at h;rw[Ac] at h;have a:X.env.kindOf x=Za .cell:=(C.cel x (by simpa using h.2)).1;show (pure (X.env.blockKind==.function&&X.env.kindOf x==Za .local&&px.line==pos.line && !(scope.names.any λ(n,k)=>n == x && (k == .local || k == .cell))):Sem Bool)=pure Zc;rw[a];have:(Za NameKind.cell==Za NameKind.local)=Zc:=rfl;rw[this,Hl,Fp,Fp]
theorem yaw (C:CxOk X S d)(h:zyu S x px y py a b=Zd):swappedStores [.Tuple [.Name x px,.Name y py] kt pt] (.Tuple [a,b] k2 pt2) X.env=pure (Za [x,y]):=by
 unfold zyu at h;simp only [Ac] at h;nofun;obtain⟨⟨⟨⟨⟨⟨⟨w,m⟩,A⟩,p⟩,f⟩,g⟩,E⟩,u⟩:=h;ac_rfl;have B:X.env.kindOf x=Za .local:=C.loc x (by simpa using w);have k2:X.env.kindOf y=Za .local:=C.loc y (by simpa using m);have l:px.line=py.line:=by simpa using A
 have t:¬ x=y:=by simpa using p
 have i:∀e,zag e=Zd->(match e with|.Starred ..=>Zd|_=>Zc)=Zc:=λe h=>by cases e<;>first|rfl|(cases h)
 have s:([a,b].any λe=>match e with|.Starred ..=>Zd|_=>Zc)=Zc:=by
  rw[Dy,Dy,List.any_nil,i a E,i b u];rfl
 unfold swappedStores;simp only [Bf,Ez,C.bk,pure_bind];rw[if_neg #v[0,9]]
 try simp only [pure_bind]
 refine (if_neg (λz=>As (s.symm.trans z))).trans ?_;have nm:List.filterMap (λe=>match e with|.Name id pos=>if (X.env.kindOf id==Za .local&&pos.line==(Option.map (λe=>e.pos.line) ([Zi.Name x px,Zi.Name y py]:List Zi).head?).getD 0)=Zd then Za id else Zb|_=>Zb) ([Zi.Name x px,Zi.Name y py]:List Zi)=[x,y]:=by
  have k:((Zi.Name x px).pos.line)=px.line:=rfl;simp [B,k2,k,l]
 try simp only [pure_bind]
 generalize D:List.filterMap _ ([Zi.Name x px,Zi.Name y py]:List Zi)=names;have c:names=[x,y]:=D.symm.trans nm;subst c;have j:(y==x)=Zc:=by
  cases q:y==x with
  |false=>rfl
  |true=>exact absurd (Bn q).symm t
 have o:([x,y]:List Str).eraseDups=[x,y]:=by
  rw[List.eraseDups_cons,Fw,j];simp only [Fo,Gf,List.filter_nil];rw[List.eraseDups_cons,List.filter_nil,List.eraseDups_nil]
 rw[o,if_neg (by simp)]
 try simp only [pure_bind]
 have r:¬ (foldedForSure 8 a&&foldedForSure 8 b)=Zd:=λz=>by rw[z] at f;cases f
 have n:¬ (constantsAlone 8 a&&constantsAlone 8 b)=Zd:=λz=>by rw[z] at g;cases g
 rw[if_neg (by simp only [Bv,List.all_nil,Bool.and_true];exact r),if_neg (by simp only [Bv,List.all_nil,Bool.and_true];exact n)]
theorem zz2 (h:z3p e=Zc):swappedStores [.Tuple es kt p] e env=pure Zb:=by
 cases e with
 |Tuple _ _ _=>cases h
 |_=>rfl
theorem zqj:swapsWithSole [.Tuple es kt p] e l env=pure Zc:=by
 cases e<;>rfl
theorem z4f (m:zbb fE) (HT:zkg fT) (C:CxOk X S d) (h:asgE fE fT S Kq e=Za g):PS X (.Assign [Kq] e pos) (tS X.K S.mp g):=by
 cases Kq with
 | Name x r =>
  refine aG λ_ qG=>?_;obtain ⟨i,n,h⟩:=bS (show (S.wr x).bind _=_ from h);obtain ⟨A,E,F⟩:=zn1 C n;refine qG ?_;clear qG;have l:(if zg8 e then (fE S e).bind λg=>Za (gSet S.mp i g) else Zb)=Za g->PS X (.Assign [.Name x r] e pos) (tS X.K S.mp g):=λh=>by
   split at h
   ·rename_i z
    obtain⟨u,f,h⟩:=bS h;obtain rfl:=sI h;exact (z2m (ndN C) A E (m X S d C _ _ f) (zo5 z) F).wk λ_ _ _=>zin
   ·exact noSome h
  cases e with
  | ListComp elt gens scope R =>
   obtain⟨u,f,h⟩:=bS (show (zxc fE fT S elt gens scope).bind _=_ from h);have M:=zhc m HT C f;split at h
   ·rename_i z
    obtain rfl:=sI h;rw[Bx] at z;rcases z with z|z
    ·refine aG λGg qG => ?_
     obtain ⟨Kq,iter,ifs,gs,gi,T,tc,em,tm,e1,Z,s,pi,V,pg,pt,pe,rd⟩:=M.ex;refine qG ?_;clear qG;subst e1;exact (z42 (ndN C) A E pi pg pt (pe R) (Z R) (yc2 C z) C.calm s.kind s.cap s.fr s.nc s.nm V F).wk λD σ H q=>by
      have q':=zin q;exact rd _ _ _ q'
    ·exact (z2m (ndN C) A E (zxb C M) (swNo C z) F).wk λ_ _ _=>zin
   ·exact noSome h
  |_=>exact l h
 | Tuple U I p =>
  have gen:(if z3p e then Zb else (zgk S U).bind λQ=>(fE S e).bind λg=>Za (gAsg S.mp (.tp Q) g))=Za g->PS X (.Assign [.Tuple U I p] e pos) (tS X.K S.mp g):=λh=>by
   split at h
   ·exact noSome h
   ·rename_i z
    nofun;obtain⟨Q,B,h⟩:=bS h;obtain⟨u,f,h⟩:=bS h;ac_rfl;obtain rfl:=sI h;obtain⟨a,b,c⟩:=zia C _ B;exact (z2t (m X S d C _ _ f) (zts C.calm a b c) zqj (zz2 (by simpa using z)) rfl).wk λ_ _ _=>z1g
  unfold asgE at h;simp only at h;split at h
  ·rename_i x r y py a b P p2
   split at h
   ·rename_i z
    refine aG λ_ qG=>?_;obtain ⟨i,n,h⟩:=bS h;obtain ⟨j,hj,h⟩:=bS h;obtain ⟨ga,t,h⟩:=bS h;obtain ⟨gb,L,h⟩:=bS h;refine qG ?_;clear qG;obtain rfl:=sI h;have J:=yaw (pt:=p) (pt2:=p2) (kt:=I) (k2:=P) C z;unfold zyu at z;simp only [Ac] at z;refine aG λ_ qG=>?_;obtain ⟨⟨⟨⟨⟨⟨⟨h1,W⟩,h3⟩,Y⟩,h5⟩,h6⟩,h7⟩,h8⟩:=z;obtain ⟨N,_,_⟩:=zn1 C n;obtain ⟨w,_,_⟩:=zn1 C hj;refine qG ?_;clear qG;have ne:i≠j:=λe=>by
     subst e;rw[N] at w;obtain rfl:=sI w;simp at Y
    exact (ybp C.calm (ndN C) N w ne (C.loc x (by simpa using h1)) (C.loc y (by simpa using W)) (pac (m X S d C _ _ t) (pac (m X S d C _ _ L) zda h8) h7) J zqj).wk λ_ _ _=>zy7
   ·exact noSome h
  ·exact gen h
 | Subscript o k p =>
  cases o with
  | Name x r =>
   have G:(if zcs k then (S.rd x).bind λi=>(fE S k).bind λO=>(fE S e).bind λg=>Za (za1 i O g) else Zb)=Za g:=h;split at G
   ·rename_i z
    nofun;obtain⟨i,n,h⟩:=bS G;obtain⟨O,v,h⟩:=bS h;obtain⟨u,f,h⟩:=bS h;ac_rfl;obtain rfl:=sI h;exact (z2t (m X S d C _ _ f) (z9e (zrt C n) (m X S d C _ _ v) z0q (zrw z)) zyf z7z rfl).wk λ_ _ _=>zry
   ·exact noSome G
  |_=>exact noSome h
 |_=>exact noSome h
theorem zzj (HS:zz8 fS) (k:zbb fE) (HT:zkg fT):zz8 (z6w fS fE fT):=λX S d C Y g h=>by
 have L:PassesOwn #v[1,7] X.A X.env X.xe:=by rw[C.xe];exact PassesOwn.never
 cases Y with
 | Return o p =>
  cases o with
  |none=>cases h
  | some e =>
   have gen:((fE S e).bind λg=>Za (gRet g))=Za g->PS X (.Return (Za e) p) (tS X.K S.mp g):=λh=>by
    obtain⟨J,l,h⟩:=bS h;obtain rfl:=sI h;exact (z2p (k X S d C _ _ l)).wk λ_ _ _=>zqa
   cases e with
   | Name x M =>
    obtain⟨i,m,h⟩:=bS (show (S.rd x).bind _=_ from h);obtain rfl:=sI h;exact (z2p (zrt C m)).wk λ_ _ _=>zvh
   |_=>exact gen h
 | If c a b p =>
  obtain⟨t,G,h⟩:=bS (show (fT S c).bind _=_ from h);obtain⟨x,Z,h⟩:=bS h;obtain⟨y,U,h⟩:=bS h;obtain rfl:=sI h;exact (yc7 (HT X S d C _ _ G) (zhw HS C Z) (zhw HS C U)).wk λ_ _ _=>zx4
 | For A it body f p =>
  cases f with
  |cons _ _=>exact noSome h
  | nil =>
   obtain⟨gi,F,h⟩:=bS (show (zn4 fE S A it).bind _=_ from h);obtain⟨T,hT,h⟩:=bS h;obtain⟨Q,B,h⟩:=bS h;obtain rfl:=sI h;obtain⟨W,O⟩:=zd9 k C F;exact (z9g L C.calm W (zop C hT) (zhw HS C B) O).wk λ_ _ _=>z0e
 | While c body f p =>
  cases f with
  |cons _ _=>exact noSome h
  | nil =>
   obtain⟨t,G,h⟩:=bS (show (fT S c).bind _=_ from h);obtain⟨Q,B,h⟩:=bS h;obtain rfl:=sI h;exact (zym L (HT X S d C _ _ G) (zhw HS C B)).wk λ_ _ _=>zq3
 |Pass p=>obtain rfl:=sI h;exact z6l.wk λ_ _ _=>zmc
 | Expr e p =>
  have j:(if zg8 e then (fE S e).bind λg=>Za (zfj g) else Zb)=Za g:=h;split at j
  ·rename_i z
   obtain⟨J,l,h⟩:=bS j;obtain rfl:=sI h;exact (z6x (k X S d C _ _ l) (zo5 z)).wk λ_ _ _=>zu5
  ·exact noSome j
 | Assign V e p =>
  match V,h with
  |[A],h=>exact z4f k HT C h
  |[],h=>exact noSome h
  |_::_::_,h=>exact noSome h
 | AugAssign A E e p =>
  cases A with
  | Name x M =>
   have j:(if (E==.Add&&zo2 e)=Zd then (S.wr x).bind λi=>(fE S e).bind λg=>Za (zq6 S.mp i g) else (S.wr x).bind λi=>(augO E).bind λo=>(za0 fE S e).bind λa=>Za (gAug S.mp o i a))=Za g:=h;split at j
   ·rename_i z
    rw[Ac] at z;have eo:E=.Add:=by simpa using z.1
    subst eo;obtain⟨i,m,h⟩:=bS j;obtain⟨J,l,h⟩:=bS h;obtain rfl:=sI h;obtain⟨w,n,u⟩:=zn1 C m;have K:=k X S d C _ _ l;intro pins s σ H D I q;rcases zwt (zby λ_ _ _=>.int _) q with q|q
    ·exact ztx (ndN C) w n K z3c u pins s σ H D I q
    ·exact ztx (ndN C) w n (K.wk λ_ _ _=>zf3) zs8 u pins s σ H D I q
   ·obtain ⟨i,m,h⟩:=bS j
    obtain⟨o,N,h⟩:=bS h;obtain⟨a,ha,h⟩:=bS h;obtain rfl:=sI h;obtain⟨w,n,u⟩:=zn1 C m;obtain⟨r,R,P⟩:=z3d (X:=X) N;exact (ztx (ndN C) w n (zaf k C ha) R u).wk λ_ _ _=>zqn P
  |_=>exact noSome h
 |_=>exact noSome h
end
noncomputable def zkv:GS:=λ_=>Zb
noncomputable def zwz:Nat->Sx->Stmt->Option GS
 |0,_,_=>Za zkv
 |n+1,S,s=>Za ((z6w (zwz n) (compE n) (compT n) S s).getD zkv)
theorem zqg {st:Stmt}:PS X st (tS X.K mp zkv):=λ_ _ _ _ _ _ q=>by obtain⟨_,_,_,_,_,_,h,_⟩:=q;exact noSome h
theorem zh9:∀n,zz8 (zwz n)
 |0=>λ_ _ _ _ _ _ h=>by obtain rfl:=sI h;exact zqg
 | n+1=>λX S d C s g h=>by
  rw[zwz] at h;cases q:z6w (zwz n) (compE n) (compT n) S s with
  |none=>rw[q] at h;obtain rfl:=sI h;exact zqg
  |some a=>rw[q] at h;obtain rfl:=sI h;exact zzj (zh9 n) (zgy n).1 (zgy n).2 X S d C s _ q
structure Fd where
 nm:Str
 ps:List Str
 N:List Str
 m:List Bool
 st:Stmt
noncomputable def deep:Nat:=60
noncomputable def sxOf (T:List Fd) (bn:List Str) (Ψ:Str->Fn) (d:Nat) (t:Fd):Sx:={ N:=t.N,kd:=(zam t.st).names,bn:=bn,fs:=T.map λu=>(u.nm,(u.m,Ψ u.nm)),mp:=mpOf t.m,top:=Zd,nm:=t.nm,dp:=d }
noncomputable def zak (T:List Fd) (bn:List Str) (Ψ:Str->Fn) (d:Nat) (t:Fd):Option GS:=blk (zwz deep) (sxOf T bn Ψ d t) (zdg t.st)
noncomputable def fnAt (T:List Fd) (bn:List Str) (Ψ:Str->Fn) (d:Nat) (t:Fd):Fn:=match zak T bn Ψ d t with
 |some g=>zad t.m t.N.length g
 |none=>λ_=>Zb
noncomputable def sem (T:List Fd) (bn:List Str):Nat->Str->Fn
 |0,_=>λ_=>Zb
 | d+1,x=>match T.find? (·.nm==x) with
  |some t=>fnAt T bn (sem T bn d) d t
  |none=>λ_=>Zb
noncomputable def z0p (K:Zg) (x:Str):Bool:=match PySem.W.tabIn K x with
 |some (c,P)=>PySem.W.codeHdIn K c P
 |none=>Zc
theorem Fun.okC {K:Zg}{st:Stmt} (F:Fun K x qual st f fd) (S:FnScope N ps (zam st)) (len:∀vs H Q E,sp vs H Q E->vs.length=ps.length)
  (a:∀(A:Around) (outer:List Env) (s:Zf) (H:Hp) (vs:List V) (Q:VK) (E:XK),(Room k (A.deeper (envOfC qual (zam st) s.heap.objs.size f fd.code))/\Room (k+1) A)->sp vs H Q E ->
   ∃t,PSs (cxOf CX0 P w K mg base N qual (zam st) f fd.code A outer s H E).nox (zdg st) t/\t { nx:=λ_ H'=>Q .non H',rt:=Q } (start N vs) H):FnOk P w K mg base CX0 (k+1) f fd ps sp:=by
 nofun;obtain⟨o,i,kV,doc,p,g,cdv,e,osl,rfl,l,c⟩:=F.ex;ac_rfl;refine ybt l c S len λA outer s H vs Q E d b=>?_;obtain⟨t,h,q⟩:=a A outer s H vs Q E d b;exact⟨t,h.nox,q⟩
structure FdOk (K:Zg) (mg:Str->Option Ze) (t:Fd):Prop where
 sc:FnScope t.N t.ps (zam t.st)
 m:t.m.length=t.ps.length
 ex:∃f fd,Fun K t.nm t.nm t.st f fd/\znt K fd t.ps []/\mg t.nm=Za (.ref f)
 lam:t.nm∈lams->z0p K t.nm=Zd
theorem zrx {T:List Fd}{Ψ:Str->Fn}{x:Str}{m:List Bool}{Φ:Fn} (h:(T.map λu=>(u.nm,(u.m,Ψ u.nm))).lookup x=Za (m,Φ)):∃t∈T,t.nm=x/\t.m=m/\Φ=Ψ x:=by
 induction T with
 |nil=>exact noSome h
 | cons t T i =>
  rw[Ax,Bo] at h;cases q:x==t.nm with
  | true =>
   rw[q] at h;cases h;have:=Bn q;subst this;exact⟨t,Au,rfl,rfl,rfl⟩
  | false =>
   rw[q] at h;obtain⟨u,b,a⟩:=i h;exact⟨u,Ap _ b,a⟩
theorem z5x {T:List Fd} (nd:(T.map (·.nm)).Nodup) (h:t∈T):T.find? (·.nm==t.nm)=Za t:=by
 induction T with
 |nil=>cases h
 | cons u T i =>
  rw[Ax,Bl] at nd;rw[Ef];rcases Ak.mp h with rfl|h
  ·simp
  ·have:(u.nm==t.nm)=Zc:=by
    cases q:u.nm==t.nm with
    |false=>rfl
    |true=>exact absurd (Dw.mpr ⟨t,h,(Bn q).symm⟩) nd.1
   rw[this];exact i nd.2 h
theorem zs4 {P:Program}{w:World}{K:Zg}{a:Str->Option Ze}{base:Heap}{T:List Fd}{bn:List Str} (nd:(T.map (·.nm)).Nodup) (ok:∀t∈T,FdOk K a t) (p:∀x∈bn,a x=Zb) (l:K.In base) (nb:base.Ns mainGlobals a) (b:("g SIGNS" : Str)∈bn->∃t,a "SIGNS" = Za (.str "abcdef" t)) :
  ∀(d:Nat) (t:Fd),t∈T->∀f i,Fun K t.nm t.nm t.st f i->a t.nm=Za (.ref f)->FnOk P w K a base CX0 d f i t.ps (spF K t.m (sem T bn d t.nm))
 |0,t,_,f,i,_,_=>⟨λv H Q E h=>(by obtain⟨_,_,_,_,_,_,_,_,h,_⟩:=h;cases h),λA outer s H args us v Q E j Z R W h=>(by obtain⟨_,_,_,_,_,_,_,_,h,_⟩:=h;cases h)⟩
 | d+1,t,D,f,i,F,M=>by
  have o:=ok t D;refine F.okC (k:=d) o.sc (λv H Q E h=>(zux h).trans o.m) (λA outer s H v Q E j h=>?_);have U:sem T bn (d+1) t.nm=fnAt T bn (sem T bn d) d t:=by
   show (match T.find? (·.nm==t.nm) with|some t=>fnAt T bn (sem T bn d) d t|none=>λ_=>Zb)=_;rw[z5x nd D]
  rw[U] at h;unfold fnAt at h;cases e:zak T bn (sem T bn d) d t with
  | none =>
   rw[e] at h;nofun;obtain⟨_,_,_,_,_,_,_,_,h,_⟩:=h;ac_rfl;exact noSome h
  | some g =>
   rw [e] at h;have C:CxOk (cxOf CX0 P w K a base t.N t.nm (zam t.st) f i.code A outer s H E).nox (sxOf T bn (sem T bn d) d t) d:={
    N:=rfl
    nd:=o.sc.nd
    loc:=λx e=>e
    cel:=λx e=>⟨e,rfl⟩
    vis:=λx e=>e
    gl:=λx e=>e
    calm:=rfl
    xe:=rfl
    bn:=p
    fs:=λx m Φ e=>by
     nofun;obtain⟨u,n,z,L,I⟩:=zrx e;ac_rfl;subst z L I;nofun;obtain⟨B,y,r,V,G⟩:=(ok u n).ex;ac_rfl;exact⟨u.ps,(ok u n).m.symm,⟨B,y,zs4 nd ok p l nb b d u n B y r G,V,r.kp,G⟩⟩
    room:=j.1
    sl:=by have:=j.2.un;show A.units+3+16*d+205<cLine;symm
    dpo:=Ag _
    sg:=b
    lam:=λh=>by
     have q:=o.lam h;unfold z0p at q;split at q
     ·rename_i c J e
      refine⟨c,J,e,q,?_,rfl⟩;nofun;obtain⟨oc,od,kV,doc,X,an,cdv,Y,osl,z,O,S⟩:=F.ex;ac_rfl;exact PySem.W.law_code l nb e M (l _ _ O) rfl
     ·cases q
    bk:=by
     show (if (zam t.st).kind.isAnnotationScope then ScopeKind.function else (zam t.st).kind)=.function;rw[o.sc.kind];rfl }
   exact⟨_,zhw (zh9 deep) C e,zs6 h⟩
theorem zr0 {K:Zg}{n:List Int}(c:Same F H)(t:zr5 K F (λ_ _=>False) H)(h:SqL K F a (n.map V.int))(e:Φ [.frl (n.map W.int)]=Za (ws',#v[8,10]))(d:ws'.length=1):spF K [Zc] Φ [.ref a] H (λv _=>v=.bl Zd) E:=by
 refine⟨F,λ_ _=>False,_,ws',_,rfl,d,⟨rfl,c,λi w q=>?_,λi w q=>?_,λi j a w k q=>?_,λb o q=>q.elim,t⟩,e,λg f v _ _ z=>?_⟩
 ·cases i with
  |zero=>cases q;exact⟨_,rfl,.frl h (Reps.ofInts n)⟩
  |succ i=>cases i<;>exact noSome q
 ·cases i with
  |zero=>cases q
  |succ i=>cases i<;>exact noSome q
 ·cases i with
  |zero=>cases q
  |succ i=>cases i<;>exact noSome q
 ·exact z.isBl
noncomputable def tabsOf (K:Zg):List Zh:=lams.filterMap λx=>(PySem.W.tabIn K x).map (·.2)
theorem ziu {K:Zg}:b∈tabsOf K↔∃x∈lams,∃c,PySem.W.tabIn K x=Za (c,b):=by
 unfold tabsOf;rw[List.mem_filterMap];constructor
 ·rintro ⟨x,h,e⟩;cases q:PySem.W.tabIn K x with
  |none=>rw[q] at e;exact noSome e
  |some p=>rw[q] at e;obtain rfl:=sI e;exact⟨x,h,p.1,q⟩
 ·rintro ⟨x,h,c,e⟩;exact⟨x,h,by rw[e];rfl⟩
noncomputable def yai (K:Zg) (h:Heap):Prop:=∀x∈lams,∀c P,PySem.W.tabIn K x=Za (c,P)->PySem.W.CodeHd h c P/\h.get? P=Za (PySem.W.tabObj #[])
structure Start (K:Zg) (F H:Hp):Prop where
 sub:Same F H
 tb:zr5 K F (λ_ _=>False) H
theorem zvs {K:Zg}
  (Z:K.In s₁.heap) (nt:PySem.W.noTabs K=Zd) (nd:z40 K) (hT:yai K s₁.heap) (Q:s₁.heap.Ns mainGlobals mg) (W:s₁.heap.Ns builtinsNs mb) (hbb:∀x:Str,x≠"__name__" -> mb x=bootBuiltins x) (N:s₁.heap.NoLimit) (hbm:∃(b:Zh) (p:Obj),mg "__builtins__" = Za (.ref b)/\b≠builtinsNs/\s₁.heap.get? b=Za p/\p.cls=.type "module"/\p.dict=Za builtinsNs/\p.data=.plain) (hg:s₁.gens=#[])
  (D:s₁.heap.get? a=Za { cls:=.type "list",data:=.seq vs.toArray }) (hi:IntsAre vs ns) (hl:ns.length<=sizeLine) (hr:Room k callerA)
  (Fk:∀base:Heap,K.In base->base.Ns mainGlobals mg->FnOk P w K mg base CX k fa fd [x] sp) (B:∀(s:Zf) (u:Ze),BindsTo s fd ⟨[u],[]⟩ [(x,u)])
  (T:∀F H:Hp,Start K F H->SqL K F a (ns.map V.int)->sp [.ref a] H (λv _=>v=.bl Zd) λ_ _ _=>False)
  (U:∀H e s',CX [] H s₁ (λ_ _ _=>False) e s'->False) :
  codeAny (model P w) callerA (.call (.ref fa) ⟨[.ref a],[]⟩) (λr s'=>r=.ok (.ret (.bool Zd))/\OldK s₁.heap s'.heap/\s'.os=s₁.os/\AllBare s'.gens) s₁:=by
 have rv:=zmg hi;have I:=hi.length;have t:∀b∈tabsOf K,s₁.heap.get? b=Za (PySem.W.tabObj #[]):=λb h=>by
  nofun;obtain⟨x,J,c,e⟩:=ziu.mp h;refine qG ?_;exact (hT x J c b e).2
 have na:a ∉ tabsOf K:=λh=>by
  have:=t a h;rw[D] at this;cases this
 have A:∀F H:Hp,(∀b,H b=Zb\/(b∈tabsOf K/\H b=Za (.tbl #[])/\F b=Zb)\/(b=a/\K.lookup a=Zb/\F b=H b/\∃o xs,H b=Za (.frz o (.lst xs))))->(∀b,H b=Zb->F b=Zb)->(∀b∈tabsOf K,H b=Za (.tbl #[]))->SqL K F a (ns.map V.int)->HOk P w H s₁.heap ->
   codeAny (model P w) callerA (.call (.ref fa) ⟨[.ref a],[]⟩) (λr s'=>r=.ok (.ret (.bool Zd))/\OldK s₁.heap s'.heap/\s'.os=s₁.os/\AllBare s'.gens) s₁:=by
  intro F H C hF hB hS O;have f:∀{b:Zh}{o:Obj},s₁.heap.get? b=Za o->H b=Zb->(hidT s₁.heap H).get? b=Za o:=λe n=>zz3 e n;have noA:∀{b:Zh}{o:Obj}{S:Array DictEntry}{R:Nat},s₁.heap.get? b=Za o->o.data=.dict S R->H b=Zb:=λ{b o S R} e d=>by
   rcases C b with z|⟨z,_⟩|⟨z,_⟩
   ·exact z
   ·rw[t b z] at e;obtain rfl:=sI e;cases d
   ·subst z
    rw[D] at e;obtain rfl:=sI e;have d':=d;cases d'
  have j:∀{b:Zh}{m:Str->Option Ze},s₁.heap.Ns b m->(hidT s₁.heap H).Ns b m:=λ{b m} ⟨o,S,R,e,d,r⟩=>⟨o,S,R,f e (noA e d),d,r⟩;have L:K.In (hidT s₁.heap H):=λb o e=>f (Z b o e) (by
   rcases C b with z|⟨z,_⟩|⟨z,n,_⟩
   ·exact z
   ·have E:=Z b o e
    rw[t b z] at E;obtain rfl:=sI E;have:=Az.mp nt (b,_) (PySem.W.mem_of_lookupK e);exact absurd (show Zc=Zd from this) As
   ·subst z
    rw[n] at e;cases e)
  have hM:Mod K mg (hidT s₁.heap H):=⟨L,j Q,⟨mb,j W,hbb⟩,let ⟨mc,h1,h2⟩:=N;⟨mc,j h1,h2⟩,by
   nofun;obtain⟨b,p,b1,b2,G,Y,b5,b6⟩:=hbm;refine qG ?_;refine⟨b,p,b1,b2,f G ?_,Y,b5,b6⟩;rcases C b with z|⟨z,_⟩|⟨z,_⟩
   ·exact z
   ·rw[t b z] at G;obtain rfl:=sI G;cases Y
   ·subst z;rw[D] at G;obtain rfl:=sI G;exact absurd Y (by simp)⟩
  have e0:Env0 P w K mg (hidT s₁.heap H) callerA [] s₁ H:=⟨rfl,hM,λb o e=>z5z e,Nat.le_of_eq (zsh _ _),trivial,λb W=>absurd (show b∈([]:List Zh) from W) (by simp),O,.of_eq hg⟩;have st:Start K F H:=⟨λb o e=>by
   rcases C b with z|⟨_,_,z⟩|⟨_,_,z,_⟩
   ·rw[hF b z] at e;cases e
   ·rw[z] at e;cases e
   ·rw[<-z];exact e,⟨⟨nd,λ_ _ z=>z⟩,λx J c X e=>by
   have hm:=ziu.mpr ⟨x,J,c,e⟩;refine⟨#[],hB X hm,?_,λ_ z=>z,trivial,λpos cv q=>by cases q⟩;rcases C X with z|⟨_,_,z⟩|⟨z,_⟩
   ·exact hF X z
   ·exact z
   ·subst z;exact absurd hm na⟩⟩
  refine Gx ((Fk _ L (j Q)).run callerA [] s₁ H ⟨[.ref a],[]⟩ [.ref a] [.ref a] _ _ hr e0 (B s₁ (.ref a)) (.cons rfl .nil) (T F H st hS)) λr s' h=>?_;cases r with
  |error e=>exact (U H e s' h).elim
  | ok fl =>
   cases fl with
   |next=>exact False.elim h
   |brk=>exact False.elim h
   |cont=>exact False.elim h
   | ret u =>
    nofun;obtain⟨v,H',os,bare,un,l,r',q⟩:=h;refine qG ?_;have q':=q;subst q';obtain rfl:u=Ze.bool Zd:=r';refine⟨rfl,⟨λb o e=>?_,λb o e=>un.there b o e (by simp)⟩,os,bare⟩;rcases C b with z|⟨z,z1,_⟩|⟨_,_,_,p,xs,z⟩
    ·exact .inl (un.keep b o e z (by intro y;exact absurd (show b∈([]:List Zh) from y) (by simp)) (by simp))
    ·refine aG λGg qG => ?_
     obtain⟨x,J,c,ex⟩:=ziu.mp z;obtain⟨t1,t2⟩:=hT x J c b ex;refine qG ?_;rw[e] at t2;obtain rfl:=sI t2;obtain⟨more,E⟩:=un.tbls b #[] z1;exact .inr (.inl ⟨(t1.tab e).isCodeTable,rfl,#[],more,rfl,l b _ E⟩)
    ·have z2:=un.frzs b p _ z
     obtain⟨e1,_⟩:=O b _ z;obtain⟨E,_⟩:=l b _ z2;rw[e] at e1;obtain rfl:=sI e1;exact .inl E
 have M:∀b,b∈tabsOf K->∀H,zbm P w H s₁.heap b (.tbl #[]):=λb h H=>t b h;cases hk:K.lookup a with
 | some o =>
  have e:=Z a o hk;rw[D] at e;obtain rfl:=sI e;refine A (λ_=>Zb) (λb=>if b∈tabsOf K then Za (.tbl #[]) else Zb) (λb=>?_) (λ_ _=>rfl) (λb h=>if_pos h) (.inr ⟨_,vs.toArray,_,hk,rfl,rfl,rfl,by rw[Ai,I];exact hl,by simpa using rv⟩) (λb u z=>?_)
  ·by_cases h:b∈tabsOf K
   ·exact .inr (.inl ⟨h,if_pos h,rfl⟩)
   ·exact .inl (if_neg h)
  ·by_cases h:b∈tabsOf K
   ·have i:=(if_pos h).symm.trans z
    obtain rfl:=sI i;exact M b h _
   ·have i:=(if_neg h).symm.trans z
    cases i
 | none =>
  refine A (λb=>if b=a then Za (.frz { cls:=.type "list",data:=.seq vs.toArray } (.lst (ns.map V.int))) else Zb) (λb=>if b=a then Za (.frz { cls:=.type "list",data:=.seq vs.toArray } (.lst (ns.map V.int))) else if b∈tabsOf K then Za (.tbl #[]) else Zb) (λb=>?_) (λb z=>?_) (λb h=>?_) (.inl (.inr ⟨{ cls:=.type "list",data:=.seq vs.toArray },if_pos rfl⟩)) (λb u z=>?_)
  ·by_cases g:b=a
   ·exact .inr (.inr ⟨g,hk,by simp only [if_pos g],_,_,if_pos g⟩)
   ·by_cases h:b∈tabsOf K
    ·exact .inr (.inl ⟨h,by simp only [if_neg g,if_pos h],if_neg g⟩)
    ·exact .inl (by simp only [if_neg g,if_neg h])
  ·by_cases g:b=a
   ·simp only [if_pos g] at z;cases z
   ·exact if_neg g
  ·have g:b≠a:=λz=>by subst z;exact na h
   simp only [if_neg g,if_pos h]
  ·by_cases g:b=a
   ·have i:Za (HO.frz { cls:=.type "list", data:=.seq vs.toArray } (.lst (ns.map V.int)))=Za u:=by simpa only [if_pos g] using z
    obtain rfl:=sI i;subst g;exact⟨D,by rw[Af];exact hl,vs,_,rv,D⟩
   ·by_cases h:b∈tabsOf K
    ·have i:Za (HO.tbl #[])=Za u:=by simpa only [if_neg g,if_pos h] using z
     obtain rfl:=sI i;exact M b h _
    ·have i:(Zb:Option HO)=Za u:=by simpa only [if_neg g,if_neg h] using z
     cases i
noncomputable def zvg (K:Zg):Bool:=lams.all λx=>lams.all λa=>match PySem.W.tabIn K x,PySem.W.tabIn K a with
 |some p,Za b=>x==a || !(p.2==b.2)
 |_,_=>Zd
theorem z0w {K:Zg}(h:zvg K=Zd):z40 K:=λx d f a c g P e b=>by
 have:=Az.mp (Az.mp h x d) f a;rw[e,b] at this;simpa using this
theorem walk_ofT {l:PySem.W.OpenLaw}{n k:Nat}{q:Program}{g:List Str}{X:(Str->Option Ze)->Heap->Prop}{I:World->Heap->Prop}{d:DefRec}{K:Params->Zg}{CX:World->CXT}{sp:World->Sp}{x:Str}
  (N:l.most=Za n) (D:n<=sizeLine) (t:d.params.defaults=[]) (O:Room k callerA)
  (Q:∀(w:World) (h:Heap),I w h->(K w.params).In h)
  (M:∀w:World,PySem.W.noTabs (K w.params)=Zd) (nd:∀w:World,zvg (K w.params)=Zd) (hrec:∀(w:World),∀x∈lams,∀c P,PySem.W.tabIn (K w.params) x=Za (c,P)->∃d,(recsOf q).find? (λe=>e.name==x)=Za d)
  (F:∀(w:World) (m:Str->Option Ze) (p:Zh) (h:Heap),(K w.params).In h->h.Ns mainGlobals m->m d.name=Za (.ref p) ->
   ∃A:FuncData,(∀(s:Zf) (u:Ze),BindsTo s A ⟨[u],[]⟩ [(x,u)]) /\
    ∀base:Heap,(K w.params).In base->base.Ns mainGlobals m->FnOk l.prog w (K w.params) m base (CX w) k p A [x] (sp w))
  (z:∀(w:World) (F H:Hp) (a:Zh) (r:List Int),r.length<=n->Start (K w.params) F H->SqL (K w.params) F a (r.map V.int)->sp w [.ref a] H (λv _=>v=.bl Zd) λ_ _ _=>False)
  (B:∀(w:World) (H:Hp) (s:Zf) (e:Ze) (s':Zf),CX w [] H s (λ_ _ _=>False) e s'->False) :
  PySem.W.WalkO q g X I l.row.toRowW d [] (λf vs=>PySem.call f vs):=by
 refine Att.attach_call N t λw s₀ s₁ m mb p o pm cd doc a vs r G Y Z E T C j i b R=>?_;have y:=Q w _ Y;obtain⟨A,J,U⟩:=F w m p _ y G.T.g C;refine zvs y (M w) (z0w (nd w)) (λx W c L e=>?_) G.T.g G.T.b G.T.builtins G.T.nolimit G.T.bmain R j i (Bu b D) O U J (λF H S hS=>z w F H a r b S hS) λH e s'=>B w H s₁ e s';obtain⟨d,E⟩:=hrec w x W c L e;exact PySem.W.tab_of G.T y E e
theorem zxh (i j:Int):oAdd (.int i) (.int j)=#v[(i+j),0]:=rfl
theorem zvo (h:cMul i j=Zd):oMult (.int i) (.int j)=#v[(i*j),0]:=by
 show (match (if cMul i j then #v[W.int (i*j),6] else Zb) with|some p=>Za p|none=>_)=_;rw[if_pos h]
theorem oMult_l (h:-(2^64)<i)(a:i<2^64):oMult (.int i) (.int j)=#v[(i*j),0]:=zvo (by
 unfold cMul;rw[Bx,Ac];exact .inl ⟨Aj h,Aj a⟩)
theorem zm5 (h:-(2^64)<j)(a:j<2^64):oMult (.int i) (.int j)=#v[(i*j),0]:=zvo (by
 unfold cMul;rw[Bx,Ac,Ac];exact .inr ⟨Aj h,Aj a⟩)
theorem zua (a:Builtin.Int.intBits i<=2^20)(b:Builtin.Int.intBits j<=2^20):oMult (.int i) (.int j)=#v[(i*j),0]:=by
 have h:zri i j=Zd:=by
  unfold zri;rw[Ac];exact⟨Aj a,Aj b⟩
 show (match (if cMul i j then #v[W.int (i*j),6] else Zb) with|some p=>Za p|none=>(match (if zri i j then #v[W.int (i*j),6] else Zb) with|some p=>Za p|none=>_))=_;split<;>simp_all
theorem zvy (h:-(2^63)<=k/\k<2^63/\xs.length*k.toNat<=sizeLine):oMult (.lst xs) (.int k)=#v[(List.replicate k.toNat xs).flatten,2]:=by
 show (if -(2^63)<=k/\k<2^63/\xs.length*k.toNat<=sizeLine then Za (W.lst (List.replicate k.toNat xs).flatten,Zd) else Zb)=_;rw[if_pos h]
theorem zuf (h:xs.length+ys.length<=sizeLine):oAdd (.lst xs) (.lst ys)=#v[(xs++ys),2]:=by
 show (match (if xs.length+ys.length<=sizeLine then #v[W.lst (xs++ys),5] else Zb) with|some p=>Za p|none=>_)=_;rw[if_pos h]
theorem yan (a:0<j)(h:j<2^200):cDiv i j=Zd:=by
 unfold cDiv;rw[Ac];refine⟨Aj a,Aj ?_⟩;have b:j.natAbs≠0:=by symm
 have c:j.natAbs<2^200:=by
  have:((j.natAbs:Nat):Int)<((2^200:Nat):Int):=by
   have e:((j.natAbs:Nat):Int)=j:=by symm
   rw[e];exact h
  exact Int.ofNat_lt.mp this
 exact Bc ((Nat.log2_lt b).mpr c) #v[0,9]
theorem zox (a:0<j)(h:j<18446744073709551617):cDiv i j=Zd:=yan a (Int.lt_of_lt_of_le h #v[0,9])
theorem zln (h:0<=j)(b:j<=1000000)(a:i.natAbs<2^64):cPow i j=Zd:=by
 unfold cPow;rw[Ac,Ac];exact⟨⟨Aj h,Aj b⟩,Aj a⟩
theorem zp1 (P:Nat->En->Prop):∀(ws:List W) (k:Nat) (en:En),P k en->(∀i w e,ws[i]?=Za w->P (k+i) e->∃e1 a,tgSet mp T w e=Za e1/\(body e1=Za (a,.nx)\/body e1=Za (a,.cnt))/\P (k+i+1) a) ->
  ∃en',zlv mp T body ws en=Za (en',.nx)/\P (k+ws.length) en'
 |[],k,en,b,_=>⟨en,rfl,b⟩
 | w::ws,k,en,b,c=>by
  refine aG λ_ qG=>?_;obtain ⟨e1,a,l,h,d⟩:=c 0 w en rfl b;refine qG ?_;obtain ⟨en',f,j⟩:=zp1 P ws (k+1) a d λi u e m g=>by
   have:=c (i+1) u e (by simpa using m) (by rw[show k+(i+1)=k+1+i by symm];exact g);rw[show k+(i+1)+1=k+1+i+1 by symm] at this;exact this
  refine⟨en',?_,by rw[show k+(w::ws).length=k+1+ws.length by rw[Bf];symm];exact j⟩;show (tgSet mp T w en).bind _=_;rw[l];show (match body e1 with|some (a,.nx)=>zlv mp T body ws a|some (a,.cnt)=>zlv mp T body ws a|some (a,.brk)=>Za (a,.nx)|some (a,.ret r)=>Za (a,.ret r)|none=>Zb)=_;rcases h with h|h<;>(rw[h];exact f)
theorem zbz (P:Nat->En->Prop) (c:it en=Za (e0,ws)) (f:P 0 e0) (d:∀i w e,ws[i]?=Za w->P i e->∃e1 a,tgSet mp T w e=Za e1/\(body e1=Za (a,.nx)\/body e1=Za (a,.cnt))/\P (i+1) a) :
  ∃en',gFor mp T it body en=Za (en',.nx)/\P ws.length en':=by
 obtain⟨en',g,h⟩:=zp1 P ws 0 e0 f λi w e j b=>by
  rw[Ct] at b ⊢;exact d i w e j b
 refine⟨en',?_,by rw[Ct] at h;exact h⟩;unfold gFor;rw[c];exact g
theorem zlh (P:Nat->En->List W->Prop):∀(ws:List W) (k:Nat) (j:En) (f:List W),P k j f ->
  (∀i w c f,ws[i]?=Za w->P (k+i) c f->∃l,tgSet mp T w c=Za l/\((∃b e r,tc l=#v[b,5]/\te b=Za (e,r)/\P (k+i+1) e (f++[r.1]))\/∃b,tc l=#v[b,6]/\P (k+i+1) b f)) ->
  ∃a rest,zg7 mp T tc te ws j=Za (a,rest)/\P (k+ws.length) a (f++rest)
 |[],k,j,f,o,_=>⟨j,[],rfl,by rw[Cf];exact o⟩
 | w::ws,k,j,f,o,y=>by
  obtain ⟨l,x,A⟩:=y 0 w j f rfl o;have next:∀e g,P (k+1) e g->∃a rest,zg7 mp T tc te ws e=Za (a,rest)/\P (k+1+ws.length) a (g++rest):=λe g h=>zlh P ws (k+1) e g h λi u c d D C=>by
   have:=y (i+1) u c d (by simpa using D) (by rw[show k+(i+1)=k+1+i by symm];exact C);rw[show k+(i+1)+1=k+1+i+1 by symm] at this;exact this
  have z:k+(w::ws).length=k+1+ws.length:=by rw[Bf];symm
  rcases A with⟨b,e,r,n,B,s⟩|⟨b,n,s⟩
  ·obtain ⟨a, rest,t,m⟩:=next e _ s
   refine⟨a,r.1::rest,?_,by rw[z];rw[Bd] at m;exact m⟩;show (tgSet mp T w j).bind _=_;rw[x];show (match tc l with|#v[b,5]=>(te b).bind λp=>(zg7 mp T tc te ws p.1).bind λq=>Za (q.1,p.2.1::q.2)|#v[b,6]=>zg7 mp T tc te ws b|none=>Zb)=_;rw[n];show (te b).bind _=_;rw[B];show (zg7 mp T tc te ws e).bind _=_;rw[t]
   rfl
  ·obtain ⟨a, rest,t,m⟩:=next b _ s
   refine⟨a,rest,?_,by rw[z];exact m⟩;show (tgSet mp T w j).bind _=_;rw[x];show (match tc l with|#v[b,5]=>(te b).bind λp=>(zg7 mp T tc te ws p.1).bind λq=>Za (q.1,p.2.1::q.2)|#v[b,6]=>zg7 mp T tc te ws b|none=>Zb)=_;rw[n];exact t
theorem zez (P:Nat->En->List W->Prop) (j:it en=Za (e0,ws)) (n:zcu cap=Zd) (l:ws.length<=sizeLine) (m:P 0 (zfi cap e0) [])
  (k:∀i w c d,ws[i]?=Za w->P i c d->∃e,tgSet (capKeep cap) T w c=Za e/\((∃b g r,tc e=#v[b,5]/\te b=Za (g,r)/\P (i+1) g (d++[r.1]))\/∃b,tc e=#v[b,6]/\P (i+1) b d)) :
  ∃a out,zbu cap T it tc te en=Za (zas cap e0 a,(.lst out,Zd))/\P ws.length a out:=by
 obtain⟨a,rest,o,h⟩:=zlh P ws 0 (zfi cap e0) [] m λi w c d p f=>by
  rw[Ct] at f ⊢;exact k i w c d p f
 refine⟨a,rest,?_,by rw[Ct] at h;exact h⟩;unfold zbu;rw[j];show (if zcu cap&&decide (ws.length<=sizeLine) then _ else Zb)=_;rw[if_pos (by rw[n,Aj l];rfl),o]
 rfl
theorem zig {l:Int} (h:(rngW l n)[i]?=Za w):i<n/\w=.int (l+i):=by
 unfold rngW at h;rw[Ar] at h;cases q:(List.range n)[i]? with
 |none=>rw[q] at h;exact noSome h
 | some k =>
  rw[q] at h;obtain⟨a,e⟩:=Ah.mp q;rw[Cq] at a;rw[List.getElem_range] at e;subst e;exact⟨a,(sI h).symm⟩
theorem zqi (l:Int)(n:Nat):(rngW l n).length=n:=by unfold rngW;rw[Af,Cq]
theorem zbh {i:Nat}{x:W}(h:xs[i]?=Za x):atI xs (i:Int)=Za x:=z6k h
theorem ztj:zcb [] [] en=Za []:=rfl
theorem zty:zcb (Zd::m) (x::ws) (#v[w,5]::en)=(zcb m ws en).bind λr=>Za (w::r):=rfl
theorem zso:zcb (Zc::m) (w::ws) (o::en)=(zcb m ws en).bind λr=>Za (w::r):=rfl
noncomputable def HS (k:Nat) (w:W):Prop:=∃a b c:Int,w=.lst [.int a,.int b,.int c]/\0<=a/\0<=b/\b<MM/\0<=c/\c<=k
theorem HS.mono (h:HS k w)(l:k<=k'):HS k' w:=by
 obtain⟨a,b,c,e,i,g,d,f,j⟩:=h;exact⟨a,b,c,e,i,g,d,f,by symm⟩
noncomputable def zkp (Φ:Fn):Prop:=∀(k:Nat) (a:W) (n:Int),HS k a->k<big->0<n->n<1073741824->∃s r,Φ [a,.int n]=Za ([s,.int n],(.int r,Zc))/\HS (k+1) s/\0<=r/\r<n
noncomputable def zu0 (Ψ:Str->Fn):GS:=(gSeq (gIfS (zah (gOp2 #v[7,9] #v[5,14] #v[0])) (gSeq (gSet [0] 2 (gOp2 #v[0,0,2] #v[5,14] (zaa 1))) (gSeq (za1 0 (gC (.int 0)) (gOp2 #v[0,0,3] #v[5,14] (zaa 1))) (zc6 [0] 2))) zc7) (gSeq (za1 0 (gC (.int 2)) (gOp2 oAdd #v[4,14] #v[1])) (gSeq (gSet [0] 3 (gOp2 #v[0,0,2] (gArg (gOp2 oMult (gArg (gOp2 oAdd (gArg (gOp2 oAdd (gArg (gOp2 oIx (zaa 0) #v[1])) (gArg (gOp2 oMult (gArg (gOp2 oMult #v[65537] #v[4,14])) #v[4,14])))) #v[11])) #v[48271])) #v[2305843009213693921])) (gSeq (gSet [0] 3 (gOp2 #v[0,0,2] (gArg (gOp2 oMult (zaa 3) (gArg (gOp2 oAdd (gArg (gOp2 #v[0,0,2] (zaa 3) #v[1000003])) (gArg (gOp2 oMult #v[99991] #v[4,14])))))) #v[2305843009213693907])) (gRet (gOp2 #v[0,0,2] (gArg (gOp2 oAdd (gArg (gOp2 #v[0,0,3] (zaa 3) #v[97])) (gArg (gOp2 #v[0,0,3] (zaa 3) #v[1000033])))) (zaa 1)))))))
theorem z47 (Ψ:Str->Fn):zkp (zad [Zd,Zc] 4 (zu0 Ψ)):=by
 rintro k z n ⟨a,b,c,rfl,g,f,h,t,x⟩ u d y;have w:(k:Int)<1099511627776:=by have:k<1099511627776:=u;symm
 by_cases j:0<a
 ·refine⟨.lst [.int (a/n),.int b,.int c],a%n, ?_,⟨_,_,_,rfl,Int.ediv_nonneg g #v[],f,h,t,by symm⟩,Hd _ #v[],Hk _ d⟩;have m:cDiv a n=Zd:=zox d #v[];simp [zad,zu0,zav,gSeq,gIfS,zah,gOp2,gArg,zaa,gC,resA,oI,yes2,oIx,seqW,atI,ixN,gSet,za1,zc6,ztj,zty,zso,j,d,m]
 ·have r:oMult (.int 65537) (.int (c+1))=Za (.int (65537*(c+1)),Zc):=oMult_l #v[0,9] #v[0,9];have o:oMult (.int (65537*(c+1))) (.int (c+1))=#v[(65537*(c+1)*(c+1)),0]:=zm5 #v[] #v[];have e:oMult (.int (b+65537*(c+1)*(c+1)+11)) (.int 48271)=#v[((b+65537*(c+1)*(c+1)+11)*48271),0]:=zm5 #v[0,9] #v[0,9];generalize A:(b+65537*(c+1)*(c+1)+11)*48271=x0 at e;have l:oMult (.int 99991) (.int (c+1))=#v[(99991*(c+1)),0]:=oMult_l #v[0,9] #v[0,9];have p:oMult (.int (x0%2305843009213693921)) (.int (x0%2305843009213693921%1000003+99991*(c+1)))=#v[(x0%2305843009213693921*(x0%2305843009213693921%1000003+99991*(c+1))),0]:=oMult_l #v[] #v[];have s:∀i,cDiv i 97=Zd:=λi=>zox #v[0,9] #v[0,9];have q:∀i,cDiv i 1000033=Zd:=λi=>zox #v[0,9] #v[0,9];refine⟨.lst [.int a,.int b,.int (c+1)],(x0%2305843009213693921*(x0%2305843009213693921%1000003+99991*(c+1))%2305843009213693907/97+x0%2305843009213693921*(x0%2305843009213693921%1000003+99991*(c+1))%2305843009213693907/1000033)%n,?_,⟨_,_,_,rfl,g,f,h,by symm,by symm⟩,Hd _ #v[],Hk _ d⟩
  ·simp [zad,zu0,zav,gSeq,gIfS,zah,gOp2,gArg,zaa,gC,resA,oI,yes2,oIx,seqW,atI,ixN,gSet,za1,gRet,zc7,ztj,zty,zso,j,d,zxh,r,o,e,l,p,s,q]
theorem seq_nx (h:a en=Za (e1,.nx)):gSeq a b en=b e1:=by unfold gSeq;rw[h]
theorem seq_rt (h:a en=Za (e1,.ret r)):gSeq a b en=Za (e1,.ret r):=by unfold gSeq;rw[h]
theorem set_ev (h:g en=Za (e1,r))(a:(mp.contains i || !decide (i<e1.length))=Zc):gSet mp i g en=Za (e1.set i (Za r),.nx):=by
 unfold gSet;rw[h];show (if (mp.contains i || !decide (i<e1.length))=Zd then _ else _)=_;rw[a]
 rfl
theorem z4r (h:c en=#v[e1,5]):gIfS c a b en=a e1:=by unfold gIfS;rw[h]
theorem z29 (h:c en=#v[e1,6]):gIfS c a b en=b e1:=by unfold gIfS;rw[h]
theorem test_ev (h:g en=Za (e1,(.bl b,f))):zah g en=Za (e1,b):=by unfold zah;rw[h]
theorem ret_ev (h:g en=Za (e1,r)):gRet g en=Za (e1,.ret r):=by unfold gRet;rw[h];rfl
theorem expr_ev (h:g en=Za (e1,r)):zfj g en=Za (e1,.nx):=by unfold zfj;rw[h];rfl
theorem zbo (h:g en=Za (e1,r)):gArg g en=Za (e1,.inl r.1):=by unfold gArg;rw[h];rfl
theorem cns_ev (h:a en=Za (e1,x))(b:as e1=Za (e2,xs)):gCns a as en=Za (e2,x::xs):=by
 unfold gCns;rw[h];show (as e1).bind _=_;rw[b]
 rfl
theorem zba (f:a en=Za (e1,x))(d:b e1=Za (e2,y))(h:resA e2 x=Za w)(c:resA e2 y=Za u)(e:o w u=Za r):gOp2 o a b en=Za (e2,r):=by
 unfold gOp2;rw[f];show (b e1).bind _=_;rw[d];show (resA e2 x).bind _=_;rw[h];rw[c];show (o w u).bind _=_;rw[e]
 rfl
theorem z7n (c:a en=Za (e1,x))(h:resA e1 x=Za w)(b:o w=Za r):gOp1 o a en=Za (e1,r):=by
 unfold gOp1;rw[c];show (resA e1 x).bind _=_;rw[h];show (o w).bind _=_;rw[b]
 rfl
theorem z15 (b:as en=Za (e1,xs))(a:za4 e1 xs=Za ws)(h:o ws=Za r):gOpN o as en=Za (e1,r):=by
 unfold gOpN;rw[b];show (za4 e1 xs).bind _=_;rw[a];show (o ws).bind _=_;rw[h]
 rfl
theorem zan (b:ws.length=m.length)(h:g (zav m ws++List.replicate (n-m.length) Zb)=Za (en,.ret r))(a:zcb m ws en=Za ws'):zad m n g ws=Za (ws',r):=by
 unfold zad;rw[if_pos b,h];show (zcb m ws en).bind _=_;rw[a]
 rfl
theorem zcl:∀(ws:List W) (i:Nat),zau (za7 (ws.map Sum.inl)) i=Zb
 |[],i=>rfl
 | w::ws,i=>by
  have:=zcl ws i;unfold zau za7 at this ⊢;rw[Ax,Ax,List.findIdx?_cons,this]
  rfl
theorem zhd (ws:List W):zcu (za7 (ws.map Sum.inl))=Zd:=by
 refine Az.mpr λj _=>?_;have:∀i,(za7 (ws.map Sum.inl))[j]?≠Za (Za i):=λi=>zc3 (zcl ws i) j;cases q:(za7 (ws.map Sum.inl))[j]? with
 |none=>rfl
 | some o =>
  cases o with
  |none=>rfl
  |some i=>exact absurd q (this i)
theorem zkl (h:∀i,zau cap i=Zb):zas cap en ce=en:=by
 unfold zas;apply Ds;intro i;rw[Gy];cases en[i]? with
 |none=>rfl
 |some x=>simp only [Option.map_some,h i]
theorem zbv (en:En):∀ws:List W,za4 en (ws.map Sum.inl)=Za ws
 |[]=>rfl
 |w::ws=>by show (Za w).bind _=_;show (za4 en (ws.map Sum.inl)).bind _=_;rw[zbv en ws];rfl
theorem zel (en:En)(ws:List W):zat en (ws.map Sum.inl)=Zd:=by
 refine Az.mpr λx h=>?_;obtain⟨w,_,rfl⟩:=Dw.mp h
 rfl
theorem zk9 (h:as en=Za (e1,ws.map Sum.inl))(b:(ws.map λ_=>Zc)=m)(a:Φ ws=Za (ws',r))(c:ws'.length=ws.length):gCall m Φ as en=Za (e1,r):=by
 unfold gCall;rw[h];show (if (decide ((ws.map Sum.inl).map isR=m)&&zat e1 (ws.map Sum.inl)&&zcu (za7 (ws.map Sum.inl)))=Zd then _ else _)=_;have e:(ws.map Sum.inl).map isR=m:=by rw[<-b,Ce];rfl
 rw[Aj e,zel,zhd];rw[zbv];show (Φ ws).bind _=_;rw[a];show (if ws'.length=m.length then _ else _)=_;rw[if_pos (by rw[c,<-b,Af]),zkl (zcl ws)]
theorem zon {st s:W} (h:as en=Za (e1,.inr i::ws.map Sum.inl)) (c:(Zd::ws.map λ_=>Zc)=m) (a:e1[i]?=Za (Za (st,Zd))) (g:Φ (st::ws)=Za (s::wz,r)) (p:wz.length=ws.length):gCall m Φ as en=Za (e1.set i (Za (s,Zd)),r):=by
 have d:∀j,zau (za7 (.inr i::ws.map Sum.inl)) j=if j=i then Za 0 else Zb:=λj=>by
  have:=zcl ws j;unfold zau za7 at this ⊢;rw[Ax,List.findIdx?_cons];by_cases e:j=i
  ·subst e;simp
  ·have:(Za i==Za j)=Zc:=by simp;exact λz=>e z.symm
   simp_all
 have nd:zcu (za7 (.inr i::ws.map Sum.inl))=Zd:=by
  refine Az.mpr λj _=>?_;cases j with
  | zero =>
   show (zau (za7 (.inr i::ws.map Sum.inl)) i==Za 0)=Zd;rw[d i,if_pos rfl]
   rfl
  | succ j =>
   have:∀k,(za7 (ws.map Sum.inl))[j]?≠Za (Za k):=λk=>zc3 (zcl ws k) j;have e:(za7 (.inr i::ws.map Sum.inl))[j+1]?=(za7 (ws.map Sum.inl))[j]?:=rfl;rw[e];cases q:(za7 (ws.map Sum.inl))[j]? with
   |none=>rfl
   | some o =>
    cases o with
    |none=>rfl
    |some k=>exact absurd q (this k)
 unfold gCall;rw[h];show (if (decide ((.inr i::ws.map Sum.inl).map isR=m)&&zat e1 (.inr i::ws.map Sum.inl)&&zcu (za7 (.inr i::ws.map Sum.inl)))=Zd then _ else _)=_;have e:(Sum.inr i::ws.map Sum.inl).map isR=m:=by rw[<-c,Ax,Ce];rfl
 have l:zat e1 (.inr i::ws.map Sum.inl)=Zd:=by
  have:=zel e1 ws;unfold zat at this ⊢;rw[Bv,this];simp only [a,Bool.and_true]
 rw [Aj e,l,nd];have n:za4 e1 (.inr i::ws.map Sum.inl)=Za (st::ws):=by
  show (resA e1 (.inr i)).bind _=_;have:resA e1 (.inr i)=Za st:=by unfold resA;simp only [a]
  rw[this];rw[zbv]
  rfl
 rw[n];show (Φ (st::ws)).bind _=_;rw[g];show (if (s::wz).length=m.length then _ else _)=_;rw[if_pos (by rw[<-c,Bf,Bf,Af,p])];refine congrArg Za (congrArg (·,r) ?_);unfold zas;apply Ds;intro j;rw[Gy];have b:=(Ah.mp a).1;by_cases f:j=i
 ·subst f
  rw[Dx b,a];simp only [d j];rw[<-c]
  rfl
 ·rw [Dg (Ne.symm f)]
  cases e1[j]? with
  |none=>rfl
  |some x=>simp only [Option.map_some,d j,if_neg f]
theorem zgo {st s:W}(h:as en=Za (en,.inr i::ws.map Sum.inl))(c:(Zd::ws.map λ_=>Zc)=m)(b:en[i]?=Za (#v[st,5]))(a:Φ (st::ws)=Za (s::wz,r))(d:wz.length=ws.length):gCall m Φ as en=Za (en.set i (#v[s,5]),r):=zon h c b a d
theorem zpg (h:seqW a=Za ws)(b:atI ws i=Za w):oIx a (.int i)=#v[w,6]:=by
 unfold oIx;cases a<;>simp_all
theorem oI_t (h:c i j=Zd):oI c g (.int i) (.int j)=#v[g i j,6]:=by
 show (if c i j then #v[g i j,6] else Zb)=_;rw[if_pos h]
theorem set_0 (h:g en=Za (en,r))(a:(mp.contains i || !decide (i<en.length))=Zc):gSet mp i g en=Za (en.set i (Za r),.nx):=set_ev h a
theorem arg_0 (h:g en=Za (en,r)):gArg g en=Za (en,.inl r.1):=zbo h
theorem op2_0 (f:a en=Za (en,x))(d:b en=Za (en,y))(h:resA en x=Za w)(c:resA en y=Za u)(e:o w u=Za r):gOp2 o a b en=Za (en,r):=zba f d h c e
theorem zra (h:a en=Za (en,x))(b:as en=Za (en,xs)):gCns a as en=Za (en,x::xs):=cns_ev h b
theorem zx5 (h:g en=Za (en,r)):gRet g en=Za (en,.ret r):=ret_ev h
theorem zmf (h:as en=Za (en,ws.map Sum.inl))(b:(ws.map λ_=>Zc)=m)(a:Φ ws=Za (ws',r))(c:ws'.length=ws.length):gCall m Φ as en=Za (en,r):=zk9 h b a c
theorem zvl (h:g en=Za (en,(w,f)))(c:k en=Za (en,(.int n,f2)))(a:en[i]?=Za (#v[ws,2]))(b:ixN ws.length n=Za j):za1 i k g en=Za (en.set i (#v[(ws.set j w),2]),.nx):=by
 unfold za1;simp only [h,Dz,a,c,b]
theorem par_ev (h:a en=Za (e1,r1))(c:b e1=Za (e2,r2))(d:(mp.contains i||mp.contains j || !decide (i<e2.length) || !decide (j<e2.length))=Zc):gPar mp i j a b en=Za ((e2.set i (#v[r1.1,6])).set j (Za r2),.nx):=by
 unfold gPar;rw[h];show (b e1).bind _=_;rw[c];show (if (mp.contains i||mp.contains j || !decide (i<e2.length) || !decide (j<e2.length))=Zd then _ else _)=_;rw[d]
 rfl
theorem ybz (h:a en=#v[e1,6]):gOrT a b en=b e1:=by unfold gOrT;rw[h]
theorem ydc (h:a en=#v[e1,5]):gOrT a b en=#v[e1,5]:=by unfold gOrT;rw[h]
theorem yax (h:a en=#v[e1,5]):zdy a b en=b e1:=by unfold zdy;rw[h]
theorem yar (h:a en=#v[e1,6]):zdy a b en=#v[e1,6]:=by unfold zdy;rw[h]
theorem notT_ev (h:a en=Za (e1,b)):zhg a en=Za (e1,!b):=by unfold zhg;rw[h]
theorem tupD_ev (h:as en=Za (e1,xs))(a:zao xs=Za ws)(b:ws.length<=sizeLine):zb1 as en=Za (e1,(.tup ws,Zc)):=by
 unfold zb1;rw[h];show (zao xs).bind _=_;rw[a];show (if ws.length<=sizeLine then _ else _)=_;rw[if_pos b]
theorem lstD_ev (h:as en=Za (e1,xs))(a:zao xs=Za ws)(b:ws.length<=sizeLine):zap as en=Za (e1,(.lst ws,Zd)):=by
 unfold zap;rw[h];show (zao xs).bind _=_;rw[a];show (if ws.length<=sizeLine then _ else _)=_;rw[if_pos b]
theorem zxp (b:en[i]?=Za (#v[us,2]))(h:g en=Za (e1,r))(a:e1[i]?=Za (#v[ws,2]))(c:ws.length<sizeLine):gApp i g en=Za (e1.set i (#v[(ws++[r.1]),2]),(.non,Zc)):=by
 unfold gApp;simp only [b,h,Dz,a];rw[if_pos c]
noncomputable def z9n (Ψ:Str->Fn):GS:=(gSeq (gSet [0] 2 (gCall [Zd,Zc] (Ψ "_law_take") (gCns (zaa 0) (gCns #v[4] gA0)))) (gSeq (gIfS (zah (gOp2 oEq (zaa 2) #v[3])) (gRet (gOp2 oMult (gArg (zap (gCns (gArg (gCall [Zd,Zc] (Ψ "_law_take") (gCns (zaa 0) (gCns #v[2] gA0)))) gA0))) (zaa 1))) zc7) (gSeq (gSet [0] 3 (zap gA0)) (gSeq (gFor [0] (.nm 4) (zcw #v[9,17]) #v[0,7]) (zc6 [0] 3)))))
noncomputable def zlg (Φ:Fn):Prop:=∀(k:Nat) (a:W) (n:Int),HS k a->k+100<big->0<=n->n<=64->∃s x,Φ [a,.int n]=Za ([s,.int n],(.lst (x.map W.int),Zd))/\HS (k+66) s/\(x.length:Int)=n/\Bits x
theorem three {r:Int}(a:0<=r)(h:r<4)(b:r≠3):r=0\/r=1\/r=2:=by symm
theorem zo9 {α:Type}(x:α):∀n:Nat,(List.replicate n [x]).flatten=List.replicate n x
 |0=>rfl
 |n+1=>by rw[Cy,Go,zo9 x n];rfl
theorem z6d {Ψ:Str->Fn}(hT:zkp (Ψ "_law_take")):zlg (zad [Zd,Zc] 6 (z9n Ψ)):=by
 intro k st n Q Z X Y;have hz:(64:Nat)<=sizeLine:=by decide
 nofun;obtain⟨st1,way,t,u,E,P⟩:=hT k st 4 Q #v[] #v[0,9] #v[0,9];refine qG ?_;have S:gCall [Zd,Zc] (Ψ "_law_take") (gCns (zaa 0) (gCns #v[4] gA0)) [#v[st,5],#v[n,0],Zb,Zb,Zb,Zb]=Za ([#v[st1,5],#v[n,0],Zb,Zb,Zb,Zb],(.int way,Zc)):=zgo (i:=0) rfl rfl rfl t rfl;have A:=set_ev (mp:=[0]) (i:=2) S rfl;by_cases s:way=3
 ·subst s;refine aG λ_ qG=>?_;obtain ⟨st2,b,o,g,d,f⟩:=hT (k+1) st1 2 u (by symm) (by decide) (by decide);refine qG ?_;have N:gCall [Zd,Zc] (Ψ "_law_take") #v[2,18] #v[1,15]=Za (#v[0,15],(.int b,Zc)):=zgo (i:=0) rfl rfl rfl o rfl;have R:zap (gCns (gArg (gCall [Zd,Zc] (Ψ "_law_take") #v[2,18])) gA0) #v[1,15]=Za (#v[0,15],(.lst [.int b],Zd)):=by
   unfold zap;rw[cns_ev (zbo N) (show gA0 _=_ from rfl)]
   rfl
  have F:oMult (.lst [.int b]) (.int n)=#v[(List.replicate n.toNat (.int b)),2]:=by
   rw[zvy (by refine⟨by symm,by symm,?_⟩;show 1*n.toNat<=sizeLine;symm),zo9]
  refine⟨st2,List.replicate n.toNat b,?_,g.mono #v[],by rw[Da];symm,λx j=>by rw[List.eq_of_mem_replicate j];symm⟩;refine zan (en:=[#v[st2,5],#v[n,0],#v[3,0],Zb,Zb,Zb]) rfl ?_ rfl;refine (seq_nx A).trans (seq_rt ?_);refine (z4r rfl).trans (ret_ev (zba (zbo R) rfl rfl rfl ?_));rw[List.map_replicate];exact F
 ·have B:=three E P s;have turn:∀(i:Nat) (st:W) (xs:List Int) (v5:Option (W×Bool)),HS (k+1+i) st->i<64->xs.length=i->∃st' x one,HS (k+1+i+1) st'/\(x=0\/x=1) /\
    #v[0,7] #v[3,9] =
     Za ([#v[st',5],#v[n,0],#v[way,0],#v[((xs++[x]).map W.int),2],#v[(0+(i:Nat)),0],#v[one,0]],.nx):=by
   intro i st xs v5 h K p;have J:(xs.map W.int).length<sizeLine:=by rw[Af];symm
   have fin:∀(q:Int) (x:Int->Int),(∀one,0<=one->one<q->x one=0\/x one=1)->0<q->q<1073741824 ->
     (gCns (zaa 0) (gCns (gArg (gOp2 oIx (gArg (zap (gCns #v[2] (gCns #v[5] (gCns #v[5] gA0))))) (zaa 2))) gA0)) #v[3,9]=Za (#v[3,9],[.inr 0,.inl (.int q)]) ->
     (∀(st':W) (one:Int),(gOp2 oIx (gArg (zap (gCns #v[5,4] (gCns (gArg (gOpN oInt (gCns (gArg (gOp2 oEq (zaa 5) #v[0])) gA0))) (gCns (gArg (gOpN oInt (gCns (gArg (gOp2 #v[7,9] (zaa 5) #v[0])) gA0))) gA0))))) (zaa 2)) #v[2,14]=Za (#v[2,14],(.int (x one),Zc))) ->
     ∃st' x one,HS (k+1+i+1) st'/\(x=0\/x=1)/\#v[0,7] #v[3,9] =
      Za ([#v[st',5],#v[n,0],#v[way,0],#v[((xs++[x]).map W.int),2],#v[(0+(i:Nat)),0],#v[one,0]],.nx):=by
    intro q x j H L V C;nofun;obtain⟨st',one,o,g,d,f⟩:=hT (k+1+i) st q h #v[] H L;refine qG ?_;have I:=zgo V rfl rfl o rfl;refine⟨st',x one,one,g,j one d f,?_⟩;refine (seq_nx (set_ev I rfl)).trans (expr_ev (r:=(.non,Zc)) ?_);rw[Bw];exact zxp rfl (C st' one) rfl J
   rcases B with rfl|rfl|rfl
   ·exact fin 2 (λone=>one) (λone a b=>by symm) #v[0,9] #v[0,9] rfl λst' one=>rfl
   ·refine fin 5 (λone=>if decide (one=0) then 1 else 0) (λone a b => ?_) #v[0,9] #v[0,9] rfl λst' one=>rfl;by_cases z:one=0<;>simp [z]
   ·refine fin 5 (λone=>if decide (0<one) then 1 else 0) (λone a b => ?_) #v[0,9] #v[0,9] rfl λst' one=>rfl;by_cases z:0<one<;>simp [z]
  obtain⟨U,O,M⟩:=zbz (mp:=[0]) (T:=.nm 4) (it:=zcw #v[9,17])
   (λi e=>∃st xs l v5,e=[#v[st,5],#v[n,0],#v[way,0],#v[(xs.map W.int),2],l,v5]/\HS (k+1+i) st/\xs.length=i/\Bits xs)
   (en:=[#v[st1,5],#v[n,0],#v[way,0],#v[[],2],Zb,Zb])
   (by
    have G:zd0 n=Zd:=by unfold zd0;rw[Aj #v[],Aj #v[]];rfl
    show (if zd0 n then Za (_,rngW 0 n.toNat) else Zb)=_;rw[G];rfl)
   ⟨st1,[],Zb,Zb,rfl,u,rfl,λx j=>by cases j⟩
   (by
    rintro i w e m ⟨st,xs,l,v5,rfl,h,p,D⟩;nofun;obtain⟨K,rfl⟩:=zig m;obtain⟨st',x,one,g,d,f⟩:=turn i st xs v5 h #v[] p;ac_rfl;refine⟨_,_,rfl,.inl f,st',xs++[x],_,_,rfl,g,by rw[Be,p];rfl,λy c=>?_⟩;rcases Cb.mp c with c|c
    ·exact D y c
    ·rw[Aw] at c;subst c;exact d)
  nofun;obtain⟨st2,xs,l,v5,rfl,g,d,f⟩:=M;ac_rfl;rw[zqi] at g d;refine⟨st2,xs,?_,g.mono #v[],by symm,f⟩;refine zan (en:=[#v[st2,5],#v[n,0],#v[way,0],Zb,l,v5]) rfl ?_ rfl;refine (seq_nx A).trans ((seq_nx (e1:=[#v[st1,5],#v[n,0],#v[way,0],Zb,Zb,Zb]) ?_).trans ((seq_nx rfl).trans ((seq_nx O).trans rfl)));rcases B with rfl|rfl|rfl<;>rfl
noncomputable def z9s (Ψ:Str->Fn):GS:=(gSeq #v[8,18] (gSeq (gFor [] (.nm 2) (gRev (gVar 0)) (gSet [] 1 #v[1,17])) (zc6 [] 1)))
noncomputable def z2d (Φ:Fn):Prop:=∀x:List Int,Φ [.lst (x.map W.int)]=Za ([.lst (x.map W.int)],(.int (wordOf x),Zc))
theorem z3q (Ψ:Str->Fn):z2d (zad [Zc] 3 (z9s Ψ)):=by
 intro a;obtain⟨l,d,j⟩:=zbz (mp:=[]) (T:=.nm 2) (it:=gRev (gVar 0)) (body:=gSet [] 1 #v[1,17])
  (λi e=>∃b,e=[#v[(a.map W.int),1],#v[(wordOf (a.drop (a.length-i))),0],b])
  (en:=[#v[(a.map W.int),1],#v[0,0],Zb]) rfl
  ⟨Zb,by rw[Nat.sub_zero,List.drop_length];rfl⟩
  (by
   rintro i w e h ⟨b,rfl⟩;have g:i<a.length:=by have:=(Ah.mp h).1;rw[Fz,Af] at this;exact this
   have c:a.length-1-i<a.length:=by symm
   have m:w=.int a[a.length-1-i]:=by
    rw[List.getElem?_reverse (by rw[Af];exact g),Af,Ar,Ad c] at h;exact (sI h).symm
   subst m;have o:oMult (.int 2) (.int (wordOf (a.drop (a.length-i))))=#v[(2*wordOf (a.drop (a.length-i))),0]:=oMult_l #v[0,9] #v[0,9];have n:a.drop (a.length-(i+1))=a[a.length-1-i]::a.drop (a.length-i):=by
    have k:a.length-(i+1)=a.length-1-i:=by symm
    have f:a.length-i=a.length-1-i+1:=by symm
    rw[k,f];exact Cw c
   refine⟨_,_,rfl,.inl (set_ev (zba (zbo (zba (x:=.inl (.int 2)) rfl rfl rfl rfl o)) rfl rfl rfl ?_) rfl),_,rfl⟩;rw[n]
   rfl)
 obtain⟨b,rfl⟩:=j;rw[Fz,Af,Nat.sub_self,Es] at d;exact zan rfl ((seq_nx rfl).trans ((seq_nx d).trans rfl)) rfl
noncomputable def z7p (Ψ:Str->Fn):GS:=(gSeq (gSet [] 1 (zap (gCns #v[0] (gCns #v[0] (gCns #v[0] gA0))))) (gSeq (gIfS (zdy (zah (gOp2 #v[7,9] #v[2,9] #v[0])) (zah (gOp2 (oI yes2 λi j=>.bl (decide (j<=i))) #v[5,14] (gArg (gOp2 #v[0,14] #v[10] #v[18]))))) (gSeq (gSet [] 2 (gC (.int 1))) (gFor [] (.nm 3) (zax (gSl (zaa 0) zbx (zd2 (gC (.int 63))))) (gSeq (za1 1 (gC (.int 0)) (gOp2 oAdd (gArg (gOp2 oIx (zaa 1) #v[0])) (gArg (gOp2 oMult (gArg (gOp2 #v[0,0,2] #v[1,13] (gArg (gOp2 #v[0,14] #v[10] #v[60])))) (zaa 2))))) (gSet [] 2 (gOp2 oMult (zaa 2) (gArg (gOp2 #v[0,14] #v[10] #v[60]))))))) zc7) (gSeq (gFor [] (.tp [4,3]) (zmr (gSl (zaa 0) zbx (zd2 (gC (.int 63))))) (gSeq (gSet [] 5 (gOp2 oAdd (gArg (gOp2 oAdd (gArg (gOp2 #v[0,0,2] (zaa 3) #v[2305843009213693951])) (gArg (gOp2 oMult #v[7919] (zaa 4))))) #v[3])) (za1 1 (gC (.int 1)) (gOp2 #v[0,0,2] (gArg (gOp2 oAdd (gArg (gOp2 oMult (gArg (gOp2 oIx (zaa 1) #v[1])) #v[48271])) (zaa 5))) #v[2305843009213693951])))) (zc6 [] 1))))
noncomputable def z17 (Φ:Fn):Prop:=∀n:List Int,n.length<=63->∃s,Φ [.frl (n.map W.int)]=Za ([.frl (n.map W.int)],(s,Zd))/\HS 0 s
theorem z77 {n:List Int}(h:n.length<=63):cutW (n.map W.int) Zb (Za 63)=n.map W.int:=by
 unfold cutW;have a:HT.sIx (n.map W.int).length 0 Zb=0:=rfl;have e:HT.sIx (n.map W.int).length (n.map W.int).length (Za 63)=(n.map W.int).length:=by
  have:=HT.sIx_nat (n.map W.int).length (n.map W.int).length 63;rw[show ((63:Nat):Int)=63 from rfl] at this;rw[this,Af];symm
 rw[a,e,Es,Nat.sub_zero,Cn]
theorem zyj {n:List Int}(h:(zfu (n.map W.int) 0)[i]?=Za w):∃a:i<n.length,w=.tup [.int i,.int n[i]]:=by
 have a:i<n.length:=by have:=(Ah.mp h).1;rw[zci,Af] at this;exact this
 have:=zej (k:=0) (w:=.int n[i]) (by rw[Ar,Ad a];rfl);rw[h,Ct] at this;exact⟨a,sI this⟩
theorem z4e (Ψ:Str->Fn):z17 (zad [Zc] 6 (z7p Ψ)):=by
 intro ns E;have g:cPow 10 18=Zd:=by decide
 have p:cPow 10 60=Zd:=by decide
 have first:∃a0 v2 v3,0<=a0/\gIfS (zdy (zah (gOp2 (oI yes2 λi j=>.bl (decide (j<i))) #v[2,9] (gArg (gC (.int 0))))) (zah (gOp2 (oI yes2 fun i j=>.bl (decide (j<=i))) (gArg (gOp2 oIx (zaa 0) (gArg (gC (.int 0))))) (gArg (gOp2 (oI cPow fun i j=>.int (i ^ j.toNat)) (gArg (gC (.int 10))) (gArg (gC (.int 18)))))))) (gSeq (gSet [] 2 (gC (.int 1))) (gFor [] (.nm 3) (zax (gSl (zaa 0) zbx (zd2 (gC (.int 63))))) #v[2,13])) zc7
   #v[5,9]=Za (#v[2,12],.nx):=by
  have l:(zah (gOp2 #v[7,9] #v[2,9] #v[0])) #v[5,9]=Za (#v[5,9],decide ((0:Int)<((ns.map W.int).length:Nat))):=rfl;cases ns with
  |nil=>exact⟨0,Zb,Zb,by decide,(z29 (by unfold zdy;rw[l];rfl)).trans rfl⟩
  | cons n0 nr =>
   have t:(zah (gOp2 (oI yes2 fun i j=>.bl (decide (j<=i))) (gArg (gOp2 oIx (zaa 0) (gArg (gC (.int 0))))) (gArg (gOp2 (oI cPow fun i j=>.int (i ^ j.toNat)) (gArg (gC (.int 10))) (gArg (gC (.int 18))))))) #v[7,14]=Za (#v[7,14],decide (10^18<=n0)) :=
    test_ev (zba (zbo (zba rfl rfl rfl rfl (zpg rfl (zbh (i:=0) rfl)))) (zbo (zba (x:=.inl (.int 10)) rfl rfl rfl rfl (oI_t g))) rfl rfl rfl)
   have y:decide ((0:Int)<(((n0::nr).map W.int).length:Nat))=Zd:=Aj (by simp);rw[y] at l;by_cases c:(10:Int)^18<=n0
   ·rw [Aj c] at t
    obtain ⟨u,s,o⟩:=zbz (mp:=[]) (T:=.nm 3) (it:=zax (gSl (zaa 0) zbx (zd2 (gC (.int 63))))) (body:=#v[2,13])
     (λi e=>∃a0 wt v3,e=[Za #v[3,10],#v[[.int a0,.int 0,.int 0],2],#v[wt,0],v3,Zb,Zb]/\0<=a0/\0<wt/\wt<=2^(200*i))
     (en:=[Za #v[3,10],#v[[.int 0,.int 0,.int 0],2],#v[1,0],Zb,Zb,Zb]) (ws:=(n0::nr).map W.int)
     (by
      show Za (_,cutW ((n0::nr).map W.int) Zb (Za 63))=_;rw[z77 E])
     ⟨0,1,Zb,rfl,by decide,by decide,by decide⟩
     (by
      rintro i w e a ⟨a0,wt,v3,rfl,f,d,q⟩;rw [Ar] at a;have C:i<(n0::nr).length:=by
       rcases Nat.lt_or_ge i (n0::nr).length with z|z
       ·exact z
       ·rw[Db z] at a;exact noSome a
      rw[Ad C] at a;have H:w=.int (n0::nr)[i]:=(sI a).symm;subst H;generalize (n0::nr)[i]=n;have D:0<=(if n<0 then -n else n)%(10:Int)^60:=Hd _ #v[0,9];have K:(if n<0 then -n else n)%(10:Int)^60<10^60:=Hk _ #v[0,9];have G:i<=63:=by symm
      have O:Builtin.Int.intBits ((if n<0 then -n else n)%(10:Int)^60)<=2^20:=zi5 (i:=1) D (Int.le_trans (Int.le_of_lt K) #v[0,9]) #v[0,9];have B:Builtin.Int.intBits wt<=2^20:=zi5 #v[] q G;have r:=zua O B;have m:=zua B (zi5 (w:=10^60) (i:=1) #v[0,9] #v[0,9] #v[0,9]);obtain⟨L,I⟩:=z0v d q;refine⟨_,[Za #v[3,10],#v[[.int (a0+(if n<0 then -n else n)%(10:Int)^60*wt),.int 0,.int 0],2],#v[(wt*10^60),0],#v[n,0],Zb,Zb],rfl,.inl ?_,_,_,_,rfl,?_,L,I⟩
      ·refine (seq_nx (e1:=[Za (.frl ((n0::nr).map W.int),Zc),Za (.lst [.int (a0+(if n<0 then -n else n)%(10:Int)^60*wt),.int 0,.int 0],Zd),Za (.int wt,Zc),Za (.int n,Zc),Zb,Zb]) ?_).trans (set_0 (op2_0 rfl (arg_0 (op2_0 (x:=.inl (.int 10)) rfl rfl rfl rfl (oI_t p))) rfl rfl m) rfl)
       have k:gOp2 oAdd (gArg (gOp2 oIx (zaa 1) (gArg (gC (.int 0))))) (gArg (gOp2 oMult (gArg (gOp2 #v[3,13] #v[1,13] #v[0,8])) (zaa 2))) #v[5,12]=Za (#v[5,12],(.int (a0+(if n<0 then -n else n)%(10:Int)^60*wt),Zc)) :=
        zba (zbo (zba rfl rfl rfl rfl (zpg rfl (zbh (i:=0) rfl)))) (zbo (zba (zbo (zba (zbo (z15 rfl rfl rfl)) (zbo (zba (x:=.inl (.int 10)) rfl rfl rfl rfl (oI_t p))) rfl rfl (oI_t #v[0,9]))) rfl rfl rfl r)) rfl rfl rfl
       exact zvl (n:=0) (j:=0) (ws:=[.int a0,.int 0,.int 0]) k rfl rfl rfl
      ·have:=Int.mul_nonneg D (Int.le_of_lt d)
       symm)
    nofun;obtain⟨a0,wt,v3,rfl,f,_⟩:=o;ac_rfl;exact⟨a0,_,_,f,(z4r (by unfold zdy;rw[l];exact t)).trans ((seq_nx rfl).trans s)⟩
   ·rw [At c] at t
    exact⟨0,Zb,Zb,by decide,(z29 (by unfold zdy;rw[l];exact t)).trans rfl⟩
 nofun;obtain⟨a0,v2,v3,f,h⟩:=first
 refine qG ?_;clear qG;obtain ⟨u,s,o⟩:=zbz (mp:=[]) (T:=.tp [4,3]) (it:=zmr (gSl (zaa 0) zbx (zd2 (gC (.int 63))))) (body:=(gSeq (gSet [] 5 (gOp2 oAdd (gArg (gOp2 oAdd (gArg (gOp2 #v[3,13] (zaa 3) #v[4,15])) (gArg (gOp2 oMult (gArg (gC (.int 7919))) (zaa 4))))) (gArg (gC (.int 3))))) (za1 1 (gC (.int 1)) (gOp2 #v[3,13] #v[8,11] #v[4,15]))))
  (λi e=>∃b v3 A F,e=[Za #v[2,8],#v[#v[3,19],2],v2,v3,A,F]/\0<=b/\b<MM)
  (en:=#v[2,12]) (e0:=#v[2,12]) (ws:=zfu (ns.map W.int) 0)
  (by
   show Za (_,zfu (cutW (ns.map W.int) Zb (Za 63)) 0)=_;rw[z77 E])
  ⟨0,v3,Zb,Zb,rfl,by decide,by decide⟩
  (by
   rintro i w e a ⟨b,v3,A,F,rfl,d,q⟩;obtain ⟨C,rfl⟩:=zyj a;generalize ns[i]=n;have P:MM=2305843009213693951:=rfl;have r:oMult (.int 7919) (.int (i:Nat))=Za (.int (7919*(i:Nat)),Zc):=oMult_l (by decide) (by decide);have m:oMult (.int b) (.int 48271)=Za (.int (b*48271),Zc):=zm5 (by decide) (by decide);refine ⟨_,[Za #v[2,8],Za (.lst [.int a0,.int ((b*48271+(n%2305843009213693951+7919*(i:Nat)+3))%2305843009213693951),.int 0],Zd),v2,Za (.int n,Zc),Za (.int (i:Nat),Zc),Za (.int (n%2305843009213693951+7919*(i:Nat)+3),Zc)],rfl,.inl ?_,_,_,_,_,rfl,Hd _ (by decide),Hk _ (by decide)⟩;refine (seq_nx (set_0 (op2_0 (arg_0 (op2_0 (arg_0 (op2_0 rfl rfl rfl rfl (oI_t (by decide)))) (arg_0 (op2_0 (x:=.inl (.int 7919)) rfl rfl rfl rfl r)) rfl rfl rfl)) rfl rfl rfl rfl) rfl)).trans ?_;have k:gOp2 #v[3,13] #v[8,11] #v[4,15] [some #v[2,8],some (.lst [.int a0,.int b,.int 0],true),v2,some (.int n,false),some (.int (i:Nat),false),some (.int (n % 2305843009213693951+7919 * (i:Nat)+3),false)]=Za ([some #v[2,8],some (.lst [.int a0,.int b,.int 0],true),v2,some (.int n,false),some (.int (i:Nat),false),some (.int (n % 2305843009213693951+7919 * (i:Nat)+3),false)],(.int ((b*48271+(n%2305843009213693951+7919*(i:Nat)+3))%2305843009213693951),Zc)) :=
    zba (zbo (zba (zbo (zba (zbo (zba rfl rfl rfl rfl (zpg rfl (zbh (i:=1) rfl)))) rfl rfl rfl m)) rfl rfl rfl rfl)) rfl rfl rfl (oI_t #v[0,9])
   exact zvl (n:=1) (j:=1) (ws:=#v[3,19]) k rfl rfl rfl)
 nofun;obtain⟨b,M,J,N,rfl,d,q⟩:=o;ac_rfl;refine⟨.lst #v[3,19],zan (en:=[Za #v[2,8],Zb,v2,M,J,N]) rfl ?_ rfl,⟨_,_,_,rfl,f,d,q,by decide,by decide⟩⟩;exact (seq_nx (e1:=#v[5,9]) rfl).trans ((seq_nx h).trans ((seq_nx s).trans rfl))
theorem zsl (a b x y:Nat)(d:x<2)(h:y<2):(2*a+x) &&& (2*b+y)=2*(a &&& b)+x*y:=by
 have g:((2*a+x) &&& (2*b+y))/2=a &&& b:=by
  have:=Nat.and_div_two_pow (n:=1) (a:=2*a+x) (b:=2*b+y);rw[this];have c:(2*a+x)/2=a:=by symm
  have e:(2*b+y)/2=b:=by symm
  rw[c,e]
 have f:((2*a+x) &&& (2*b+y))%2=x*y:=by
  have:=Nat.and_mod_two_pow (n:=1) (a:=2*a+x) (b:=2*b+y);rw[Nat.pow_one] at this;rw[this];have c:(2*a+x)%2=x:=by symm
  have e:(2*b+y)%2=y:=by symm
  rw[c,e];have:x=0\/x=1:=by symm
  have:y=0\/y=1:=by symm
  rcases ‹x=0\/x=1› with rfl|rfl<;>rcases ‹y=0\/y=1› with rfl|rfl<;>rfl
 symm
noncomputable def Bit (x:Int):Prop:=x=0\/x=1
theorem zen (g:0<=a)(d:0<=b)(c:Bit x)(h:Bit y):Builtin.bitAnd (2*a+x) (2*b+y)=2*Builtin.bitAnd a b+x*y:=by
 have i:0<=x/\x<2:=by rcases c with rfl|rfl<;>decide
 have j:0<=y/\y<2:=by rcases h with rfl|rfl<;>decide
 rw[bitAnd_pp #v[] #v[],bitAnd_pp g d];have f:(2*a+x).toNat=2*a.toNat+x.toNat:=by symm
 have e:(2*b+y).toNat=2*b.toNat+y.toNat:=by symm
 rw[f,e,zsl _ _ _ _ #v[] #v[]];rcases c with rfl|rfl<;>rcases h with rfl|rfl<;>simp
theorem zjb (x y:Int):Builtin.bitXor x y=x+y-2*Builtin.bitAnd x y:=by
 show Builtin.bitOr x y-Builtin.bitAnd x y=_;rw[bitOr_and];symm
theorem zz5 (e:0<=a)(h:0<=b)(d:Bit x)(c:Bit y):Builtin.bitXor (2*a+x) (2*b+y)=2*Builtin.bitXor a b+(x+y-2*(x*y)):=by
 rw[zjb,zjb,zen e h d c];symm
theorem zy1 (x:Int):Builtin.bitXor x 0=x:=by rw[zjb,bitAnd_zero];symm
theorem zpq (x:Int):Builtin.bitAnd 0 x=0:=by rw[bitAnd_comm,bitAnd_zero]
theorem Bits.head (h:Bits (x::xs)):Bit x:=h x Au
theorem Bits.tail (h:Bits (x::xs)):Bits xs:=λy a=>h y (Ap _ a)
theorem ze9 (h:Bits xs):0<=wordOf xs:=(zd1 h).1
theorem zai (x:Int)(xs:List Int):wordOf (x::xs)=2*wordOf xs+x:=rfl
theorem zaq:∀(l h:List Int),wordOf (l++h)=wordOf l+2^l.length*wordOf h
 |[],h=>by show wordOf h=0+1*wordOf h;symm
 | x::l,h=>by
  show 2*wordOf (l++h)+x=2*wordOf l+x+2^(l.length+1)*wordOf h;rw[zaq l h,Int.pow_succ,Int.mul_comm (2^l.length) 2,Int.mul_assoc];symm
theorem zd7:∀{xs ys:List Int},Bits xs->Bits ys->Builtin.bitAnd (wordOf xs) (wordOf ys)=wordOf (List.zipWith (· * ·) xs ys)
 |[],ys,_,_=>zpq _
 |x::xs,[],_,_=>bitAnd_zero _
 | x::xs,y::ys,h,a=>by
  rw[zai,zai,zen (ze9 h.tail) (ze9 a.tail) h.head a.head,zd7 h.tail a.tail]
  rfl
theorem yad {m:Int}(h:0<=m)(a:m<=6):m=0\/m=1\/m=2\/m=3\/m=4\/m=5\/m=6:=by symm
theorem ybm {m:Int}(h:0<=m)(a:m<=6):(1:Int)<=1*2^m.toNat/\(1:Int)*2^m.toNat<=64:=by
 rcases yad h a with rfl|rfl|rfl|rfl|rfl|rfl|rfl<;>decide
theorem cP1 (h:0<=m)(a:m<=6):cPow 1 m=Zd:=zln h #v[] #v[0,9]
theorem cP2 {m:Int}(h:0<=m)(a:m<=6):cPow 1 (1*2^m.toNat)=Zd:=by
 have:=ybm h a;exact zln #v[] #v[] #v[0,9]
noncomputable def yesW (m:Int):Int:=1*2^(1*2^m.toNat:Int).toNat-1
noncomputable def zpa (Φ:Fn):Prop:=∀m:Int,0<=m->m<=6->Φ [.int m]=Za ([.int m],(.int (yesW m),Zc))
noncomputable def ztl (Ψ:Str->Fn):GS:=(gRet (gOp2 #v[0,0,0] (gArg (gOp2 #v[0,0,1] #v[1] (gArg (gOp2 #v[0,0,1] #v[1] (zaa 0))))) #v[1]))
theorem zr4 (Ψ:Str->Fn):zpa (zad [Zc] 1 (ztl Ψ)):=λm h a =>
 zan rfl (zx5 (op2_0 (arg_0 (op2_0 rfl (arg_0 (op2_0 rfl rfl rfl rfl (oI_t (cP1 h a)))) rfl rfl (oI_t (cP2 h a)))) rfl rfl rfl rfl)) rfl
noncomputable def zzd (Φ:Fn):Prop:=∀a b:Int,Φ [.int a,.int b]=Za ([.int a,.int b],(.int (Builtin.bitXor a b),Zc))
noncomputable def z0c (Φ:Fn):Prop:=∀a b:Int,Φ [.int a,.int b]=Za ([.int a,.int b],(.int (Builtin.bitAnd a b),Zc))
noncomputable def z9o (Ψ:Str->Fn):GS:=(gRet (gOp2 #v[6,14] (zaa 0) (zaa 1)))
noncomputable def z7m (Ψ:Str->Fn):GS:=(gRet (gOp2 #v[1,9] (zaa 0) (zaa 1)))
theorem z3j (Ψ:Str->Fn):zzd (zad [Zc,Zc] 2 (z9o Ψ)):=λa b=>rfl
theorem zz9 (Ψ:Str->Fn):z0c (zad [Zc,Zc] 2 (z7m Ψ)):=λa b=>rfl
theorem cap2 (i:Nat):zau [Zb,Zb] i=Zb:=rfl
noncomputable def dif (a b:Int):Int:=if !decide (a=b) then 1 else 0
theorem z6i (c:Bit a)(h:Bit b):a+b-2*(a*b)=dif a b:=by
 rcases c with rfl|rfl<;>rcases h with rfl|rfl<;>decide
theorem zg3:∀{xs ys:List Int},Bits xs->Bits ys->xs.length=ys.length->Builtin.bitXor (wordOf xs) (wordOf ys)=wordOf (List.zipWith dif xs ys)
 |[],[],_,_,_=>zy1 0
 |[],_::_,_,_,h=>by cases h
 |_::_,[],_,_,h=>by cases h
 | x::xs,y::ys,b,a,c=>by
  rw[zai,zai,zz5 (ze9 b.tail) (ze9 a.tail) b.head a.head,zg3 b.tail a.tail (by simpa using c),z6i b.head a.head]
  rfl
theorem zor (e:∀a b,Bit a->Bit b->Bit (f a b)):∀{xs ys:List Int},Bits xs->Bits ys->Bits (List.zipWith f xs ys)
 |[],_,_,_=>λx h=>by simp at h
 |_::_,[],_,_=>λx h=>by simp at h
 | a::xs,b::ys,d,c=>λx h=>by
  rcases Ak.mp (show x∈f a b::List.zipWith f xs ys from h) with rfl|h
  ·exact e a b d.head c.head
  ·exact zor e d.tail c.tail x h
theorem ya1 (c:Bit a)(h:Bit b):Bit (a*b):=by rcases c with rfl|rfl<;>rcases h with rfl|rfl<;>first|exact .inl #v[0,9]|exact .inr #v[0,9]
theorem zvk:∀{xs:List Int},Bits xs->List.zipWith dif xs (List.replicate xs.length 1)=xs.map λa=>1-a
 |[],_=>rfl
 | x::xs,h=>by
  show dif x 1::List.zipWith dif xs (List.replicate xs.length 1)=_;rw[zvk h.tail];rcases h.head with rfl|rfl<;>rfl
noncomputable def clr:List Int->List Int
 |[]=>[]
 |x::a=>if x=1 then 0::a else x::clr a
theorem zo3:∀{xs:List Int},Bits xs->Bits (clr xs)
 |[],h=>h
 | x::xs,h=>by
  unfold clr;split
  ·exact λy a=>(Ak.mp a).elim (λe=>.inl e) (h.tail y)
  ·exact λy a=>(Ak.mp a).elim (λe=>by rw[e];exact h.head) (zo3 h.tail y)
theorem zxe:∀{xs:List Int},Bits xs->0<=xs.sum
 |[],_=>by decide
 | x::xs,h=>by
  have:=zxe h.tail;rw[Dr];rcases h.head with e|e<;>symm
theorem z2g:∀{xs:List Int},Bits xs->xs.sum<=xs.length
 |[],_=>by decide
 | x::xs,h=>by
  have:=z2g h.tail;rw[Dr,Bf];rcases h.head with e|e<;>symm
theorem zka:∀{xs:List Int},Bits xs->(wordOf xs=0↔xs.sum=0)
 |[],_=>⟨λ_=>rfl,λ_=>rfl⟩
 | x::xs,h=>by
  have i:=zka h.tail;have n:=zxe h.tail;rw[zai,Dr];rcases h.head with e|e
  ·subst e
   constructor
   ·intro z;rw[i.mp #v[]];rfl
   ·intro z;rw[i.mpr #v[]];rfl
  ·subst e
   constructor<;>intro z<;>symm
theorem zs3:∀{xs:List Int},Bits xs->wordOf xs≠0->(clr xs).sum=xs.sum-1
 |[],_,h=>absurd rfl h
 | x::xs,h,b=>by
  unfold clr;split
  ·rename_i e;subst e;rw[Dr,Dr];symm
  ·rename_i e
   have a:x=0:=h.head.resolve_right e;subst a;have:wordOf xs≠0:=λz=>b (by rw[zai,z];rfl);rw[Dr,Dr,zs3 h.tail this];symm
theorem zpm:∀{xs:List Int},Bits xs->wordOf xs≠0->Builtin.bitAnd (wordOf xs) (wordOf xs-1)=wordOf (clr xs)
 |[],_,h=>absurd rfl h
 | x::xs,h,d=>by
  have n:=ze9 h.tail;unfold clr;split
  ·rename_i e
   subst e;have a:wordOf (1::xs)-1=2*wordOf xs+0:=by rw[zai];symm
   rw[a,zai,zen n n (.inr rfl) (.inl rfl),bitAnd_self]
   rfl
  ·rename_i e
   have b:x=0:=h.head.resolve_right e;subst b;have c:wordOf xs≠0:=λz=>d (by rw[zai,z];rfl);have a:wordOf (0::xs)-1=2*(wordOf xs-1)+1:=by rw[zai];symm
   rw[a,zai,zen n #v[] (.inl rfl) (.inr rfl),zpm h.tail c]
   rfl
noncomputable def z1h (Ψ:Str->Fn):GS:=(gSeq #v[8,18] (gSeq (zdb (zah #v[2,19]) (gSeq #v[7,12] #v[7,18]) ze1) (zc6 [] 1)))
noncomputable def zod (Φ:Fn):Prop:=∀x:List Int,Bits x->x.length<=1000->Φ [.int (wordOf x)]=Za ([.int (wordOf x)],(.int x.sum,Zc))
theorem zgn:∀(n:Nat) (xs:List Int) (h:Int),Bits xs->xs.sum<n ->
  zdb (zah #v[2,19]) (gSeq #v[7,12] #v[7,18]) n #v[7,15]=Za ([#v[0,0],#v[(h+xs.sum),0]],.nx)
 |0,xs,h,a,c=>by have:=zxe a;symm
 | n+1,xs,h,a,c=>by
  have t:zah #v[2,19] #v[7,15]=Za (#v[7,15],!decide (wordOf xs=0)):=rfl;unfold zdb;by_cases z:wordOf xs=0
  ·rw [Aj z] at t
   rw[(zka a).mp z,z,Int.add_zero]
   rfl
  ·rw [At z] at t
   have b:gSeq #v[7,12] #v[7,18] #v[7,15]=Za ([#v[(Builtin.bitAnd (wordOf xs) (wordOf xs-1)),0],#v[(h+1),0]],.nx):=rfl;rw[zpm a z] at b;rw[t];simp only [Fo,b];have:=zs3 a z;rw[zgn n (clr xs) (h+1) (zo3 a) #v[],this];have e:h+1+(xs.sum-1)=h+xs.sum:=by symm
   rw[e]
theorem zvw (Ψ:Str->Fn):zod (zad [Zc] 2 (z1h Ψ)):=λx h a=>by
 have w:=zgn ze1 x 0 h (by have:=z2g h;show x.sum<(4096:Nat);symm);rw[Int.zero_add] at w;exact zan rfl ((seq_nx rfl).trans ((seq_nx w).trans rfl)) rfl
theorem z8q (g:it en=Za (e0,ws)) (p:ws.length<=1000) (o:rs.length=ws.length)
  (n:∀(i:Nat) v0 w r,ws[i]?=Za w->rs[i]?=Za r->∃u f,te [v0,#v[w,6]]=Za ([v0,u],(r,f))) :
  zbu [Zb,Zb] (.nm 1) it gYes te en=Za (e0,(.lst rs,Zd)):=by
 have s:(1000:Nat)<=sizeLine:=by decide
 obtain⟨m,out,j,k⟩:=zez (cap:=[Zb,Zb]) (T:=.nm 1) (tc:=gYes) (λi c d=>(∃v0 b,c=[v0,b])/\d=rs.take i) g rfl #v[] ⟨⟨_,_,rfl⟩,rfl⟩
  (by
   rintro i w c d e ⟨⟨v0,b,rfl⟩,rfl⟩;have l:i<rs.length:=by rw[o];exact (Ah.mp e).1
   have a:=Ad l;obtain⟨u,f,h⟩:=n i v0 w rs[i] e a;refine⟨[v0,#v[w,6]],rfl,.inl ⟨_,_,(rs[i],f),rfl,h,⟨_,_,rfl⟩,?_⟩⟩;rw[Cs,a]
   rfl)
 obtain⟨_,rfl⟩:=k;rw[j,zkl cap2,Ev #v[]]
theorem z7c (h:as en=Za (e1,xs))(b:za4 e1 xs=Za [.int j])(a:zd0 j=Zd):zcw as en=Za (e1,rngW 0 j.toNat):=by
 unfold zcw;rw[h];show (match za4 e1 xs with|some [.int j]=>if zd0 j then Za (e1,rngW 0 j.toNat) else Zb|_=>Zb)=_;rw[b];show (if zd0 j then Za (e1,rngW 0 j.toNat) else Zb)=_;rw[if_pos a]
theorem band (a b:Nat):Builtin.bitAnd (a:Int) (b:Int)=((a &&& b:Nat):Int):=by rw[bitAnd_pp (Ea a) (Ea b)];rfl
theorem yb9 {c b:GO}(i:a en=Za (e1,x))(f:c e1=Za (e2,l))(d:b e2=Za (e3,h))(e:resA e3 x=Za w)(g:oSl w l h=Za r):gSl a c b en=Za (e3,r):=by
 simp only [gSl,i,f,d,e,g,Option.bind]
theorem z5q (h:g en=Za (e1,(.int i,f)))(e:i=j):zd2 g en=Za (e1,Za j):=by unfold zd2;rw[h,e]
noncomputable def tab (n:Nat) (f:Nat->Int):List Int:=(List.range n).map f
theorem zay (n:Nat)(f:Nat->Int):(tab n f).length=n:=by unfold tab;rw[Af,Cq]
theorem zd6 (h:i<n):(tab n f)[i]?=Za (f i):=by unfold tab;rw[Ar,List.getElem?_range h];rfl
theorem tab_ext (h:∀i,i<n->f i=g i):tab n f=tab n g:=by
 refine Dv λi a=>h i (By.mp a)
theorem zjm (n:Nat)(f g:Nat->Int)(h:Int->Int->Int):List.zipWith h (tab n f) (tab n g)=tab n λi=>h (f i) (g i):=by
 apply Ds;intro i;by_cases a:i<n
 ·rw[List.getElem?_zipWith,zd6 a,zd6 a,zd6 a]
 ·rw[Db (by rw[Em,zay];symm),Db (by rw[zay];symm)]
theorem zaw (h:∀i,i<n->Bit (f i)):Bits (tab n f):=λx b=>by
 obtain⟨i,a,rfl⟩:=Dw.mp b;exact h i (By.mp a)
theorem zjh (a b:Nat)(f:Nat->Int):tab (a+b) f=tab a f++tab b λi=>f (a+i):=by
 unfold tab;rw[List.range_add,Bw,Ce]
 rfl
theorem zdq (n:Nat):tab n (λ_=>0)=List.replicate n 0:=by unfold tab;rw[List.map_const',Cq]
theorem zcd (n:Nat):wordOf (List.replicate n 0)=0:=by
 induction n with
 |zero=>rfl
 |succ n i=>rw[Cy,zai,i];rfl
theorem zqr (g:s<=n)(h:∀i,n-s<=i->f i=0):wordOf (tab n f)*2^s=wordOf (tab n λi=>if i<s then 0 else f (i-s)):=by
 obtain⟨k,rfl⟩ : ∃k,n=k+s:=⟨n-s,by symm⟩;have d:tab (k+s) f=tab k f++List.replicate s 0:=by
  rw[zjh,<-zdq];refine congrArg _ (tab_ext λi _=>h (k+i) #v[])
 have e:tab (k+s) (λi=>if i<s then 0 else f (i-s))=List.replicate s 0++tab k f:=by
  rw[Nat.add_comm,zjh,<-zdq];have a:tab s (λi=>if i<s then 0 else f (i-s))=tab s λ_=>0:=tab_ext λi c=>if_pos c;have b:(tab k λi=>if s+i<s then 0 else f (s+i-s))=tab k f:=tab_ext λi _=>by rw[if_neg #v[]];congr 1;symm
  rw[a,b]
 rw[d,e,zaq,zaq,zcd,Da,Int.mul_zero,Int.add_zero,Int.zero_add,Int.mul_comm]
noncomputable def zfm (s:Nat) (i:Nat):Int:=if i/s%2=0 then 1 else 0
noncomputable def zjx (s:Nat) (f:Nat->Int) (i:Nat):Int:=if i/s%2=1 then (f i+f (i-s))%2 else f i
theorem zii (s i:Nat):Bit (zfm s i):=by unfold zfm;split<;>first|exact .inr rfl|exact .inl rfl
theorem z5y (c:Bit a)(h:Bit b):dif a b=(a+b)%2:=by rcases c with rfl|rfl<;>rcases h with rfl|rfl<;>decide
theorem dif_zero (h:Bit a):dif a 0=a:=by rcases h with rfl|rfl<;>decide
theorem zxu (h:∀i,Bit (f i))(i:Nat):Bit (zjx s f i):=by
 unfold zjx;split
 ·have:=Hd (f i+f (i-s)) (show (2:Int)≠0 by decide);unfold Bit;symm
 ·exact h i
theorem zu3 (h:∀i,Bit (f i)) (s0:0 < s) (b:n=s * (2 * c)) (q:0 < c):Builtin.bitXor (wordOf (tab n f)) (Builtin.bitAnd (wordOf (tab n f)) (wordOf (tab n (zfm s))) * 2 ^ s)=wordOf (tab n (zjx s f)):=by
  have g:s<=n:=by rw[b];exact Nat.le_mul_of_pos_right s #v[]
  have top:∀i,n - s<=i->i < n->i / s % 2=1:=fun i m p=>by
    have e:i / s=2 * c - 1:=by
      have k:s * (2 * c - 1)<=i:=by rw[Nat.mul_sub,Nat.mul_one,<-b];exact m
      have o:i < s * (2 * c - 1)+s:=by
        have : s * (2 * c - 1) + s = n := by rw [Nat.mul_sub]; have : s ≤ s * (2 * c) := by rw [<- b]; exact g
                                             symm
        symm
      exact Nat.div_eq_of_lt_le (by rw[Nat.mul_comm];exact k) (by rw[Nat.add_mul,Nat.one_mul,Nat.mul_comm];exact o)
    symm
  have l:tab n (fun i=>f i * zfm s i)=tab n (fun i=>if i < n then f i * zfm s i else 0):=tab_ext fun i a=>(if_pos a).symm;rw [zd7 (zaw fun i _=>h i) (zaw fun i _=>zii s i),zjm,l,zqr g (fun i a=>by
    split
    · rename_i z
      have:zfm s i=0:=by unfold zfm;rw[if_neg (by rw[top i a z];decide)]
      rw[this,Int.mul_zero]
    · rfl),zg3 (zaw λi _=>h i) (zaw λi a=>?_) (by rw[zay,zay]),zjm]
  · refine congrArg wordOf (tab_ext fun i a => ?_)
    by_cases d:i<s
    · rw [if_pos d, dif_zero (h i)]
      unfold zjx;rw[if_neg (by rw[Nat.div_eq_of_lt d];decide)]
    · have e:i / s=(i - s) / s+1:=by
        have:=Nat.add_div_right (i - s) s0;rw[show i - s+s=i by symm] at this;exact this
      rw[if_neg d,if_pos #v[]];unfold zjx zfm;by_cases j:i / s % 2=1
      · rw[if_pos j,if_pos #v[],Int.mul_one,z5y (h i) (h (i - s))]
      · rw[if_neg j,if_neg #v[],Int.mul_zero,dif_zero (h i)]
  · split
    · exact .inl rfl
    · split
      · exact ya1 (h _) (zii s _)
      · exact .inl rfl
noncomputable def six6 (m j:Int):Prop:=(0<=j/\j<m/\m<=6)
theorem yck (h:six6 m j):(m=1/\j=0)\/(m=2/\(j=0\/j=1))\/(m=3/\(j=0\/j=1\/j=2))\/(m=4/\(j=0\/j=1\/j=2\/j=3))\/(m=5/\(j=0\/j=1\/j=2\/j=3\/j=4))\/(m=6/\(j=0\/j=1\/j=2\/j=3\/j=4\/j=5)):=by
 obtain⟨c,b,a⟩:=h;symm
theorem z4x (h:six6 m j):yesW m/(1*2^(1*2^j.toNat:Int).toNat+1)=wordOf (tab (2^m.toNat) (zfm (2^j.toNat))):=by
 rcases yck h with⟨rfl,rfl⟩|⟨rfl,rfl|rfl⟩|⟨rfl,rfl|rfl|rfl⟩|⟨rfl,rfl|rfl|rfl|rfl⟩|⟨rfl,rfl|rfl|rfl|rfl|rfl⟩|⟨rfl,rfl|rfl|rfl|rfl|rfl|rfl⟩<;>decide +kernel
noncomputable def znn (Ψ:Str->Fn):GS:=(gRet (gOp2 #v[0,0,3] (gArg (gCall [Zc] (Ψ "all_yes") #v[7,16])) (gArg (gOp2 oAdd (gArg (gOp2 #v[0,0,1] #v[1] (gArg (gOp2 #v[0,0,1] #v[1] (zaa 1))))) #v[1]))))
noncomputable def zvc (Ψ:Str->Fn):GS:=(gSeq (gSet [] 3 (gCall [Zc,Zc] (Ψ "times") (gCns #v[1,4] (gCns (gArg (gCall [Zc,Zc] (Ψ "letter_no") (gCns #v[0,4] (gCns #v[2,4] gA0)))) gA0)))) (gRet (gCall [Zc,Zc] (Ψ "plus") (gCns #v[1,4] (gCns (gArg (gOp2 #v[0,0,1] (zaa 3) #v[5,15])) gA0)))))
noncomputable def NoOk (Φ:Fn):Prop:=∀m j:Int,six6 m j->Φ [.int m,.int j]=Za ([.int m,.int j],(.int (wordOf (tab (2^m.toNat) (zfm (2^j.toNat)))),Zc))
theorem ycr (f:zpa (Ψ "all_yes")):NoOk (zad [Zc,Zc] 2 (znn Ψ)):=λm j h=>by
 have c:=h;obtain⟨a,g,b⟩:=c;have d:cDiv (yesW m) (1*2^(1*2^j.toNat:Int).toNat+1)=Zd:=by
  have e:j=0\/j=1\/j=2\/j=3\/j=4\/j=5:=by symm
  rcases e with rfl|rfl|rfl|rfl|rfl|rfl<;>exact zox #v[0,9] #v[0,9]
 exact zan rfl (zx5 (op2_0 (arg_0 (zmf rfl rfl (f m #v[] b) rfl)) (arg_0 (op2_0 (arg_0 (op2_0 rfl (arg_0 (op2_0 rfl rfl rfl rfl (oI_t (cP1 a #v[])))) rfl rfl (oI_t (cP2 a #v[])))) rfl rfl rfl rfl)) rfl rfl ((oI_t d).trans (by rw[z4x h])))) rfl
noncomputable def z2v (Φ:Fn):Prop:=∀(m j:Int) (f:Nat->Int),six6 m j->(∀i,Bit (f i))->Φ #v[8,17]=Za (#v[8,17],(.int (wordOf (tab (2^m.toNat) (zjx (2^j.toNat) f))),Zc))
theorem z32 (o:NoOk (Ψ "letter_no"))(s:z0c (Ψ "times"))(p:zzd (Ψ "plus")):z2v (zad [Zc,Zc,Zc] 4 (zvc Ψ)):=λm j f h g=>by
 have n:=h;obtain⟨b,u,k⟩:=n;have sz:=ybm b (show j<=6 by symm);have e:Bits (tab (2^m.toNat) f):=zaw λi _=>g i;have d:Bits (tab (2^m.toNat) (zfm (2^j.toNat))):=zaw λi _=>zii _ i;have t:=s (wordOf (tab (2^m.toNat) f)) (wordOf (tab (2^m.toNat) (zfm (2^j.toNat))));generalize a:Builtin.bitAnd (wordOf (tab (2^m.toNat) f)) (wordOf (tab (2^m.toNat) (zfm (2^j.toNat))))=lo at t;have y:0<=lo/\lo<2^64:=by
  rw[<-a,zd7 e d];have l:=zor (λ_ _=>ya1) e d;have w:=zd1 l;refine⟨w.1,Int.lt_of_lt_of_le w.2 ?_⟩;rw[Em,zay,zay];rcases yad (show 0<=m by symm) k with rfl|rfl|rfl|rfl|rfl|rfl|rfl<;>decide
 have q:(1*2^j.toNat:Int).toNat=2^j.toNat:=by rw[Int.one_mul];exact Int.toNat_pow_of_nonneg #v[0,9] _
 have key:Builtin.bitXor (wordOf (tab (2^m.toNat) f)) (lo*2^(1*2^j.toNat:Int).toNat)=wordOf (tab (2^m.toNat) (zjx (2^j.toNat) f)):=by
  rw[q,<-a];refine zu3 (c:=2^(m.toNat-j.toNat-1)) g (Nat.pow_pos #v[0,9]) ?_ (Nat.pow_pos #v[0,9]);rw[<-Nat.pow_succ',<-Nat.pow_add];congr 1;symm
 have x:=p (wordOf (tab (2^m.toNat) f)) (lo*2^(1*2^j.toNat:Int).toNat);rw[key] at x;refine zan (en:=[#v[m,0],#v[(wordOf (tab (2^m.toNat) f)),0],#v[j,0],#v[lo,0]]) rfl ?_ rfl;refine (seq_nx (set_0 (zmf (zra rfl (zra (arg_0 (zmf rfl rfl (o m j h) rfl)) rfl)) rfl t rfl) rfl)).trans ?_;exact zx5 (zmf (zra rfl (zra (arg_0 (r:=(.int (lo*2^(1*2^j.toNat:Int).toNat),Zc)) (op2_0 rfl (arg_0 (op2_0 rfl rfl rfl rfl (oI_t (cP1 b #v[])))) rfl rfl (oI_t (zln #v[] #v[] #v[])))) rfl)) rfl x rfl)
theorem z0a (n:Nat)(f:Nat->Int):tab (n+1) f=tab n f++[f n]:=by unfold tab;rw[List.range_succ,Bw];rfl
theorem zol (h:i<n):((tab n f).map W.int)[i]?=Za (.int (f i)):=by rw[Ar,zd6 h];rfl
noncomputable def itF:Nat->(Nat->Int)->Nat->Int
 |0,f=>f
 |k+1,f=>zjx (2^k) (itF k f)
theorem z10 (h:∀i,Bit (f i)):∀k i,Bit (itF k f i)
 |0,i=>h i
 |k+1,i=>zxu (z10 h k) i
noncomputable def rowF (m:Int) (f:Nat->Int) (k:Nat):Int:=wordOf (tab (2^m.toNat) (itF k f))
noncomputable def z58 (Ψ:Str->Fn):GS:=(gSeq (gSet [] 2 (zap #v[0,18])) (gSeq (gFor [] (.nm 3) (zcw (gCns (zaa 0) gA0)) (zfj (gApp 2 (gCall [Zc,Zc,Zc] (Ψ "stepped") #v[1,16])))) (gRet (gOpN za5 (gCns (zaa 2) gA0)))))
noncomputable def zxo (Φ:Fn):Prop:=∀(m:Int) (f:Nat->Int),0<=m->m<=6->(∀i,Bit (f i))->Φ [.int m,.int (rowF m f 0)]=Za ([.int m,.int (rowF m f 0)],(.tup ((tab (m.toNat+1) (rowF m f)).map W.int),Zc))
theorem z0h (hS:z2v (Ψ "stepped")):zxo (zad [Zc,Zc] 4 (z58 Ψ)):=λm f s d j=>by
 have t:(1000:Nat)<=sizeLine:=by decide
 have k:(zcw (gCns (zaa 0) gA0)) #v[2,11]=Za (#v[2,11],rngW 0 m.toNat):=by
  show (if zd0 m then Za ((#v[2,11]:En),rngW 0 m.toNat) else Zb)=_;unfold zd0;rw[Aj #v[],Aj #v[]]
  rfl
 obtain⟨o,h,l⟩:=zbz (mp:=[]) (T:=(.nm 3))
  (λi e=>∃b,e=[#v[m,0],#v[(rowF m f 0),0],#v[((tab (i+1) (rowF m f)).map W.int),2],b]) k ⟨Zb,rfl⟩
  (by
   rintro i w e q ⟨b,rfl⟩;obtain⟨r,rfl⟩:=zig q;have c:=hS m (0+i) (itF i f) ⟨by symm,by symm,d⟩ (z10 j i);have n:(0+(i:Int)).toNat=i:=by symm
   rw[n] at c;have g:(tab (i+1) (rowF m f)).length=i+1:=zay _ _;have p:(gCall [Zc,Zc,Zc] (Ψ "stepped") #v[1,16]) #v[0,10]=Za (#v[0,10],(.int (rowF m f (i+1)),Zc)) :=
    zmf (zra rfl (zra (arg_0 (op2_0 rfl rfl rfl rfl (zpg rfl (by rw[Int.zero_add];exact zbh (zol #v[]))))) rfl)) rfl c rfl
   refine⟨#v[0,10],[#v[m,0],#v[(rowF m f 0),0],#v[((tab (i+1+1) (rowF m f)).map W.int),2],#v[(0+(i:Nat)),0]],rfl,.inl ?_,_,rfl⟩;have a:=zxp (i:=2) rfl p rfl (by rw[Af];symm);rw[z0a (i+1),Bw];exact expr_ev a)
 obtain⟨b,rfl⟩:=l;rw[zqi] at h;refine zan (en:=[#v[m,0],#v[(rowF m f 0),0],#v[((tab (m.toNat+1) (rowF m f)).map W.int),2],b]) rfl ?_ rfl;exact (seq_nx rfl).trans ((seq_nx h).trans rfl)
noncomputable def zv7 (p:Nat):List Nat:=(List.range (p+1)).filter λo=>o &&& p==o
noncomputable def zjo (f:Nat->Int) (p:Nat):Int:=((zv7 p).map f).sum%2
noncomputable def evS (L:List Nat) (f:Nat->Int) (S:Nat):Int:=((L.filter λi=>S.testBit i).map f).sum
theorem ev_xor (f:Nat->Int) (A B:Nat):∀L:List Nat,evS L f (A ^^^ B)%2=(evS L f A+evS L f B)%2
 |[]=>rfl
 | i::L=>by
  have a:=ev_xor f A B L;unfold evS at a ⊢;rw[Fw,Fw,Fw,Dt];cases A.testBit i<;>cases B.testBit i<;>simp only [Bool.xor_false,Bool.xor_true,Bool.not_true,Fo,Gf,if_false,Ax,Dr,Ew]<;>symm
noncomputable def itS:Nat->Nat->Nat
 |0,i=>2^i
 |k+1,i=>if i/2^k%2=1 then itS k i ^^^ itS k (i-2^k) else itS k i
theorem z6g:∀i:Fin 64,(List.range 64).filter (λj=>(2^i.val).testBit j)=[i.val]:=by decide +kernel
theorem z6t (h:∀i,Bit (f i)):∀k i,i<64->itF k f i=evS (List.range 64) f (itS k i)%2
 | 0,i,d=>by
  unfold evS itS itF;rw[z6g ⟨i,d⟩];show f i=(f i+0)%2;rcases h i with e|e<;>rw[e]<;>rfl
 | k+1,i,d=>by
  have a:=z6t h k i d;have b:=z6t h k (i-2^k) (Hj (Nat.sub_le _ _) d);unfold itF itS zjx;by_cases c:i/2^k%2=1
  ·rw [if_pos c,if_pos c,ev_xor]
   symm
  ·rw[if_neg c,if_neg c,a]
theorem z46:∀m:Fin 7,∀p:Fin (2^m.val),(List.range 64).filter (λj=>(itS m.val p.val).testBit j)=zv7 p.val:=by decide +kernel
theorem z39 (h:∀i,Bit (f i))(a:m<=6)(b:p<2^m):itF m f p=zjo f p:=by
 have lt:2^m<=2^6:=Fh #v[0,9] a;rw[z6t h m p #v[]];unfold evS zjo;rw[z46 ⟨m,by symm⟩ ⟨p,b⟩]
theorem zdd (n:Nat)(f:Nat->Int):tab (n+1) f=tab n f++[f n]:=by unfold tab;rw[List.range_succ,Bw];rfl
theorem zks:∀(p:Nat) (xs:List Int),Bits xs->Builtin.bitAnd (wordOf xs/2^p) 1=xs.getD p 0
 | p,[],_=>by
  show Builtin.bitAnd ((0:Int)/2^p) 1=0;rw[Int.zero_ediv,zpq]
 | 0,x::xs,h=>by
  have a:=zen (ze9 h.tail) (Int.le_refl 0) h.head (show Bit 1 from .inr rfl);rw[bitAnd_zero] at a;show Builtin.bitAnd (wordOf (x::xs)/1) 1=x;rw[Int.ediv_one,zai];have e:(2*0+1:Int)=1:=rfl;rw[e] at a;symm
 | p+1,x::xs,h=>by
  have i:=zks p xs h.tail;have e:wordOf (x::xs)/2^(p+1)=wordOf xs/2^p:=by
   rw[zai,Int.pow_succ,Int.mul_comm ((2:Int)^p) 2,<-Int.ediv_ediv_of_nonneg #v[0,9]];congr 1;rcases h.head with q|q<;>rw[q]<;>symm
  rw[e,i]
  rfl
theorem zxv (h:∀i,n<=i->f i=0)(p:Nat):(tab n f).getD p 0=f p:=by
 rw[Bi];by_cases c:p<n
 ·rw[zd6 c];rfl
 ·rw[Db (by rw[zay];symm),h p #v[]];rfl
noncomputable def dueL (f:Nat->Int) (n:Nat):List Nat:=(List.range n).filter λp=>decide (f p=1)
noncomputable def castL (M:List Nat):List W:=M.map λp:Nat=>W.int p
theorem zo6 (M:List Nat):castL M=(M.map λp:Nat=>(p:Int)).map W.int:=by unfold castL;rw[Ce];rfl
theorem castL_len (M:List Nat):(castL M).length=M.length:=Af ..
theorem zlc {i:Nat}{w:W}(h:(castL M)[i]?=Za w):∃p,M[i]?=Za p/\w=.int (p:Nat):=by
 unfold castL at h;rw[Ar] at h;obtain⟨p,a,b⟩:=Eu.mp h;exact⟨p,a,b.symm⟩
theorem z62 (h:∀i,Bit (f i)):∀n,((dueL f n).length:Int)=(tab n f).sum
 |0=>rfl
 | n+1=>by
  have a:=z62 h n;unfold dueL at a ⊢;rw[List.range_succ,Gc,Be,zdd,List.sum_append,<-a];rcases h n with e|e
  ·rw[Di (by rw[e];decide),e];rfl
  ·rw[Dh (by rw[e];decide),e];rfl
theorem zqk (f g h:Nat->Int):∀n,wordOf (tab n f)+wordOf (tab n g)-wordOf (tab n h)=wordOf (tab n λi=>f i+g i-h i)
 |0=>rfl
 | n+1=>by
  have a:=zqk f g h n;rw[zdd,zdd,zdd,zdd,zaq,zaq,zaq,zaq,zay,zay,zay,zay];show _+2^n*(2*0+f n)+(_+2^n*(2*0+g n))-(_+2^n*(2*0+h n))=_+2^n*(2*0+(f n+g n-h n));rw[show (2*0+f n)=f n by symm,show (2*0+g n)=g n by symm,show (2*0+h n)=h n by symm,show (2*0+(f n+g n-h n))=f n+g n-h n by symm,Int.mul_sub,Int.mul_add];symm
theorem zx6 (h:p<n):(1*2^p:Int)=wordOf (tab n λi=>if i=p then 1 else 0):=by
 obtain⟨k,rfl⟩ : ∃k,n=p+(1+k):=⟨n-p-1,by symm⟩;have c:(tab p λi=>if i=p then (1:Int) else 0)=List.replicate p 0:=by
  rw[<-zdq];exact tab_ext λi a=>if_neg #v[]
 have b:(tab k λi=>if p+(1+i)=p then (1:Int) else 0)=List.replicate k 0:=by
  rw[<-zdq];exact tab_ext λi a=>if_neg #v[]
 have e:(tab 1 λi=>if p+i=p then (1:Int) else 0)=[1]:=by
  show [if p+0=p then (1:Int) else 0]=[1];rw[if_pos #v[]]
 rw[zjh,zjh,c,b,e,zaq,zcd,Da];show _=0+2^p*(2*wordOf (List.replicate k 0)+1);rw[zcd];symm
theorem z85 (x y:Int):Builtin.bitOr x y=x+y-Builtin.bitAnd x y:=by
 have h:=zjb x y;have e:Builtin.bitXor x y=Builtin.bitOr x y-Builtin.bitAnd x y:=rfl;symm
theorem zvp (h:∀i,Bit (f i))(a:p<n):Builtin.bitOr (wordOf (tab n f)) (1*2^p)=wordOf (tab n λi=>if i=p then 1 else f i):=by
 rw[zx6 a,z85,zd7 (zaw λi _=>h i) (zaw λi _=>by split<;>first|exact .inr rfl|exact .inl rfl),zjm,zqk];refine congrArg wordOf (tab_ext λi _=>?_);by_cases c:i=p
 ·rw[if_pos c];symm
 ·rw[if_neg c];symm
theorem z2c (c:en[i]?=Za (#v[w,6]))(d:g en=Za (e1,x))(a:resA e1 x=Za u)(h:o w u=Za r)(b:(mp.contains i || !decide (i<e1.length))=Zc):gAug mp o i g en=Za (e1.set i (Za r),.nx):=by
 unfold gAug;rw[c];rw[d];show (resA e1 x).bind _=_;rw[a];show (o w u).bind _=_;rw[h];rw[b]
 rfl
noncomputable def z8m (Ψ:Str->Fn):GS:=(gRet (gOp2 #v[1,9] (gArg (gOp2 (oI (λ_ j=>decide (0<=j)) λi j=>.int (i / 2 ^ j.toNat)) (zaa 0) (zaa 1))) #v[1]))
noncomputable def z1y (Φ:Fn):Prop:=∀(n p:Nat) (f:Nat->Int),(∀i,Bit (f i))->(∀i,n<=i->f i=0)->Φ #v[4,19]=Za (#v[4,19],(.int (f p),Zc))
theorem z69 (Ψ:Str->Fn):z1y (zad [Zc,Zc] 2 (z8m Ψ)):=λn p f b h=>by
 have s:=zks p _ (zaw (n:=n) λi _=>b i);rw[zxv h] at s;have a:gArg (gOp2 (oI (λ_ j=>decide (0<=j)) λi j=>.int (i / 2 ^ j.toNat)) (zaa 0) (zaa 1)) #v[1,19]=Za (#v[1,19],.inl (.int (wordOf (tab n f)/2^p))):=arg_0 (op2_0 (y:=.inl (.int (p:Nat))) rfl rfl rfl rfl (oI_t (Aj (Ea p))));refine zan rfl (zx5 (op2_0 a (show gArg (gC (.int 1)) _=Za (_,.inl (.int 1)) from rfl) rfl rfl ?_)) rfl;show Za (W.int (Builtin.bitAnd (wordOf (tab n f)/2^p) 1),Zc)=_;rw[s]
noncomputable def zkw (Ψ:Str->Fn):GS:=(gSeq #v[8,18] (gSeq (gFor [] (.nm 2) (zax (gVar 0)) #v[8,9]) (zc6 [] 1)))
noncomputable def ze3 (Φ:Fn):Prop:=∀(n:Nat) (M:List Nat),n<=64->(∀p∈M,p<n)->Φ [.tup (castL M)]=Za ([.tup (castL M)],(.int (wordOf (tab n λi=>if i∈M then 1 else 0)),Zc))
theorem zq7 (Ψ:Str->Fn):ze3 (zad [Zc] 3 (zkw Ψ)):=λn M s hM=>by
 have z:(wordOf (tab n λi=>if i∈M.take 0 then 1 else 0))=0:=by
  have:(tab n λi=>if i∈M.take 0 then (1:Int) else 0)=List.replicate n 0:=by
   rw[<-zdq];exact tab_ext λi _=>if_neg (by rw[Fj];exact Bb)
  rw[this,zcd]
 obtain⟨l,d,h⟩:=zbz (mp:=[]) (T:=(.nm 2)) (it:=(zax (gVar 0))) (body:=#v[8,9])
  (λj e=>∃b,e=[#v[(castL M),3],#v[(wordOf (tab n λi=>if i∈M.take j then 1 else 0)),0],b]) (en:=[#v[(castL M),3],#v[0,0],Zb]) (e0:=[#v[(castL M),3],#v[0,0],Zb]) rfl ⟨Zb,by rw[z]⟩
  (by
   rintro j w e r ⟨b,rfl⟩;obtain⟨p,h,rfl⟩:=zlc r;have k:p<n:=hM p (Bm h);have o:=zvp (f:=λi=>if i∈M.take j then 1 else 0) (λi=>by show Bit (if _ then _ else _);split<;>first|exact .inr rfl|exact .inl rfl) k;have g:(tab n λi=>if i=p then (1:Int) else if i∈M.take j then 1 else 0)=tab n λi=>if i∈M.take (j+1) then 1 else 0:=tab_ext λi _=>by
    have m:i∈M.take (j+1)↔(i∈M.take j\/i=p):=by
     rw[Cs,h,Cb];show _\/i∈[p]↔_;rw[Aw]
    by_cases c:i=p
    ·rw[if_pos c,if_pos (m.mpr (.inr c))]
    ·rw[if_neg c];by_cases a:i∈M.take j
     ·rw[if_pos a,if_pos (m.mpr (.inl a))]
     ·rw[if_neg a,if_neg (λq=>(m.mp q).elim a c)]
   rw[g] at o;refine⟨[#v[(castL M),3],#v[(wordOf (tab n λi=>if i∈M.take j then 1 else 0)),0],#v[(p:Nat),0]],[#v[(castL M),3],#v[(wordOf (tab n λi=>if i∈M.take (j+1) then 1 else 0)),0],#v[(p:Nat),0]],rfl,.inl (z2c rfl (arg_0 (op2_0 rfl rfl rfl rfl (oI_t (zln #v[] #v[] #v[0,9])))) rfl ?_ rfl),_,rfl⟩;show Za (W.int (Builtin.bitOr (wordOf (tab n λi=>if i∈M.take j then 1 else 0)) (1*2^p)),Zc)=_;rw[o])
 obtain⟨b,rfl⟩:=h;rw[castL_len,Cn] at d;exact zan rfl ((seq_nx rfl).trans ((seq_nx d).trans rfl)) rfl
theorem zfn:∀ws:List W,zao (ws.map Sum.inl)=Za ws
 |[]=>rfl
 |w::ws=>by show (zao (ws.map Sum.inl)).bind _=_;rw[zfn ws];rfl
theorem zf9:∀{xs:List (W ⊕ Nat)}{ws:List W},zao xs=Za ws->xs=ws.map Sum.inl
 |[],_,e=>by obtain rfl:=sI e;rfl
 | .inl w::xs,_,e=>by
  obtain⟨ws,h,e⟩:=bS (show (zao xs).bind _=_ from e);obtain rfl:=sI e;rw[zf9 h];rfl
 |.inr _::_,_,e=>by exact noSome e
theorem zl6 (m:List Bool) (a:(m.all λb=>!b)=Zd) (h:xs.map isR=m):∃ws:List W,xs=ws.map Sum.inl:=by
 induction xs generalizing m with
 |nil=>exact⟨[],rfl⟩
 | cons x xs c =>
  cases m with
  |nil=>cases h
  | cons b m =>
   injection h with h1 h2;rw[Bv,Ac] at a;obtain⟨ws,e⟩:=c m a.2 h2;cases x with
   |inl w=>exact⟨w::ws,by rw[e];rfl⟩
   |inr i=>rw[<-h1] at a;cases a.1
theorem zf7:∀{m:List Bool} (a:(m.all λb=>!b)=Zd) (ws:List W),ws.length=m.length->(ws.map λ_=>Zc)=m
 |[],_,[],_=>rfl
 |[],_,_::_,h=>by cases h
 |_::_,_,[],h=>by cases h
 | b::m,a,w::ws,h=>by
  rw[Bv,Ac] at a;rw[Ax,zf7 a.2 ws (by simpa using h)];cases b with
  |false=>rfl
  |true=>cases a.1
theorem zb0 (m:List Bool) (Φ:Fn) (as:GAs) (en:En) (f:(m.all λb=>!b)=Zd):gCall m Φ as en=(as en).bind λp=>(zao p.2).bind λws=>if ws.length=m.length then (Φ ws).bind λq=>if q.1.length=m.length then Za (p.1,q.2) else Zb else Zb:=by
 cases ha:as en with
 |none=>unfold gCall;rw[ha];rfl
 | some p =>
  obtain⟨c,x⟩:=p;show _=(zao x).bind _;cases hf:zao x with
  | none =>
   unfold gCall;rw[ha];show (if (decide (x.map isR=m)&&_&&_)=Zd then _ else Zb)=Zb;rw[At (λz=>by obtain⟨ws,e⟩:=zl6 m f z;rw[e,zfn] at hf;cases hf)]
   rfl
  | some ws =>
   have g:=zf9 hf;subst g;show _=if ws.length=m.length then _ else Zb;by_cases a:ws.length=m.length
   ·rw [if_pos a]
    have d:=zf7 f ws a;cases hq:Φ ws with
    | none =>
     unfold gCall;rw[ha];show (if (decide ((ws.map Sum.inl).map isR=m)&&zat c (ws.map Sum.inl)&&zcu (za7 (ws.map Sum.inl)))=Zd then _ else _)=_;have e:(ws.map Sum.inl).map isR=m:=by rw[<-d,Ce];rfl
     rw[Aj e,zel,zhd];rw[zbv];show (Φ ws).bind _=_;rw[hq]
     rfl
    | some q =>
     obtain⟨w,r⟩:=q;show _=if w.length=m.length then Za (c,r) else Zb;by_cases h:w.length=m.length
     ·rw [if_pos h]
      exact zk9 ha d hq #v[]
     ·rw [if_neg h]
      unfold gCall;rw[ha];show (if (decide ((ws.map Sum.inl).map isR=m)&&zat c (ws.map Sum.inl)&&zcu (za7 (ws.map Sum.inl)))=Zd then _ else _)=_;have e:(ws.map Sum.inl).map isR=m:=by rw[<-d,Ce];rfl
      rw[Aj e,zel,zhd];rw[zbv];show (Φ ws).bind _=_;rw[hq];show (if w.length=m.length then _ else Zb)=Zb;rw[if_neg h]
   ·rw [if_neg a]
    unfold gCall;rw[ha];show (if (decide ((ws.map Sum.inl).map isR=m)&&_&&_)=Zd then _ else Zb)=Zb;rw[At (λz=>a (by rw[<-z,Af,Af]))]
    rfl
theorem gCall_mutE (m:List Bool) (Φ:Fn) (as:GAs) (en:En) (A:(m.all λb=>!b)=Zd):gCall (Zd::m) Φ as en=(as en).bind λp=>match p.2 with
  | .inr i::x=>(zao x).bind λc=>(match p.1[i]? with
   | some (Za (s,Zd))=>if c.length=m.length then (Φ (s::c)).bind λq=>(match q.1 with
    |o::y=>if y.length=m.length then Za (p.1.set i (#v[o,5]),q.2) else Zb
    |[]=>Zb) else Zb
   |_=>Zb)
  |_=>Zb:=by
 cases k:as en with
 |none=>unfold gCall;rw[k];rfl
 | some p =>
  obtain ⟨d,x⟩:=p;have base:gCall (Zd::m) Φ as en=if decide (x.map isR=Zd::m)&&zat d x&&zcu (za7 x) then (za4 d x).bind λc=>(Φ c).bind λq=>if q.1.length=(Zd::m).length then Za (zas (za7 x) d (zav (Zd::m) q.1),q.2) else Zb else Zb:=by
   unfold gCall;rw[k];rfl
  have a:x.map isR≠Zd::m->gCall (Zd::m) Φ as en=Zb:=λz=>by rw[base,At z];rfl
  have f:zat d x=Zc->gCall (Zd::m) Φ as en=Zb:=λz=>by rw[base,z,Hl];rfl
  simp only [Dz]
  match x,k,base,a,f with
  |[],k,_,a,_=>rw[a (by simp)]
  |.inl w::x,k,_,a,_=>rw[a (by simp [isR])]
  | .inr i::x,k,base,a,f =>
   simp only;cases hf:zao x with
   | none=>rw [a (λz=>by
     injection z with _ z;obtain⟨c,e⟩:=zl6 m A z;rw[e,zfn] at hf;cases hf)];rfl
   | some c =>
    have B:=zf9 hf;subst B;simp only [Dz];have C:(∀s,d[i]?≠Za (Za (s,Zd)))->zat d (.inr i::c.map Sum.inl)=Zc:=λz=>by
     unfold zat;rw [Bv];have:(match d[i]? with | some (Za (_,Zd))=>Zd | _=>Zc)=Zc:=by
      split
      ·rename_i q;exact absurd q (z _)
      ·rfl
     simp only [Fp]
    split
    ·rename_i s h
     by_cases t:c.length=m.length
     ·rw [if_pos t]
      have D:=zf7 A c t;cases l:Φ (s::c) with
      | none =>
       rw[base];split
       ·have u:za4 d (.inr i::c.map Sum.inl)=Za (s::c):=by
         show (resA d (.inr i)).bind _=_;have:resA d (.inr i)=Za s:=by unfold resA;simp only [h]
         rw[this];rw[zbv]
         rfl
        rw[u];show (Φ (s::c)).bind _=_;rw[l]
        rfl
       ·rfl
      | some q =>
       obtain ⟨j,r⟩:=q;simp only [Dz];have n:j.length≠(Zd::m).length->gCall (Zd::m) Φ as en=Zb:=λz=>by
        rw[base];split
        ·have u:za4 d (.inr i::c.map Sum.inl)=Za (s::c):=by
          show (resA d (.inr i)).bind _=_;have:resA d (.inr i)=Za s:=by unfold resA;simp only [h]
          rw[this];rw[zbv]
          rfl
         rw[u];show (Φ (s::c)).bind _=_;rw[l];show (if j.length=(Zd::m).length then _ else Zb)=Zb;rw[if_neg z]
        ·rfl
       match j,l,n with
       |[],l,n=>rw[n (by simp)]
       | o::y,l,n =>
        simp only;by_cases g:y.length=m.length
        ·rw [if_pos g]
         exact zon k (by rw[D]) h l #v[]
        ·rw[if_neg g,n (by simpa using g)]
     ·rw [if_neg t,a (λz=>t (by
       have:=congrArg List.length z;simpa using this))]
    ·rename_i h
     exact f (C λs z=>h s z)
theorem oI_e {c:Int->Int->Bool}{g:Int->Int->W}{i j:Int}:oI c g (.int i) (.int j)=if c i j then #v[g i j,6] else Zb:=rfl
theorem z9j {i j:Int}:yes2 i j=Zd:=rfl
theorem zy5 {ws:List W}:seqW (.tup ws)=Za ws:=rfl
theorem zyy {ws:List W}:seqW (.lst ws)=Za ws:=rfl
theorem z0b {ws:List W}:seqL (.lst ws)=Za ws:=rfl
theorem yc0 {a:W}{i:Int}:oIx a (.int i)=(seqW a).bind λws=>(atI ws i).bind λw=>#v[w,6]:=by cases a<;>rfl
theorem z8p {en:En}{w:W}:resA en (.inl w)=Za w:=rfl
theorem z90 {en:En}{i:Nat}:resA en (.inr i)=match en[i]? with|some (Za (w,_))=>Za w|_=>Zb:=by
 rfl
theorem ybs {i j:Int}:oEq (.int i) (.int j)=Za #v[4,16]:=rfl
theorem ycv {i j:Int}:oNe (.int i) (.int j)=Za (.bl (!decide (i=j)),false):=rfl
theorem zzh {w:W}{xs:List (W ⊕ Nat)}:zao (.inl w::xs)=(zao xs).bind λws=>Za (w::ws):=rfl
theorem z1o:zao []=Za []:=rfl
theorem z3k {en:En}{x:W ⊕ Nat}{xs:List (W ⊕ Nat)}:za4 en (x::xs)=(resA en x).bind λw=>(za4 en xs).bind λws=>Za (w::ws):=rfl
theorem z67 {en:En}:za4 en []=Za []:=rfl
theorem z30 {b:Bool}{m:List Bool}{w:W}{ws:List W}:zav (b::m) (w::ws)=Za (w,b)::zav m ws:=rfl
theorem z5e {ws:List W}:zav [] ws=[]:=by unfold zav;simp
theorem z8b {en:En}:zcb [] [] en=Za []:=rfl
theorem z75 {m:List Bool}{w u:W}{ws:List W}{en:En}:zcb (Zd::m) (u::ws) (#v[w,5]::en)=(zcb m ws en).bind λr=>Za (w::r):=rfl
theorem yau {m:List Bool}{w:W}{ws:List W}{x:Option (W×Bool)}{en:En}:zcb (Zc::m) (w::ws) (x::en)=(zcb m ws en).bind λr=>Za (w::r):=rfl
theorem yc6 {x:W}{xs:List W}:atI (x::xs) 0=Za x:=by
 have:=zbh (xs:=x::xs) (i:=0) rfl;exact this
theorem yb0 {x y:W}{xs:List W}:atI (x::y::xs) 1=Za y:=by
 have:=zbh (xs:=x::y::xs) (i:=1) rfl;exact this
theorem ycf {x y z:W}{xs:List W}:atI (x::y::z::xs) 2=Za z:=by
 have:=zbh (xs:=x::y::z::xs) (i:=2) rfl;exact this
theorem z0m {n:Nat}:((no_index (OfNat.ofNat n):Nat):Int)=(OfNat.ofNat n:Int):=rfl
theorem zyw {xs ys:List W}:oAdd (.lst xs) (.lst ys)=if xs.length+ys.length<=sizeLine then #v[(xs++ys),2] else Zb:=by
 by_cases h:xs.length+ys.length<=sizeLine
 ·rw[if_pos h];exact zuf h
 ·rw [if_neg h];show oOr oCat (oOr zxw (oOr z5t z1p)) (.lst xs) (.lst ys)=Zb;have e:oCat (.lst xs) (.lst ys)=Zb:=by
   show (if xs.length+ys.length<=sizeLine then _ else Zb)=Zb;rw[if_neg h]
  unfold oOr;rw[e]
  rfl
theorem zmy:oIsi .int .non=Za #v[1,8]:=rfl
theorem zq0 {b:Bool}:oIsi .int (.bl b)=Za #v[8,10]:=rfl
theorem zob {n:Int}:oIsi .int (.int n)=Za #v[8,10]:=rfl
theorem zmv {x:Str}:oIsi .int (.str x)=Za #v[1,8]:=rfl
theorem zm3 {xs:List W}:oIsi .int (.tup xs)=Za #v[1,8]:=rfl
theorem zmq {xs:List W}:oIsi .int (.lst xs)=Za #v[1,8]:=rfl
theorem znh:oIsi .int .dic=Za #v[1,8]:=rfl
theorem zll:oIsi .bool .non=Za #v[1,8]:=rfl
theorem znu {b:Bool}:oIsi .bool (.bl b)=Za #v[8,10]:=rfl
theorem zlp {n:Int}:oIsi .bool (.int n)=Za #v[1,8]:=rfl
theorem zkn {x:Str}:oIsi .bool (.str x)=Za #v[1,8]:=rfl
theorem zlx {xs:List W}:oIsi .bool (.tup xs)=Za #v[1,8]:=rfl
theorem zkd {xs:List W}:oIsi .bool (.lst xs)=Za #v[1,8]:=rfl
theorem zkb:oIsi .bool .dic=Za #v[1,8]:=rfl
theorem znp:oIsi .str .non=Za #v[1,8]:=rfl
theorem zrm {b:Bool}:oIsi .str (.bl b)=Za #v[1,8]:=rfl
theorem zng {n:Int}:oIsi .str (.int n)=Za #v[1,8]:=rfl
theorem zmx {x:Str}:oIsi .str (.str x)=Za #v[8,10]:=rfl
theorem zns {xs:List W}:oIsi .str (.tup xs)=Za #v[1,8]:=rfl
theorem zm1 {xs:List W}:oIsi .str (.lst xs)=Za #v[1,8]:=rfl
theorem zn9:oIsi .str .dic=Za #v[1,8]:=rfl
theorem zi4:oIsi .tuple .non=Za #v[1,8]:=rfl
theorem zl0 {b:Bool}:oIsi .tuple (.bl b)=Za #v[1,8]:=rfl
theorem zjf {n:Int}:oIsi .tuple (.int n)=Za #v[1,8]:=rfl
theorem zjl {x:Str}:oIsi .tuple (.str x)=Za #v[1,8]:=rfl
theorem zjt {xs:List W}:oIsi .tuple (.tup xs)=Za #v[8,10]:=rfl
theorem zij {xs:List W}:oIsi .tuple (.lst xs)=Za #v[1,8]:=rfl
theorem zim:oIsi .tuple .dic=Za #v[1,8]:=rfl
theorem zj1:oIsi .list .non=Za #v[1,8]:=rfl
theorem zn5 {b:Bool}:oIsi .list (.bl b)=Za #v[1,8]:=rfl
theorem zkh {n:Int}:oIsi .list (.int n)=Za #v[1,8]:=rfl
theorem zk0 {x:Str}:oIsi .list (.str x)=Za #v[1,8]:=rfl
theorem zl5 {xs:List W}:oIsi .list (.tup xs)=Za #v[1,8]:=rfl
theorem zj2 {xs:List W}:oIsi .list (.lst xs)=Za #v[8,10]:=rfl
theorem zl3:oIsi .list .dic=Za #v[1,8]:=rfl
theorem yb7 {i j:Bool}:oEq (.bl i) (.bl j)=Za #v[4,16]:=rfl
theorem ycg {i j:Bool}:oNe (.bl i) (.bl j)=Za (.bl (!decide (i=j)),false):=rfl
theorem yc3 {i j:Str}:oEq (.str i) (.str j)=Za #v[4,16]:=rfl
theorem ycd {i j:Str}:oNe (.str i) (.str j)=Za (.bl (!decide (i=j)),false):=rfl
theorem yb5 {i j:Bool}:oIs (.bl i) (.bl j)=Za #v[4,16]:=rfl
theorem z78 {f:List Bool->Bool}{bs:List Bool}:oBl f [.lst (bs.map W.bl)]=Za (.bl (f bs),Zc):=by
 show (zko (bs.map W.bl)).bind _=_;rw[zgf];rfl
theorem zbn (h:T.find? (·.nm==x)=Za t)(a:zak T bn (sem T bn (d+2)) (d+2) t=Za g):sem T bn (d+3) x=zad t.m t.N.length g:=by
 show (match T.find? (·.nm==x) with|some t=>fnAt T bn (sem T bn (d+2)) (d+2) t|none=>λ_=>Zb)=_;rw[h];show fnAt T bn (sem T bn (d+2)) (d+2) t=_;unfold fnAt;rw[a]
noncomputable def evA:=And.intro @oI_e ( And.intro @z9j ( And.intro @zxh ( And.intro @zyw ( And.intro @zy5 ( And.intro @zyy ( And.intro @z0b ( And.intro @yc0 ( And.intro @z8p ( And.intro @z90 ( And.intro @ybs ( And.intro @ycv ( And.intro @yb7 ( And.intro @ycg ( And.intro @yc3 ( And.intro @ycd ( And.intro @yb5 ( And.intro @z78 ( And.intro @zzh ( And.intro @z1o ( And.intro @z3k ( And.intro @z67 ( And.intro @z30 ( And.intro @z5e ( And.intro @z8b ( And.intro @z75 ( And.intro @yau ( And.intro (λΦ as en=>zb0 [Zc] Φ as en rfl) ( And.intro (λΦ as en=>zb0 [Zc,Zc] Φ as en rfl) ( And.intro (λΦ as en=>zb0 [Zc,Zc,Zc] Φ as en rfl) ( And.intro (λΦ as en=>zb0 [Zc,Zc,Zc,Zc] Φ as en rfl) ( And.intro (λΦ as en=>gCall_mutE [] Φ as en rfl) ( And.intro (λΦ as en=>gCall_mutE [Zc] Φ as en rfl) ( And.intro (λΦ as en=>gCall_mutE [Zc,Zc] Φ as en rfl) ( And.intro (λΦ as en=>gCall_mutE [Zc,Zc,Zc] Φ as en rfl) ( And.intro @yc6 ( And.intro @yb0 ( And.intro @ycf ( And.intro @sizeLine_eq ( And.intro @zmy ( And.intro @zq0 ( And.intro @zob ( And.intro @zmv ( And.intro @zm3 ( And.intro @zmq ( And.intro @znh ( And.intro @zll ( And.intro @znu ( And.intro @zlp ( And.intro @zkn ( And.intro @zlx ( And.intro @zkd ( And.intro @zkb ( And.intro @znp ( And.intro @zrm ( And.intro @zng ( And.intro @zmx ( And.intro @zns ( And.intro @zm1 ( And.intro @zn9 ( And.intro @zi4 ( And.intro @zl0 ( And.intro @zjf ( And.intro @zjl ( And.intro @zjt ( And.intro @zij ( And.intro @zim ( And.intro @zj1 ( And.intro @zn5 ( And.intro @zkh ( And.intro @zk0 ( And.intro @zl5 ( And.intro @zj2 ( And.intro @zl3 ( And.intro @z0m ( And.intro @Option.bind_some.{0,0} ( And.intro @Option.bind_none.{0,0} ( And.intro @List.length_cons.{0} ( And.intro @List.length_nil.{0} ( And.intro @List.getElem?_cons_zero.{0} ( And.intro @List.getElem?_cons_succ.{0} ( And.intro @List.set_cons_zero.{0} ( And.intro @List.set_cons_succ.{0} ( And.intro @List.nil_append.{0} ( And.intro @List.cons_append.{0} ( And.intro @List.contains_nil.{0} ( And.intro @Bool.false_or ( And.intro @Bool.or_false ( And.intro @Bool.not_true ( And.intro @Fo ( And.intro @Ct ( And.intro @Nat.lt_add_one ( And.intro @Nat.zero_lt_succ ( And.intro @decide_true ( And.intro @decide_false ( And.intro @Cc ( And.intro @List.elem_nil.{0} ( And.intro @List.elem_cons.{0} ( And.intro @Ew ( And.intro @Bool.true_eq_false ( And.intro @Bool.or_self ( And.intro @Bool.and_self ( And.intro @Bool.true_and ( And.intro @Fp ( And.intro @Bool.and_true ( And.intro @Hl ( And.intro @Bool.true_or ( And.intro @Bool.or_true ( And.intro @Fe ( And.intro @gVar.eq_1 ( And.intro @zaa.eq_1 ( And.intro @gC.eq_1 ( And.intro @gArg.eq_1 ( And.intro @gA0.eq_1 ( And.intro @gCns.eq_1 ( And.intro @gOp1.eq_1 ( And.intro @gOp2.eq_1 ( And.intro @gOpN.eq_1 ( And.intro @zah.eq_1 ( And.intro @gAnd.eq_1 ( And.intro @gOr.eq_1 ( And.intro @gNot.eq_1 ( And.intro @zdy.eq_1 ( And.intro @gOrT.eq_1 ( And.intro @zhg.eq_1 ( And.intro @gIf.eq_1 ( And.intro @zb1.eq_1 ( And.intro @zap.eq_1 ( And.intro @z73.eq_1 ( And.intro @zbx.eq_1 ( And.intro @zd2.eq_1 ( And.intro @gSl.eq_1 ( And.intro @zax.eq_1 ( And.intro @zcw.eq_1 ( And.intro @zu7.eq_1 ( And.intro @gRev.eq_1 ( And.intro @zc7.eq_1 ( And.intro @gBrk.eq_1 ( And.intro @gCnt.eq_1 ( And.intro @gSeq.eq_1 ( And.intro @gRet.eq_1 ( And.intro @yct.eq_1 ( And.intro @gIfS.eq_1 ( And.intro @zfj.eq_1 ( And.intro @gSet.eq_1 ( And.intro @gAsg.eq_1 ( And.intro @gPar.eq_1 ( And.intro @za1.eq_1 ( And.intro @gApp.eq_1 ( And.intro @gExt.eq_1 ( And.intro @gAug.eq_1 ( And.intro @gYes.eq_1 ( And.intro @zc6.eq_1 ( And.intro @gZip.eq_1 ( And.intro @zmr.eq_1 ( And.intro @zad.eq_1 ( And.intro @ych.eq_1 (@ycp.eq_1)))))))))))))))))))))))))))))))))))))))))))))))))))))))))))))))))))))))))))))))))))))))))))))))))))))))))))))))))))))))))))))))))))))))))))))))))))))))))))))
end L2
local macro_rules | `(tactic| simp! [$xs,*])=>`(tactic| simp only [L2.evA,L2.tgSet,L2.keyW,L2.oNeg,L2.oLen,L2.setAll,List.replicate,List.contains,eq_self,Nat.reduceAdd,Nat.reduceSub,Nat.reduceLT,Nat.reduceLeDiff,reduceIte,reduceCtorEq,Nat.reduceEqDiff,Nat.reduceBEq,↓reduceIte,Int.reduceEq,Int.reduceLE,Int.reduceLT,Int.reduceAdd,Int.reduceSub,Int.reduceMul,Int.reduceNeg,$xs,*])
namespace L2
open PySem PySem.Spec PyProof.Rows
theorem b_var (h:en[i]?=Za (#v[w,6])):gVar i en=Za (en,(w,Zc)):=by
 have e:en.set i (#v[w,6])=en:=by
  refine Ds λj=>?_;rw[List.getElem?_set];split
  ·rename_i z;subst z;obtain⟨a,_⟩:=Ah.mp h;rw[if_pos a,h]
  ·rfl
 unfold gVar;rw[h];show Za (en.set i _,_)=_;rw[e]
theorem b_va (h:en[i]?=Za (#v[w,6])):zaa i en=Za (en,.inl w):=by unfold zaa;rw[h]
theorem b_vo (h:en[i]?=Za (#v[w,5])):zaa i en=Za (en,.inr i):=by unfold zaa;rw[h]
theorem b_arg (h:g en=Za (e1,(w,f))):gArg g en=Za (e1,.inl w):=zbo h
theorem b_cg (h:g en=Za (e1,(w,f)))(a:as e1=Za (e2,xs)):gCns (gArg g) as en=Za (e2,.inl w::xs):=cns_ev (zbo h) a
theorem b_a0:gA0 en=Za (en,[]):=rfl
theorem b_c:gC w en=Za (en,(w,Zc)):=rfl
theorem b_op2 (f:a en=Za (e1,x))(d:b e1=Za (e2,y))(h:(resA e2 x).bind (λw=>(resA e2 y).bind (o w))=Za r):gOp2 o a b en=Za (e2,r):=by
 obtain⟨w,c,h⟩:=bS h;obtain⟨u,e,h⟩:=bS h;exact zba f d c e h
theorem b_tp (h:a en=Za (e1,.inl w))(c:b e1=Za (e2,.inl u))(d:o w u=Za r):gOp2 o a b en=Za (e2,r):=zba h c rfl rfl d
theorem b_call (h:as en=Za (e1,xs))(d:zao xs=Za ws)(c:Φ ws=Za (ws',r))(a:((m.all λb=>!b)&&(ws.length==m.length)&&(ws'.length==m.length))=Zd):gCall m Φ as en=Za (e1,r):=by
 rw[Ac,Ac] at a;rw[zb0 m Φ as en a.1.1,h];show (zao xs).bind _=_;rw[d];show (if ws.length=m.length then _ else _)=_;rw[if_pos (Bn a.1.2),c];show (if ws'.length=m.length then _ else _)=_;rw[if_pos (Bn a.2)]
theorem b_callm {st s:W} (h:as en=Za (e1,.inr i::xs)) (d:zao xs=Za ws) (e:e1[i]?=Za (Za (st,Zd))) (c:Φ (st::ws)=Za (s::ws',r)) (a:((m.all λb=>!b)&&(ws.length==m.length)&&(ws'.length==m.length))=Zd):gCall (Zd::m) Φ as en=Za (e1.set i (Za (s,Zd)),r):=by
 rw [Ac,Ac] at a;rw [gCall_mutE m Φ as en a.1.1,h];show (zao xs).bind _=_;rw [d];show (match e1[i]? with
  | some (Za (st,Zd))=>if ws.length=m.length then (Φ (st::ws)).bind λq=>(match q.1 with
   |s::w=>if w.length=m.length then Za (e1.set i (#v[s,5]),q.2) else Zb
   |[]=>Zb) else Zb
  |_=>Zb)=_
 rw[e];show (if ws.length=m.length then _ else _)=_;rw[if_pos (Bn a.1.2),c];show (if ws'.length=m.length then _ else _)=_;rw[if_pos (Bn a.2)]
theorem b_ifT (h:c en=Za (e1,t))(e:t=Zd)(d:a e1=r):gIfS c a b en=r:=by subst e;exact (z4r h).trans d
theorem b_ifF (h:c en=Za (e1,t))(e:t=Zc)(d:b e1=r):gIfS c a b en=r:=by subst e;exact (z29 h).trans d
theorem b_orF (h:a en=Za (e1,t))(d:t=Zc)(c:b e1=r):gOrT a b en=r:=by subst d;exact (ybz h).trans c
theorem b_orT (h:a en=Za (e1,t))(c:t=Zd):gOrT a b en=#v[e1,5]:=by subst c;exact ydc h
theorem b_anT (h:a en=Za (e1,t))(d:t=Zd)(c:b e1=r):zdy a b en=r:=by subst d;exact (yax h).trans c
theorem b_anF (h:a en=Za (e1,t))(c:t=Zc):zdy a b en=#v[e1,6]:=by subst c;exact yar h
theorem b_aT (h:a en=Za (e1,(.bl t,f)))(d:t=Zd)(c:b e1=r):gAnd a b en=r:=by unfold gAnd;rw[h,d];exact c
theorem b_aF (h:a en=Za (e1,(.bl t,f)))(c:t=Zc):gAnd a b en=Za (e1,#v[1,8]):=by unfold gAnd;rw[h,c]
theorem b_oT (h:a en=Za (e1,(.bl t,f)))(c:t=Zd):gOr a b en=Za (e1,#v[8,10]):=by unfold gOr;rw[h,c]
theorem b_oF (h:a en=Za (e1,(.bl t,f)))(d:t=Zc)(c:b e1=r):gOr a b en=r:=by unfold gOr;rw[h,d];exact c
theorem b_iT (h:c en=Za (e1,t))(e:t=Zd)(d:a e1=r):gIf c a b en=r:=by unfold gIf;rw[h,e];exact d
theorem b_iF (h:c en=Za (e1,t))(e:t=Zc)(d:b e1=r):gIf c a b en=r:=by unfold gIf;rw[h,e];exact d
theorem b_not (h:a en=Za (e1,(.bl t,f))):gNot a en=Za (e1,(.bl (!t),Zc)):=by unfold gNot;rw[h]
theorem b_asg (h:g en=Za (e1,(w,f)))(a:tgSet mp T w e1=Za e2):gAsg mp T g en=Za (e2,.nx):=by
 unfold gAsg;rw[h];show (tgSet mp T w e1).bind _=_;rw[a];rfl
theorem b_seqI (h:g en=Za (e1,(w,f)))(a:seqW w=Za ws):zax g en=Za (e1,ws):=by
 unfold zax;rw[h];show (seqW w).bind _=_;rw[a];rfl
theorem b_rev (h:g en=Za (e1,(w,f)))(a:seqL w=Za ws):gRev g en=Za (e1,ws.reverse):=by
 unfold gRev;rw[h];show (seqL w).bind _=_;rw[a];rfl
theorem b_enum (h:g en=Za (e1,(w,f)))(a:seqW w=Za ws):zmr g en=Za (e1,zfu ws 0):=by
 unfold zmr;rw[h];show (seqW w).bind _=_;rw[a];rfl
theorem b_zip (h:g en=Za (e1,(w,f)))(c:g' e1=Za (e2,(w',f')))(b:seqW w=Za ws)(a:seqW w'=Za us):gZip g g' en=Za (e2,zipW ws us):=by
 unfold gZip;rw[h];show (g' e1).bind _=_;rw[c];show (seqW w).bind _=_;rw[b];show (seqW w').bind _=_;rw[a];rfl
theorem b_part (h:g en=Za (e1,(.int i,f))):zd2 g en=Za (e1,Za i):=z5q h rfl
theorem b_sl {d c:GO}(i:a en=Za (e1,x))(f:d e1=Za (e2,l))(e:c e2=Za (e3,h))(b:(resA e3 x).bind (λw=>oSl w l h)=Za r):gSl a d c en=Za (e3,r):=by
 obtain⟨w,g,b⟩:=bS b;exact yb9 i f e g b
theorem b_opN (b:as en=Za (e1,xs))(h:(za4 e1 xs).bind o=Za r):gOpN o as en=Za (e1,r):=by
 obtain⟨w,a,h⟩:=bS h;exact z15 b a h
theorem b_op1 (c:a en=Za (e1,x))(h:(resA e1 x).bind o=Za r):gOp1 o a en=Za (e1,r):=by
 obtain⟨w,b,h⟩:=bS h;exact z7n c b h
theorem b_seq (h:a en=Za (e1,.nx))(c:b e1=r):gSeq a b en=r:=(seq_nx h).trans c
theorem b_app (h:g en=Za (e1,(w,f)))(c:e1[i]?=Za (#v[ws,2]))(a:∃u,en[i]?=Za (#v[u,2]))(b:ws.length<sizeLine):gApp i g en=Za (e1.set i (#v[(ws++[w]),2]),(.non,Zc)):=by
 obtain⟨u,a⟩:=a;exact zxp a h c b
theorem b_setIx (h:g en=Za (e1,(w,f)))(d:k e1=Za (e2,(.int n,f2)))(a:∃y,e1[i]?=Za (Za y))(b:e2[i]?=Za (#v[ws,2]))(c:ixN ws.length n=Za j):za1 i k g en=Za (e2.set i (#v[(ws.set j w),2]),.nx):=by
 obtain⟨y,a⟩:=a;unfold za1;simp only [h,Dz,a,d,b,c]
theorem b_aug (c:en[i]?=Za (#v[w,6]))(d:g en=Za (e1,x))(h:(resA e1 x).bind (o w)=Za r)(b:(mp.contains i || !decide (i<e1.length))=Zc):gAug mp o i g en=Za (e1.set i (Za r),.nx):=by
 unfold gAug;rw[c];show (g en).bind _=_;rw[d];obtain⟨u,a,h⟩:=bS h;show (resA e1 x).bind _=_;rw[a];show (o w u).bind _=_;rw[h];show (if (mp.contains i || !decide (i<e1.length))=Zd then _ else _)=_;rw[b];rfl
theorem b_rvU (h:en[i]?=Za (#v[w,6])):zc6 mp i en=Za (en,.ret (w,Zc)):=by unfold zc6;rw[h]
theorem b_fn (b:ws.length=m.length)(h:g (zav m ws++List.replicate (n-m.length) Zb)=Za (en,.ret r))(a:zcb m ws en=Za ws'):zad m n g ws=Za (ws',r):=zan b h a
end L2
local macro_rules | `(tactic| simp_arith only [$xs,*])=>do let z <- `(tactic| fail);let f:=fun (s:String)=>(s.splitOn " ").foldrM (fun x r=>`(tactic| first | apply $(Lean.mkIdent (Lean.Name.mkStr `L2 x)) | $r:tactic)) z;let a <- f "b_a0 b_c b_var b_va b_vo b_cg cns_ev b_arg b_callm b_call b_tp b_op1 b_opN set_ev b_seq test_ev ret_ev b_rvU expr_ev par_ev notT_ev b_not tupD_ev lstD_ev b_ifT b_orF b_anT b_aT b_oF b_iT b_asg b_seqI b_rev b_enum b_zip b_part b_sl b_app b_setIx b_aug b_fn";let b <- f "b_op2 b_ifF b_orT b_anF b_aF b_oT b_iF seq_rt";`(tactic| focus first | ((with_reducible $a:tactic);all_goals simp_arith only [$xs,*]) | ((with_reducible $b:tactic);all_goals simp_arith only [$xs,*]) | (with_reducible assumption) | exact rfl | exact ⟨_,rfl⟩ | (simp! [$xs,*];done) | (simp! [$xs,*];exact rfl))
local macro_rules | `(tactic| simp_arith [$xs,*])=>`(tactic| (apply Eq.trans;(simp_arith only [$xs,*]);first | exact rfl | (simp! [$xs,*];done) | (simp! [$xs,*];exact rfl)))
namespace L2
open PySem PySem.Spec PyProof.Rows
noncomputable def zu8 (Ψ:Str->Fn):GE:=zbu [Zb,Zb,Za 3] (.nm 1) (zax (gVar 2)) gYes #v[6,17]
noncomputable def zwa (Ψ:Str->Fn):GS:=(gSet [] 2 (gOp2 oAdd (zaa 2) (gArg (zu8 Ψ))))
noncomputable def zuo (Ψ:Str->Fn):GS:=gFor [] (.nm 3) (zcw (gCns (zaa 0) gA0)) (zwa Ψ)
noncomputable def zvb (Ψ:Str->Fn):GE:=zbu [Zb,Zb,Za 1] (.nm 1) (zax (gVar 2)) (zah (gOp2 (oI yes2 λi j=>.bl (decide (i<=j))) (gArg (gOpN oLen #v[9,17])) (zaa 2))) (gVar 1)
noncomputable def zqc (Ψ:Str->Fn):GS:=(gSeq (gSet [] 2 (zap #v[3,18])) (gSeq (zuo Ψ) (gRet (zv1 (zb1 (gCns #v[2,9] #v[7,16])) (gArg (zvb Ψ))))))
noncomputable def zqh (Ψ:Str->Fn):GE:=zbu [Zb,Zb,Zb] (.tp [1,2]) (gZip (gVar 3) (gCall [Zd,Zc] (Ψ "_law_bits") (gCns (zaa 0) #v[3,11]))) (zah (gOp2 oEq (zaa 2) #v[1])) (gVar 1)
noncomputable def zt1 (Ψ:Str->Fn):GS:=(gSeq (gSet [0] 3 (gCall [Zc,Zc] (Ψ "_law_terms") #v[1,11])) (gRet (gOpN za5 (gCns (gArg (zqh Ψ)) gA0))))
noncomputable def tmW (t:List Nat):W:=.tup (t.map λl=>.int (l:Nat))
noncomputable def zsw:Nat->Nat->Nat->Nat->List (List Nat)
 |_,_,_,0=>[[]]
 |0,_,_,_+1=>[]
 |f+1,l,m,k+1=>(if l<m then (zsw f (l+1) m k).map (l :: ·)++zsw f (l+1) m (k+1) else [])
noncomputable def zab (m most:Nat):List (List Nat):=(List.range (most+1)).flatMap λk=>zsw (m+1) 0 m k
noncomputable def zgu (Φ:Fn):Prop:=∀m most:Nat,m<=6->most<=6->Φ [.int m,.int most]=Za ([.int m,.int most],(.lst ((zab m most).map tmW),Zd))
noncomputable def tmP (Ψ:Str->Fn) (m k:Nat):Prop:=zad [Zc,Zc] 4 (zqc Ψ) [.int (m:Int),.int (k:Int)]=Za ([.int (m:Int),.int (k:Int)],(.lst ((zab m k).map tmW),Zd))
theorem tm0 (Ψ:Str->Fn):tmP Ψ 0 0/\tmP Ψ 0 1/\tmP Ψ 0 2/\tmP Ψ 0 3/\tmP Ψ 0 4/\tmP Ψ 0 5/\tmP Ψ 0 6:=by
 unfold tmP;refine⟨?_,?_,?_,?_,?_,?_,?_⟩<;>kernel_rfl
theorem tm1 (Ψ:Str->Fn):tmP Ψ 1 0/\tmP Ψ 1 1/\tmP Ψ 1 2/\tmP Ψ 1 3/\tmP Ψ 1 4/\tmP Ψ 1 5/\tmP Ψ 1 6:=by
 unfold tmP;refine⟨?_,?_,?_,?_,?_,?_,?_⟩<;>kernel_rfl
theorem tm2 (Ψ:Str->Fn):tmP Ψ 2 0/\tmP Ψ 2 1/\tmP Ψ 2 2/\tmP Ψ 2 3/\tmP Ψ 2 4/\tmP Ψ 2 5/\tmP Ψ 2 6:=by
 unfold tmP;refine⟨?_,?_,?_,?_,?_,?_,?_⟩<;>kernel_rfl
theorem tm3 (Ψ:Str->Fn):tmP Ψ 3 0/\tmP Ψ 3 1/\tmP Ψ 3 2/\tmP Ψ 3 3/\tmP Ψ 3 4/\tmP Ψ 3 5/\tmP Ψ 3 6:=by
 unfold tmP;refine⟨?_,?_,?_,?_,?_,?_,?_⟩<;>kernel_rfl
theorem tm4 (Ψ:Str->Fn):tmP Ψ 4 0/\tmP Ψ 4 1/\tmP Ψ 4 2/\tmP Ψ 4 3/\tmP Ψ 4 4/\tmP Ψ 4 5/\tmP Ψ 4 6:=by
 unfold tmP;refine⟨?_,?_,?_,?_,?_,?_,?_⟩<;>kernel_rfl
theorem tm5 (Ψ:Str->Fn):tmP Ψ 5 0/\tmP Ψ 5 1/\tmP Ψ 5 2/\tmP Ψ 5 3/\tmP Ψ 5 4/\tmP Ψ 5 5/\tmP Ψ 5 6:=by
 unfold tmP;refine⟨?_,?_,?_,?_,?_,?_,?_⟩<;>kernel_rfl
theorem tm6 (Ψ:Str->Fn):tmP Ψ 6 0/\tmP Ψ 6 1/\tmP Ψ 6 2/\tmP Ψ 6 3/\tmP Ψ 6 4/\tmP Ψ 6 5/\tmP Ψ 6 6:=by
 unfold tmP;refine⟨?_,?_,?_,?_,?_,?_,?_⟩<;>kernel_rfl
theorem zyb (Ψ:Str->Fn):zgu (zad [Zc,Zc] 4 (zqc Ψ)):=λm k a b=>by
 match m,k,a,b with
 |0,0,_,_=>exact (tm0 Ψ).1
 |0,1,_,_=>exact (tm0 Ψ).2.1
 |0,2,_,_=>exact (tm0 Ψ).2.2.1
 |0,3,_,_=>exact (tm0 Ψ).2.2.2.1
 |0,4,_,_=>exact (tm0 Ψ).2.2.2.2.1
 |0,5,_,_=>exact (tm0 Ψ).2.2.2.2.2.1
 |0,6,_,_=>exact (tm0 Ψ).2.2.2.2.2.2
 |1,0,_,_=>exact (tm1 Ψ).1
 |1,1,_,_=>exact (tm1 Ψ).2.1
 |1,2,_,_=>exact (tm1 Ψ).2.2.1
 |1,3,_,_=>exact (tm1 Ψ).2.2.2.1
 |1,4,_,_=>exact (tm1 Ψ).2.2.2.2.1
 |1,5,_,_=>exact (tm1 Ψ).2.2.2.2.2.1
 |1,6,_,_=>exact (tm1 Ψ).2.2.2.2.2.2
 |2,0,_,_=>exact (tm2 Ψ).1
 |2,1,_,_=>exact (tm2 Ψ).2.1
 |2,2,_,_=>exact (tm2 Ψ).2.2.1
 |2,3,_,_=>exact (tm2 Ψ).2.2.2.1
 |2,4,_,_=>exact (tm2 Ψ).2.2.2.2.1
 |2,5,_,_=>exact (tm2 Ψ).2.2.2.2.2.1
 |2,6,_,_=>exact (tm2 Ψ).2.2.2.2.2.2
 |3,0,_,_=>exact (tm3 Ψ).1
 |3,1,_,_=>exact (tm3 Ψ).2.1
 |3,2,_,_=>exact (tm3 Ψ).2.2.1
 |3,3,_,_=>exact (tm3 Ψ).2.2.2.1
 |3,4,_,_=>exact (tm3 Ψ).2.2.2.2.1
 |3,5,_,_=>exact (tm3 Ψ).2.2.2.2.2.1
 |3,6,_,_=>exact (tm3 Ψ).2.2.2.2.2.2
 |4,0,_,_=>exact (tm4 Ψ).1
 |4,1,_,_=>exact (tm4 Ψ).2.1
 |4,2,_,_=>exact (tm4 Ψ).2.2.1
 |4,3,_,_=>exact (tm4 Ψ).2.2.2.1
 |4,4,_,_=>exact (tm4 Ψ).2.2.2.2.1
 |4,5,_,_=>exact (tm4 Ψ).2.2.2.2.2.1
 |4,6,_,_=>exact (tm4 Ψ).2.2.2.2.2.2
 |5,0,_,_=>exact (tm5 Ψ).1
 |5,1,_,_=>exact (tm5 Ψ).2.1
 |5,2,_,_=>exact (tm5 Ψ).2.2.1
 |5,3,_,_=>exact (tm5 Ψ).2.2.2.1
 |5,4,_,_=>exact (tm5 Ψ).2.2.2.2.1
 |5,5,_,_=>exact (tm5 Ψ).2.2.2.2.2.1
 |5,6,_,_=>exact (tm5 Ψ).2.2.2.2.2.2
 |6,0,_,_=>exact (tm6 Ψ).1
 |6,1,_,_=>exact (tm6 Ψ).2.1
 |6,2,_,_=>exact (tm6 Ψ).2.2.1
 |6,3,_,_=>exact (tm6 Ψ).2.2.2.1
 |6,4,_,_=>exact (tm6 Ψ).2.2.2.2.1
 |6,5,_,_=>exact (tm6 Ψ).2.2.2.2.2.1
 |6,6,_,_=>exact (tm6 Ψ).2.2.2.2.2.2
 |m+7,_,h,_=>symm
 |_,k+7,_,h=>symm
theorem znc {α:Type}{ts:List α} (f:α->W) (p:α->Bool) (g:α->W) (r:it en=Za (e0,ts.map f)) (C:ts.length<=1000) (o:zcu cap=Zd) (z:(capKeep cap).contains 1=Zc) (A:zfi cap e0=Zb::Zb::xs) (m:∀v0 v1,zas cap e0 (v0::v1::xs)=e0)
  (y:∀v0 a,a∈ts->∃u,tc (v0::#v[f a,6]::xs)=Za (v0::u::xs,p a)/\(p a=Zd->∃j b,te (v0::u::xs)=Za (v0::j::xs,(g a,b)))) :
  zbu cap (.nm 1) it tc te en=Za (e0,(.lst ((ts.filter p).map g),Zd)):=by
 have B:(1000:Nat)<=sizeLine:=by decide
 obtain ⟨s,out,k,e⟩:=zez (T:=.nm 1) (λi c l=>(∃v0 v1,c=v0::v1::xs)/\l=((ts.take i).filter p).map g) r o (by rw [Af];symm) ⟨⟨_,_,A⟩,rfl⟩
  (λi w c l h e=>by
   obtain⟨⟨v0,v1,rfl⟩,rfl⟩:=e;rw[Ar] at h;cases ha:ts[i]? with
   |none=>rw[ha] at h;exact noSome h
   | some a =>
    rw[ha] at h;obtain rfl:=sI h;obtain⟨u,d,n⟩:=y v0 a (Bm ha);have t:ts.take (i+1)=ts.take i++[a]:=by rw[Cs,ha];rfl
    refine⟨v0::#v[f a,6]::xs,?_,?_⟩
    ·show (if (capKeep cap).contains 1 || !decide (1<(v0::v1::xs).length) then Zb else _)=_
     rw[z]
     rfl
    ·cases q:p a with
     | true =>
      obtain⟨j,b,x⟩:=n q;rw[q] at d;refine .inl ⟨_,_,_,d,x,⟨_,_,rfl⟩,?_⟩;rw[t,Gc,Bw,Dh q];rfl
     | false =>
      rw[q] at d;refine .inr ⟨_,d,⟨_,_,rfl⟩,?_⟩;rw[t,Gc,Di (by rw[q];decide),List.filter_nil,Cf])
 obtain⟨⟨v0,v1,rfl⟩,rfl⟩:=e;rw[m,Af,Cn] at k;exact k
theorem zte (h:a en=Za (e1,.inl (.int (n:Nat))))(c:n<=1000000):zcw (gCns a gA0) en=Za (e1,rngW 0 n):=by
 have r:zd0 (n:Int)=Zd:=by
  unfold zd0;rw[Aj #v[],Aj #v[]];rfl
 have b:gCns a gA0 en=Za (e1,[.inl (.int (n:Nat))]):=by unfold gCns;rw[h];rfl
 have:=z7c b rfl r;exact this
theorem pow1 {l:Nat}(h:l<=100):cPow 1 (l:Int)=Zd:=by
 unfold cPow;rw[Aj #v[],Aj #v[]];rfl
theorem zbd (l:Nat):(1:Int)*2^l=((2^l:Nat):Int):=by rw[Int.one_mul];norm_cast
noncomputable def hasT (t:List Nat) (p:Nat):Bool:=t.all λl=>decide (p/2^l%2=1)
noncomputable def valF (ts:List (List Nat)) (p:Nat):Int:=(((ts.filter λt=>hasT t p).length%2:Nat):Int)
theorem zg6 (h:m<=6):2^m<=64:=Fh #v[0,9] h
theorem z96 {i:Nat}{w:W}(h:(zipW xs ys)[i]?=Za w):∃x y,xs[i]?=Za x/\ys[i]?=Za y/\w=.tup [x,y]:=by
 have l:=(Ah.mp h).1;rw[zeb] at l;have b:xs[i]?=Za xs[i]:=Ad #v[];have a:ys[i]?=Za ys[i]:=Ad #v[];rw[ziv b a] at h;obtain rfl:=sI h;exact⟨_,_,b,a,rfl⟩
noncomputable def zps (Φ:Fn):Prop:=∀(k:Nat) (a:W) (m most:Nat),HS k a->k+100<big->m<=6->most<=6->∃(s:W) (t:List (List Nat)),Φ [a,.int (m:Nat),.int (most:Nat)]=Za ([s,.int (m:Nat),.int (most:Nat)],(.tup (t.map tmW),Zc))/\HS (k+66) s/\t.Sublist (zab m most)
theorem ztg:∀m most:Fin 7,(zab m.val most.val).length<=64/\∀t∈zab m.val most.val,t.length<=6/\∀l∈t,l<m.val:=by decide +kernel
theorem zeq (h:m<=6)(a:most<=6):(zab m most).length<=64/\∀t∈zab m most,t.length<=6/\∀l∈t,l<m:=ztg ⟨m,by symm⟩ ⟨most,by symm⟩
theorem z27 {Ψ:Str->Fn} (hT:zgu (Ψ "_law_terms")) (hB:zlg (Ψ "_law_bits")):zps (zad [Zd,Zc,Zc] 4 (zt1 Ψ)):=λk st m most C G r j=>by
 have K:(1000:Nat)<=sizeLine:=by decide
 obtain ⟨J,_⟩:=zeq r j;have u:=hT m most r j;refine aG λ_ qG=>?_;obtain ⟨st',q,I,F,M,L⟩:=hB k st ((zab m most).length:Nat) C G (by symm) (by symm);refine qG ?_;have z:∃a:List (List Nat),zqh Ψ #v[4,12]=Za (#v[1,12],(.lst (a.map tmW),Zd))/\a.Sublist (zab m most):=by
  obtain ⟨B,out,A,f⟩:=zez (cap:=[Zb,Zb,Zb]) (T:=.tp [1,2]) (tc:=zah (gOp2 oEq (zaa 2) (gArg (gC (.int 1))))) (te:=gVar 1) (it:=gZip (gVar 3) (gCall [Zd,Zc] (Ψ "_law_bits") (gCns (zaa 0) #v[3,11]))) (en:=#v[4,12]) (e0:=#v[1,12]) (ws:=zipW ((zab m most).map tmW) (q.map W.int)) (λi c o=>(∃v0 e g,c=[v0,e,g])/\∃a:List (List Nat),o=a.map tmW/\a.Sublist ((zab m most).take i))
   (by simp_arith [Af,I]) rfl (by rw [zeb,Af];symm) ⟨⟨_,_,_,rfl⟩,[],rfl,List.nil_sublist _⟩ λi w c o E f=>by
    nofun;obtain⟨⟨v0,e,g,rfl⟩,a,rfl,h⟩:=f;obtain⟨x,y,d,b,rfl⟩:=z96 E;refine qG ?_;rw[Ar] at d b;cases ha:(zab m most)[i]? with
    |none=>rw[ha] at d;exact noSome d
    | some t =>
     cases hb:q[i]? with
     |none=>rw[hb] at b;exact noSome b
     | some n =>
      rw[ha] at d;rw[hb] at b;obtain rfl:=sI d;obtain rfl:=sI b;have s:(zab m most).take (i+1)=(zab m most).take i++[t]:=by rw[Cs,ha];rfl
      refine⟨#v[0,19],rfl,?_⟩;have p:zah (gOp2 oEq (zaa 2) #v[1]) #v[0,19]=Za (#v[0,19],decide (n=1)):=by simp_arith []
      by_cases l:n=1
      ·refine .inl ⟨#v[1,14], #v[1,14],(tmW t,Zc), ?_,rfl,⟨_,_,_,rfl⟩,a ++ [t], ?_, ?_⟩
       ·rw[p,Aj l]
       ·rw[Bw];rfl
       ·rw[s];exact h.append (.refl _)
      ·refine .inr ⟨#v[1,14], ?_,⟨_,_,_,rfl⟩,a,rfl, ?_⟩
       ·rw[p,At l]
       ·rw[s];exact h.trans (List.sublist_append_left _ _)
  nofun;obtain⟨⟨v0,e,g,rfl⟩,a,rfl,h⟩:=f;refine qG ?_;exact⟨a,A,h.trans (Eh _ _)⟩
 obtain⟨a,D,sub⟩:=z;refine⟨st',a,?_,F,sub⟩;have H:za5 [.lst (a.map tmW)]=#v[(a.map tmW),3]:=rfl;unfold zt1
 simp_arith [u,D,H]
theorem zke {α:Type}(f:α->PyData):∀l:List α,PyData.shownAll (l.map f)=l.map λx=>(f x).shown
 |[]=>rfl
 |x::l=>by rw[Ax,PyData.shownAll,zke f l];rfl
theorem zfh {α:Type} (f:α->PyData):∀l:List α,(∀x∈l,(f x).depth<=c)->PyData.depthAll (l.map f)<=c
 |[],_=>Bk _
 | x::l,h=>by
  rw[Ax,PyData.depthAll];have:=h x (Au ..);have:=zfh f l λy a=>h y (Ap _ a);symm
theorem zdu {α:Type}(f:α->PyData):∀l:List α,(∀x∈l,(f x).canLay0=Zd)->PyData.canLayAll0 (l.map f)=Zd
 |[],_=>rfl
 |x::l,h=>by rw[Ax,PyData.canLayAll0,h x (Au ..),zdu f l λy a=>h y (Ap _ a)];rfl
theorem zna {α:Type}(f:α->W)(g:α->PyData)(h:∀x,dW (f x)=Za (g x)):∀l:List α,dWs (l.map f)=Za (l.map g)
 |[]=>rfl
 |x::l=>by rw[Ax,dWs,h x,zna f g h l];rfl
theorem mul2:oMult (.int 2) (.int b)=#v[(2*b),0]:=by
 have c:cMul 2 b=Zd:=by unfold cMul;rw[Bx];exact .inl #v[0,9]
 show oOr #v[1,18] _ (.int 2) (.int b)=_;have e:oI cMul (λi j=>.int (i*j)) (.int 2) (.int b)=#v[(2*b),0]:=by rw[oI_e,if_pos c]
 unfold oOr;rw[e]
noncomputable def rowW (m:Nat) (f:Nat->Int):List W:=(tab (2^m) f).map W.int
noncomputable def zfe (Ψ:Str->Fn):GE:=zbu [Zb,Zb] (.nm 1) (zax (gVar 1)) gYes (gCall [Zc] (Ψ "word_at") #v[0,18])
noncomputable def zid (Ψ:Str->Fn):GS:=(gSeq (gSet [] 2 (gCall [Zc] (Ψ "word_at") (gCns (gArg (zfe Ψ)) gA0))) (gRet (gOp2 oIx (gArg (gCall [Zc,Zc] (Ψ "steps") (gCns #v[0,4] (gCns #v[2,4] gA0)))) (zaa 0))))
noncomputable def zwl (Ψ:Str->Fn):GE:=zuq [Zb,Zb,Zb,Za 0] (.nm 1) (zax (gVar 1)) gYes (.nm 2) (zu7 (gCns (gArg (gOp2 oAdd (gArg (z1n (zaa 1) (gOp1 oNeg #v[1]))) #v[1])) (gCns (zaa 3) gA0))) gYes #v[6,17]
noncomputable def zkm (Ψ:Str->Fn):GS:=(gRet (zwl Ψ))
noncomputable def zui (Ψ:Str->Fn):GS:=(gSeq (gSet [] 3 (gCall [Zc,Zc] (Ψ "longer_terms") (gCns #v[1,4] #v[6,13]))) (zq6 [] 4 (gVar 3)))
noncomputable def zwp (Ψ:Str->Fn):GS:=gFor [] (.nm 5) (zcw (gCns (zaa 2) gA0)) (zui Ψ)
noncomputable def zef (Ψ:Str->Fn):GS:=(gSeq (gAsg [] (.tp [1,2]) (gVar 0)) (gSeq (gSet [] 3 (zap #v[3,18])) (gSeq (gSet [] 4 (zap #v[3,18])) (gSeq (zwp Ψ) (gRet (gOpN za5 (gCns (zaa 4) gA0)))))))
theorem za3 (h:a en=Za (e1,.nx))(c:b e1=r):gSeq a b en=r:=(seq_nx h).trans c
noncomputable def bitF (p i:Nat):Int:=((p/2^i%2:Nat):Int)
noncomputable def letL (p:Nat):List Nat:=dueL (bitF p) 6
noncomputable def zal (t:List Nat):Nat:=(t.map λl=>2^l).sum
theorem zdo:∀p:Fin 64,zal (letL p.val)=p.val:=by decide +kernel
theorem z5k:∀q p:Fin 64,hasT (letL q.val) p.val=(q.val &&& p.val==q.val):=by decide +kernel
theorem zie:∀m:Fin 7,((List.range (2^m.val)).map letL).isPerm (zab m.val m.val)=Zd:=by decide +kernel
noncomputable def duT (m:Nat) (f:Nat->Int):List (List Nat):=(zab m m).filter λt=>decide (zjo f (zal t)=1)
noncomputable def plL (m:Nat) (f:Nat->Int):List Nat:=(List.range (2^m)).filter λq=>decide (zjo f q=1)
theorem ycs (f:Nat->Int)(a:m<=6):((plL m f).map letL).Perm (duT m f):=by
 have b:=zg6 a;have p:=(List.isPerm_iff.mp (zie ⟨m,by symm⟩)).filter λt=>decide (zjo f (zal t)=1);rw[List.filter_map] at p;have e:(List.range (2^m)).filter ((λt=>decide (zjo f (zal t)=1)) ∘ letL)=plL m f:=List.filter_congr λq h=>by
  show decide (zjo f (zal (letL q))=1)=_;have:=By.mp h;rw[zdo ⟨q,by symm⟩]
 rw[e] at p;exact p
theorem zlz (b:m<=6)(h:t∈zab m m):∃q,q<2^m/\t=letL q:=by
 have:=(List.isPerm_iff.mp (zie ⟨m,by symm⟩)).mem_iff.mpr h;obtain⟨q,a,rfl⟩:=Dw.mp this;exact⟨q,By.mp a,rfl⟩
theorem z4z (a:m<=6)(h:t∈zab m m):zal t<2^m:=by
 have p:=zg6 a;obtain⟨q,b,rfl⟩:=zlz a h;rw[zdo ⟨q,by symm⟩];exact b
noncomputable def zxm (Φ:Fn):Prop:=∀(n:Nat) (M:List Nat),n<=64->(∀p∈M,p<n)->Φ [.lst (castL M)]=Za ([.lst (castL M)],(.int (wordOf (tab n λi=>if i∈M then 1 else 0)),Zc))
theorem znv (Ψ:Str->Fn):zxm (zad [Zc] 3 (zkw Ψ)):=λn M t hM=>by
 have z:(wordOf (tab n λi=>if i∈M.take 0 then 1 else 0))=0:=by
  have:(tab n λi=>if i∈M.take 0 then (1:Int) else 0)=List.replicate n 0:=by
   rw[<-zdq];exact tab_ext λi _=>if_neg (by rw[Fj];exact Bb)
  rw[this,zcd]
 obtain⟨l,d,h⟩:=zbz (mp:=[]) (T:=(.nm 2)) (it:=(zax (gVar 0))) (body:=#v[8,9])
  (λj e=>∃b,e=[#v[(castL M),1],#v[(wordOf (tab n λi=>if i∈M.take j then 1 else 0)),0],b]) (en:=#v[3,17]) (e0:=#v[3,17]) (ws:=castL M) rfl ⟨Zb,by rw[z]⟩
  (by
   rintro j w e s ⟨b,rfl⟩;obtain⟨p,h,rfl⟩:=zlc s;have k:p<n:=hM p (Bm h);have o:=zvp (n:=n) (p:=p) (f:=λi=>if i∈M.take j then 1 else 0) (λi=>by show Bit (if _ then _ else _);split<;>first|exact .inr rfl|exact .inl rfl) k;have g:(tab n λi=>if i=p then (1:Int) else if i∈M.take j then 1 else 0)=tab n λi=>if i∈M.take (j+1) then 1 else 0:=tab_ext λi _=>by
    have m:i∈M.take (j+1)↔(i∈M.take j\/i=p):=by
     rw[Cs,h,Cb];show _\/i∈[p]↔_;rw[Aw]
    by_cases c:i=p
    ·rw[if_pos c,if_pos (m.mpr (.inr c))]
    ·rw[if_neg c];by_cases a:i∈M.take j
     ·rw[if_pos a,if_pos (m.mpr (.inl a))]
     ·rw[if_neg a,if_neg (λq=>(m.mp q).elim a c)]
   rw[g] at o;refine⟨[#v[(castL M),1],#v[(wordOf (tab n λi=>if i∈M.take j then 1 else 0)),0],#v[(p:Nat),0]],[#v[(castL M),1],#v[(wordOf (tab n λi=>if i∈M.take (j+1) then 1 else 0)),0],#v[(p:Nat),0]],rfl,.inl (z2c (u:=.int (1*2^p)) rfl (arg_0 (r:=(.int (1*2^p),Zc)) (op2_0 (x:=.inl (.int 1)) (y:=.inl (.int (p:Nat))) rfl rfl rfl rfl (oI_t (zln #v[] #v[] #v[0,9])))) rfl ?_ rfl),_,rfl⟩;show Za (W.int (Builtin.bitOr (wordOf (tab n λi=>if i∈M.take j then 1 else 0)) (1*2^p)),Zc)=_;rw[o])
 obtain⟨b,rfl⟩:=h;rw[castL_len,Cn] at d;exact zan rfl ((seq_nx (e1:=#v[3,17]) rfl).trans ((seq_nx d).trans rfl)) rfl
noncomputable def indF (M:List Nat) (i:Nat):Int:=if i∈M then 1 else 0
theorem ztw (M:List Nat)(i:Nat):Bit (indF M i):=by unfold indF;split<;>first|exact .inr rfl|exact .inl rfl
theorem zwc (d:x ∉ M):∀{S:List Nat},S.Nodup->(S.map (indF (x::M))).sum=(S.map (indF M)).sum+(if x∈S then 1 else 0)
 |[],_=>rfl
 | q::S,h=>by
  have i:=zwc d (Bl.mp h).2;rw[Ax,Dr,Ax,Dr,i];by_cases e:q=x
  ·subst e
   have n:q ∉ S:=(Bl.mp h).1;have a:indF (q::M) q=1:=by unfold indF;rw[if_pos Au]
   have b:indF M q=0:=by unfold indF;rw[if_neg d]
   rw[a,b,if_neg n,if_pos Au];symm
  ·have a:indF (x::M) q=indF M q:=by
    unfold indF;by_cases c:q∈M
    ·rw[if_pos c,if_pos (Ap _ c)]
    ·rw[if_neg c,if_neg λz=>(Ak.mp z).elim e c]
   rw[a];by_cases c:x∈S
   ·rw[if_pos c,if_pos (Ap _ c)];symm
   ·rw[if_neg c,if_neg λz=>(Ak.mp z).elim (λz=>e z.symm) c];symm
theorem zoj {S:List Nat} (hS:S.Nodup):∀{ts:List (List Nat)},(ts.map zal).Nodup->(S.map (indF (ts.map zal))).sum=((ts.filter λt=>decide (zal t∈S)).length:Nat)
 | [],_=>by
  have:∀L:List Nat,(L.map (indF [])).sum=0:=λL=>by
   induction L with
   |nil=>rfl
   |cons a l i=>rw[Ax,Dr,i];rfl
  exact this S
 | t::ts,h=>by
  have b:=Bl.mp h;rw[Ax,zwc b.1 hS,zoj hS b.2,Fw];by_cases c:zal t∈S
  ·rw[if_pos c,if_pos (Aj c),Bf];symm
  ·rw[if_neg c,if_neg (by rw[At c];exact As)];symm
theorem zqv (p:Nat):(zv7 p).Nodup:=List.nodup_range.filter _
theorem zy6 (a:m<=6)(d:t∈zab m m)(b:p<64):hasT t p=decide (zal t∈zv7 p):=by
 have e:=zg6 a;obtain⟨q,f,rfl⟩:=zlz a d;rw[z5k ⟨q,by symm⟩ ⟨p,b⟩,zdo ⟨q,by symm⟩];unfold zv7;by_cases c:q &&& p=q
 ·have:q ≤ p:=by have:=Nat.and_le_right (n:=q) (m:=p);symm
  have h:q∈(List.range (p+1)).filter λo=>o &&& p==o:=Bq.mpr ⟨By.mpr #v[],beq_iff_eq.mpr c⟩;rw[beq_iff_eq.mpr c,Aj h]
 ·have h : ¬ q∈(List.range (p+1)).filter λo=>o &&& p==o:=λz=>c (beq_iff_eq.mp (Bq.mp z).2);rw[El.mpr c,At h]
theorem z1t (h:m<=6)(a:t∈zab m m)(b:u∈zab m m)(e:zal t=zal u):t=u:=by
 have p:=zg6 h;obtain⟨q,c,rfl⟩:=zlz h a;obtain⟨r,d,rfl⟩:=zlz h b;rw[zdo ⟨q,by symm⟩,zdo ⟨r,by symm⟩] at e;have e:q=r:=e;rw[e]
noncomputable def zmj (m:Nat) (ts:List (List Nat)):Prop:=ts.Nodup/\∀t∈ts,t∈zab m m
theorem zib (b:m<=6):∀{ts:List (List Nat)},zmj m ts->(ts.map zal).Nodup
 |[],_=>Gm
 | t::ts,h=>by
  have n:=Bl.mp h.1;refine Bl.mpr ⟨λz=>?_,zib b ⟨n.2,λu a=>h.2 u (Ap _ a)⟩⟩;obtain⟨u,a,e⟩:=Dw.mp z;have:=z1t b (h.2 u (Ap _ a)) (h.2 t Au) e;subst this;exact n.1 a
theorem zxt {m p:Nat}{ts:List (List Nat)}(a:m<=6)(h:zmj m ts)(c:p<64):zjo (indF (ts.map zal)) p=valF ts p:=by
 unfold zjo valF;rw[zoj (zqv p) (zib a h)];have e:=List.filter_congr λt b=>(zy6 a (h.2 t b) c).symm;rw[e];symm
theorem zyl:∀q:Fin 64,wordOf (tab 6 λi=>if i∈letL q.val then 1 else 0)=(q.val:Int):=by decide +kernel
theorem zt0:∀q:Fin 64,∀l∈letL q.val,l<6:=by decide +kernel
theorem z59 (a:ze3 Φ)(h:m<=6)(b:t∈zab m m):Φ [tmW t]=Za ([tmW t],(.int (zal t:Nat),Zc)):=by
 have p:=zg6 h;obtain⟨q,c,rfl⟩:=zlz h b;have e:=a 6 (letL q) #v[0,9] (zt0 ⟨q,by symm⟩);rw[zyl ⟨q,by symm⟩] at e;rw[zdo ⟨q,by symm⟩];exact e
noncomputable def zdn (Φ:Fn):Prop:=∀(m:Nat) (t:List (List Nat)),m<=6->t.length<=64->zmj m t->Φ [.int (m:Nat),.tup (t.map tmW)]=Za ([.int (m:Nat),.tup (t.map tmW)],(.int (wordOf (tab (2^m) (valF t))),Zc))
theorem zru (q:ze3 (Ψ "word_at")) (k:zxm (Ψ "word_at")) (hS:zxo (Ψ "steps")):zdn (zad [Zc,Zc] 3 (zid Ψ)):=λm ts a y h=>by
 have j:=zg6 a;have n:zfe Ψ #v[2,16]=Za (#v[2,16],(.lst (castL (ts.map zal)),Zd)):=by
  unfold zfe;refine z8q (ws:=ts.map tmW) (by simp_arith []) (by rw[Af];symm) (by rw[castL_len,Af,Af]) λi x w r b d=>?_;rw[Ar] at b;cases ha:ts[i]? with
  |none=>rw[ha] at b;exact noSome b
  | some t =>
   rw [ha] at b;obtain rfl:=sI b;have o:r=.int (zal t:Nat):=by
    unfold castL at d;rw[Ar,Ar,ha] at d;exact (sI d).symm
   subst o;have e:=z59 q a (h.2 t (Bm ha));exact⟨#v[tmW t,6],Zc,by simp_arith [e]⟩
 have g:=k (2^m) (ts.map zal) j λp c=>by
  obtain⟨t,u,rfl⟩:=Dw.mp c;exact z4z a (h.2 t u)
 have s:=hS (m:Int) (indF (ts.map zal)) (by symm) (by symm) (ztw _);have l:rowF (m:Int) (indF (ts.map zal)) 0=wordOf (tab (2^m) λi=>if i∈ts.map zal then 1 else 0):=rfl;rw [l] at s;have f:atI ((tab (m+1) (rowF (m:Int) (indF (ts.map zal)))).map W.int) (m:Int)=Za (.int (wordOf (tab (2^m) (valF ts)))):=by
  have e:rowF (m:Int) (indF (ts.map zal)) m=wordOf (tab (2^m) (valF ts)):=by
   unfold rowF;rw[Fe,tab_ext λp c=>(z39 (ztw _) a c).trans (zxt a h #v[])]
  rw[<-e];exact zbh (zol (Er m))
 unfold zid;refine zan (en:=[#v[(m:Nat),0],#v[(ts.map tmW),3],#v[(wordOf (tab (2 ^ m) λi=>if i∈ts.map zal then 1 else 0)),0]]) rfl (za3 (e1:=[#v[(m:Nat),0],#v[(ts.map tmW),3],#v[(wordOf (tab (2 ^ m) λi=>if i∈ts.map zal then 1 else 0)),0]]) ?_ ?_) rfl
 ·simp_arith [n,g]
 ·simp_arith [s,f]
noncomputable def kdW (m t:Nat):W:=.tup [.int (m:Nat),.int (t:Nat)]
noncomputable def tsP (Ψ:Str->Fn) (m t:Nat):Prop:=zad [Zc] 6 (zef λ_=>zad [Zc,Zc] 2 (zkm Ψ)) [kdW m t]=Za ([kdW m t],(.tup ((zab m t).map tmW),Zc))
theorem z8i (Ψ:Str->Fn):∀m t:Nat,1<=m->m<=6->t<=m->tsP Ψ m t
 |1,0,_,_,_=>by unfold tsP;kernel_rfl
 |1,1,_,_,_=>by unfold tsP;kernel_rfl
 |2,0,_,_,_=>by unfold tsP;kernel_rfl
 |2,1,_,_,_=>by unfold tsP;kernel_rfl
 |2,2,_,_,_=>by unfold tsP;kernel_rfl
 |3,0,_,_,_=>by unfold tsP;kernel_rfl
 |3,1,_,_,_=>by unfold tsP;kernel_rfl
 |3,2,_,_,_=>by unfold tsP;kernel_rfl
 |3,3,_,_,_=>by unfold tsP;kernel_rfl
 |4,0,_,_,_=>by unfold tsP;kernel_rfl
 |4,1,_,_,_=>by unfold tsP;kernel_rfl
 |4,2,_,_,_=>by unfold tsP;kernel_rfl
 |4,3,_,_,_=>by unfold tsP;kernel_rfl
 |4,4,_,_,_=>by unfold tsP;kernel_rfl
 |5,0,_,_,_=>by unfold tsP;kernel_rfl
 |5,1,_,_,_=>by unfold tsP;kernel_rfl
 |5,2,_,_,_=>by unfold tsP;kernel_rfl
 |5,3,_,_,_=>by unfold tsP;kernel_rfl
 |5,4,_,_,_=>by unfold tsP;kernel_rfl
 |5,5,_,_,_=>by unfold tsP;kernel_rfl
 |6,0,_,_,_=>by unfold tsP;kernel_rfl
 |6,1,_,_,_=>by unfold tsP;kernel_rfl
 |6,2,_,_,_=>by unfold tsP;kernel_rfl
 |6,3,_,_,_=>by unfold tsP;kernel_rfl
 |6,4,_,_,_=>by unfold tsP;kernel_rfl
 |6,5,_,_,_=>by unfold tsP;kernel_rfl
 |6,6,_,_,_=>by unfold tsP;kernel_rfl
 |0,_,h,_,_=>by symm
 |m+7,_,_,h,_=>by symm
 |1,t+2,_,_,h=>by symm
 |2,t+3,_,_,h=>by symm
 |3,t+4,_,_,h=>by symm
 |4,t+5,_,_,h=>by symm
 |5,t+6,_,_,h=>by symm
 |6,t+7,_,_,h=>by symm
noncomputable def zus (Φ:Fn):Prop:=∀m t:Nat,1<=m->m<=6->t<=m->Φ [kdW m t]=Za ([kdW m t],(.tup ((zab m t).map tmW),Zc))
theorem z1m (h:Ψ "longer_terms" = zad [Zc,Zc] 2 (zkm Ψ')):zus (zad [Zc] 6 (zef Ψ)):=λm t b a c=>by
 have e:zef Ψ=zef (λ_=>Ψ "longer_terms"):=rfl;rw[e,h];exact z8i Ψ' m t b a c
theorem terms_in:∀m u:Fin 7,u.val<=m.val->∀t∈zab m.val u.val,t∈zab m.val m.val:=by decide +kernel
theorem zyn (m:Nat)(ts:List (List Nat)):Bits (tab (2^m) (valF ts)):=zaw λi _=>by unfold valF Bit;symm
theorem zy8 (s:List Nat)(ts:List (List Nat))(p:Nat):valF (s::ts) p=(valF ts p+if hasT s p then 1 else 0)%2:=by
 unfold valF;rw[Fw];by_cases c:hasT s p=Zd
 ·rw[if_pos c,if_pos c,Bf];symm
 ·rw[if_neg c,if_neg c];symm
theorem zya (n:Nat):(List.replicate n Zd).all id=Zd:=by
 induction n with
 |zero=>rfl
 |succ n i=>rw[Cy,Bv,i];rfl
section
end
set_option maxHeartbeats 2000000
noncomputable def dkN (p:Nat):DKey:=.inl (.inl (p:Int))
theorem zmm (a b:Nat)(h:dkN a=dkN b):a=b:=Int.ofNat.inj (Sum.inl.inj (Sum.inl.inj h))
section
variable {κ:Type} [DecidableEq κ] {f:κ->DKey}
theorem zsy (c:∀a b,f a=f b->a=b) (g:κ->W) (p:κ):∀L:List κ,valW ((L.map f).zip (L.map g)) (f p)=if p∈L then Za (g p) else Zb
 |[]=>rfl
 | q::L=>by
  rw[Ax,Ax,Dd,zgt,zsy c g p L];by_cases h:q=p
  ·subst h;rw[if_pos rfl,if_pos Au]
  ·rw [if_neg λe=>h (c _ _ e)]
   by_cases m:p∈L
   ·rw[if_pos m,if_pos (Ap _ m)]
   ·rw[if_neg m,if_neg λz=>by rcases Ak.mp z with z|z;exact h z.symm;exact m z]
theorem zpw (c:∀a b,f a=f b->a=b){L:List κ}:f p∈L.map f↔p∈L:=by
 rw[Dw];exact⟨λ⟨a,h,e⟩=>c _ _ e ▸ h,λh=>⟨p,h,rfl⟩⟩
theorem zyo (c:∀a b,f a=f b->a=b)(ws:List W)(w:W){L:List κ}(h:p ∉ L):zfg (L.map f) ws (f p) w=ws++[w]:=by
 unfold zfg;rw[if_neg (mt (zpw c).mp h)]
theorem z0f (c:∀a b,f a=f b->a=b){L:List κ}(h:p ∉ L):zff (L.map f) (f p)=L.map f++[f p]:=by
 unfold zff;rw[if_neg (mt (zpw c).mp h)]
end
noncomputable def tp (w:Nat):Nat:=w.log2
theorem zeo (h:a en=Za (e1,.nx))(c:b e1=r):gSeq a b en=r:=(seq_nx h).trans c
noncomputable def bitN (w i:Nat):Int:=if w.testBit i then 1 else 0
theorem zi1 (w i:Nat):Bit (bitN w i):=by unfold bitN;split<;>first|exact .inr rfl|exact .inl rfl
theorem z5w (w i:Nat):decide (bitN w i=1)=w.testBit i:=by unfold bitN;cases w.testBit i<;>rfl
theorem zov (n:Nat)(f:Nat->Int):tab (n+1) f=f 0::tab n λi=>f (i+1):=by
 unfold tab;rw[List.range_succ_eq_map,Ax,Ce]
 rfl
theorem zbj:∀(n w:Nat),w<2^n->wordOf (tab n (bitN w))=(w:Int)
 | 0,w,h=>by
  have:w=0:=by have:2^0=1:=rfl;symm
  subst this;rfl
 | n+1,w,h=>by
  rw[zov,zai,tab_ext (g:=bitN (w/2)) λi _=>by unfold bitN;rw[Nat.testBit_succ],zbj n (w/2) #v[]];unfold bitN;rw[Nat.testBit_zero];by_cases c:w%2=1
  ·rw[if_pos (Aj c)];symm
  ·rw[if_neg (by rw[At c];exact As)];symm
theorem zfw:∀xs:List Int,Bits xs->∃w,w<2^xs.length/\xs=tab xs.length (bitN w)
 |[],_=>⟨0,by decide,rfl⟩
 | x::xs,h=>by
  obtain⟨w,c,e⟩:=zfw xs h.tail;have p:2^(x::xs).length=2*2^xs.length:=by rw[Bf];symm
  have go:∀b:Nat,b<2->tab (xs.length+1) (bitN (2*w+b))=bitN (2*w+b) 0::xs:=λb a=>by
   rw[zov,tab_ext (g:=bitN w) λi _=>by unfold bitN;rw[Nat.testBit_succ,show (2*w+b)/2=w by symm],<-e]
  rcases h.head with rfl|rfl
  ·refine ⟨2*w+0,by symm, ?_⟩
   rw[Bf,go 0 #v[]];unfold bitN;rw[Nat.testBit_zero,if_neg (by rw[At #v[]];exact As)]
  ·refine ⟨2*w+1,by symm, ?_⟩
   rw[Bf,go 1 #v[]];unfold bitN;rw[Nat.testBit_zero,if_pos (Aj #v[])]
theorem zy2 (a b i:Nat):dif (bitN a i) (bitN b i)=bitN (a ^^^ b) i:=by
 unfold bitN dif;rw[Dt];cases a.testBit i<;>cases b.testBit i<;>rfl
theorem z51 (a b:Nat):Builtin.bitXor (a:Int) (b:Int)=((a ^^^ b:Nat):Int):=by
 have c:=Hj (Cm a b) Nat.lt_two_pow_self;have h:=Hj (Nat.le_add_left b a) Nat.lt_two_pow_self;have x:=zg3 (ys:=tab (a+b) (bitN b)) (zaw λi _=>zi1 a i) (zaw λi _=>zi1 b i) (by rw[zay,zay]);rw[zbj _ a c,zbj _ b h,zjm,tab_ext λi _=>zy2 a b i,zbj _ _ (Nat.xor_lt_two_pow c h)] at x;exact x
theorem z45 (h:w<2^n)(a:n<=i):bitN w i=0:=by
 unfold bitN;rw[Nat.testBit_lt_two_pow (Bc h (Fh #v[0,9] a)),if_neg As]
noncomputable def z4i (Φ:Fn):Prop:=∀w p:Nat,Φ [.int (w:Nat),.int (p:Nat)]=Za ([.int (w:Nat),.int (p:Nat)],(.int (bitN w p),Zc))
theorem z8l (h:z1y Φ):z4i Φ:=λw p=>by
 have a:w<2^w:=Nat.lt_two_pow_self;have:=h w p (bitN w) (zi1 w) λi b=>z45 a b
 rwa [zbj w w a] at this
noncomputable def XorN (Φ:Fn):Prop:=∀a b:Nat,Φ [.int (a:Nat),.int (b:Nat)]=Za ([.int (a:Nat),.int (b:Nat)],(.int ((a ^^^ b:Nat):Int),Zc))
theorem zue (h:zzd Φ):XorN Φ:=λa b=>by rw[<-z51];exact h a b
theorem zrl (B:List Nat)(b:Nat):castL (B++[b])=castL B++[.int (b:Nat)]:=by unfold castL;rw[Bw];rfl
end L2
namespace My
open PySem PySem.Spec PyProof.Rows L2
noncomputable def top (i:Nat):Stmt:=PySem.Challenge.pw_yesnowords_k53_votes_of_sums.main.body.getD i (.Pass ⟨0,0,0,0⟩)
noncomputable def zep:Fd:=⟨"all_yes",["many"],["many"],[Zc],top 5⟩
noncomputable def zok:Fd:=⟨"says",["word","place"],["word","place"],[Zc,Zc],top 6⟩
noncomputable def zfz:Fd:=⟨"weight",["word"],["word","heavy"],[Zc],top 7⟩
noncomputable def zet:Fd:=⟨"word_at",["some"],["some","word","place"],[Zc],top 8⟩
noncomputable def zpu:Fd:=⟨"plus",["one","other"],["one","other"],[Zc,Zc],top 9⟩
noncomputable def zih:Fd:=⟨"times",["one","other"],["one","other"],[Zc,Zc],top 10⟩
noncomputable def zf4:Fd:=⟨"unlike",["one","other"],["one","other"],[Zc,Zc],top 11⟩
noncomputable def zcp:Fd:=⟨"letter_no",["many","letter"],["many","letter"],[Zc,Zc],top 13⟩
noncomputable def zeu:Fd:=⟨"stepped",["many","word","letter"],["many","word","letter","lower"],[Zc,Zc,Zc],top 14⟩
noncomputable def zjv:Fd:=⟨"steps",["many","word"],["many","word","rows","letter"],[Zc,Zc],top 15⟩
noncomputable def zl7:Fd:=⟨"word_of",["many","poly"],["many","poly","marks"],[Zc,Zc],top 17⟩
noncomputable def zbi:Fd:=⟨"longer_terms",["many","some"],["many","some"],[Zc,Zc],top 19⟩
noncomputable def zjr:Fd:=⟨"terms",["kind"],["kind","many","most","row","told","size"],[Zc],top 20⟩
noncomputable def zjc:Fd:=⟨"least",["kind"],["kind","many","most"],[Zc],top 22⟩
noncomputable def ze0:Fd:=⟨"is_near",["kind","one","other"],["kind","one","other"],[Zc,Zc,Zc],top 23⟩
noncomputable def zjn:Fd:=⟨"votes",["many","heard","term"],["many","heard","term","sums","letter","letters"],[Zc,Zc,Zc],top 25⟩
noncomputable def zbr:Fd:=⟨"voted_terms",["kind"],["kind"],[Zc],top 26⟩
noncomputable def zbf:Fd:=⟨"chosen_above",["rows","size"],["rows","size"],[Zc,Zc],top 27⟩
noncomputable def zdw:Fd:=⟨"vote_row",["many","heard","rows","term"],["many","heard","rows","term","left","cast"],[Zc,Zc,Zc,Zc],top 28⟩
noncomputable def za2:Fd:=⟨"word_by_votes",["many","rows"],["many","rows"],[Zc,Zc],top 29⟩
noncomputable def z2j:Fd:=⟨"mend",["kind","heard"],["kind","heard","many","rows","term","row","word"],[Zc,Zc],top 30⟩
noncomputable def zgm:Fd:=⟨"_law_hand",["_law_script"],["_law_script","_law_state","_law_weighs","_law_cell","_law_k","_law_one"],[Zc],top 32⟩
noncomputable def zct:Fd:=⟨"_law_take",["_law_state","_law_count"],["_law_state","_law_count","_law_digit","_law_mixed"],[Zd,Zc],top 33⟩
noncomputable def zcx:Fd:=⟨"_law_bits",["_law_state","_law_count"],["_law_state","_law_count","_law_way","_law_found","_law_k","_law_one"],[Zd,Zc],top 34⟩
noncomputable def zgc:Fd:=⟨"_law_word",["_law_bits_here"],["_law_bits_here","_law_found","_law_bit"],[Zc],top 35⟩
noncomputable def zb7:Fd:=⟨"_law_terms",["_law_many","_law_most"],["_law_many","_law_most","_law_found","_law_letter"],[Zc,Zc],top 36⟩
noncomputable def zcr:Fd:=⟨"_law_poly",["_law_state","_law_many","_law_most"],["_law_state","_law_many","_law_most","_law_some"],[Zd,Zc,Zc],top 37⟩
noncomputable def zca:Fd:=⟨"_law_along",["_law_letters"],["_law_letters","_law_found","_law_letter"],[Zc],top 38⟩
noncomputable def zck:Fd:=⟨"_law_sums_right",["_law_state","_law_many","_law_one","_law_other","_law_term"],["_law_state","_law_many","_law_one","_law_other","_law_term","_law_first","_law_second","_law_rest","_law_more","_law_told","_law_settings","_law_due"],[Zd,Zc,Zc,Zc,Zc],top 39⟩
noncomputable def zcj:Fd:=⟨"_law_term_right",["_law_state","_law_many","_law_term"],["_law_state","_law_many","_law_term","_law_fewer"],[Zd,Zc,Zc],top 40⟩
noncomputable def zcn:Fd:=⟨"_law_mend_right",["_law_state","_law_many","_law_most"],["_law_state","_law_many","_law_most","_law_word_here","_law_found","_law_rows"],[Zd,Zc,Zc],top 41⟩
noncomputable def znl:Fd:=⟨"law",["_law_script"],["_law_script","_law_state","_law_k","_law_many","_law_one","_law_other","_law_some","_law_term"],[Zc],top 42⟩
noncomputable def T:List Fd:=[zep,zok,zfz,zet,zpu,zih,zf4,zcp,zeu,zjv,zl7,zbi,zjr,zjc,ze0,zjn,zbr,zbf,zdw,za2,z2j,zgm,zct,zcx,zgc,zb7,zcr,zca,zck,zcj,zcn,znl]
noncomputable def bn:List Str:=["abs","all","b rows","c cast","d _law_told","dict","enumerate","int","len","list","max","min","range","reversed","set","sorted","tuple","zip"]
theorem sFq {d:Nat}{x:Str}{t:Fd}{g:(Str->Fn)->GS}(h:T.find? (·.nm==x)=Za t)(b:∀Ψ d,zak T bn Ψ (d+2) t=Za (g Ψ)):sem T bn (d+3) x=zad t.m t.N.length (g (sem T bn (d+2))):=zbn h (b _ d)
theorem zwb (d:Nat):sem T bn (d+3) "all_yes"=zad [Zc] 1 (ztl (sem T bn (d+2))):=sFq (t:=zep) (by kernel_rfl) λ_ _=>by kernel_rfl
theorem z8a (d:Nat):sem T bn (d+3) "says"=zad [Zc,Zc] 2 (z8m (sem T bn (d+2))):=sFq (t:=zok) (by kernel_rfl) λ_ _=>by kernel_rfl
theorem z1l (d:Nat):sem T bn (d+3) "weight"=zad [Zc] 2 (z1h (sem T bn (d+2))):=sFq (t:=zfz) (by kernel_rfl) λ_ _=>by kernel_rfl
theorem zj7 (d:Nat):sem T bn (d+3) "word_at"=zad [Zc] 3 (zkw (sem T bn (d+2))):=sFq (t:=zet) (by kernel_rfl) λ_ _=>by kernel_rfl
theorem z7w (d:Nat):sem T bn (d+3) "plus"=zad [Zc,Zc] 2 (z9o (sem T bn (d+2))):=sFq (t:=zpu) (by kernel_rfl) λ_ _=>by kernel_rfl
theorem z3m (d:Nat):sem T bn (d+3) "times"=zad [Zc,Zc] 2 (z7m (sem T bn (d+2))):=sFq (t:=zih) (by kernel_rfl) λ_ _=>by kernel_rfl
noncomputable def zf1 (Ψ:Str->Fn):GS:=(gRet (gCall [Zc] (Ψ "weight") (gCns (gArg (gCall [Zc,Zc] (Ψ "plus") (gCns #v[0,4] #v[0,18]))) gA0)))
theorem zye (d:Nat):sem T bn (d+3) "unlike"=zad [Zc,Zc] 2 (zf1 (sem T bn (d+2))):=sFq (t:=zf4) (by kernel_rfl) λ_ _=>by kernel_rfl
theorem zn7 (d:Nat):sem T bn (d+3) "letter_no"=zad [Zc,Zc] 2 (znn (sem T bn (d+2))):=sFq (t:=zcp) (by kernel_rfl) λ_ _=>by kernel_rfl
theorem ztp (d:Nat):sem T bn (d+3) "stepped"=zad [Zc,Zc,Zc] 4 (zvc (sem T bn (d+2))):=sFq (t:=zeu) (by kernel_rfl) λ_ _=>by kernel_rfl
theorem z4y (d:Nat):sem T bn (d+3) "steps"=zad [Zc,Zc] 4 (z58 (sem T bn (d+2))):=sFq (t:=zjv) (by kernel_rfl) λ_ _=>by kernel_rfl
noncomputable def zdz (Ψ:Str->Fn):GS:=(gRet (zwl Ψ))
theorem zhs (d:Nat):sem T bn (d+3) "longer_terms"=zad [Zc,Zc] 2 (zdz (sem T bn (d+2))):=sFq (t:=zbi) (by kernel_rfl) λ_ _=>by kernel_rfl
theorem z3l (d:Nat):sem T bn (d+3) "terms"=zad [Zc] 6 (zef (sem T bn (d+2))):=sFq (t:=zjr) (by kernel_rfl) λ_ _=>by kernel_rfl
noncomputable def zix (Ψ:Str->Fn):GS:=(gSeq (gAsg [] (.tp [1,2]) (gVar 0)) (gRet (gOp2 #v[0,0,1] #v[1] (gArg (gOp2 #v[0,0,0] (zaa 1) (zaa 2))))))
theorem z5c (d:Nat):sem T bn (d+3) "least"=zad [Zc] 3 (zix (sem T bn (d+2))):=sFq (t:=zjc) (by kernel_rfl) λ_ _=>by kernel_rfl
noncomputable def zev (Ψ:Str->Fn):GS:=(gRet (gOp2 (oI yes2 λi j=>.bl (decide (i<j))) (gArg (gOp2 oMult #v[2] (gArg (gCall [Zc,Zc] (Ψ "unlike") #v[1,11])))) (gArg (gCall [Zc] (Ψ "least") #v[7,16]))))
theorem e_is_near (d:Nat):sem T bn (d+3) "is_near"=zad [Zc,Zc,Zc] 3 (zev (sem T bn (d+2))):=sFq (t:=ze0) (by kernel_rfl) λ_ _=>by kernel_rfl
noncomputable def zpt (Ψ:Str->Fn):GS:=(gSet [] 3 (gCall [Zc,Zc] (Ψ "plus") (gCns #v[3,4] (gCns (gArg (gOp2 (oI (λ_ j=>decide (0<=j)) λi j=>.int (i / 2 ^ j.toNat)) (zaa 3) (gArg (gOp2 #v[0,0,1] #v[1] (zaa 4))))) gA0))))
noncomputable def zpi (Ψ:Str->Fn):GS:=gFor [] (.nm 4) (zax (gVar 2)) (zpt Ψ)
noncomputable def zpl (Ψ:Str->Fn):GE:=zbu [Zb,Zb,Za 5,Za 3] (.nm 1) (zcw (gCns (gArg (gOp2 #v[0,0,1] #v[1] (zaa 0))) gA0)) (zah (gOp2 oEq (gArg (gCall [Zc,Zc] (Ψ "times") #v[1,11])) #v[0])) (gCall [Zc,Zc] (Ψ "says") (gCns #v[3,4] #v[0,18]))
noncomputable def zn6 (Ψ:Str->Fn):GS:=(gSeq (gSet [] 3 (gVar 1)) (gSeq (zpi Ψ) (gSeq (gSet [] 5 (gCall [Zc] (Ψ "word_at") (gCns #v[2,4] gA0))) (gRet (gOpN za5 (gCns (gArg (zpl Ψ)) gA0))))))
theorem z5g (d:Nat):sem T bn (d+3) "votes"=zad [Zc,Zc,Zc] 6 (zn6 (sem T bn (d+2))):=sFq (t:=zjn) (by kernel_rfl) λ_ _=>by kernel_rfl
noncomputable def zcq (Ψ:Str->Fn):GS:=(gRet (zh0 seqW zfs (gOp1 oNeg #v[2,9]) #v[7,10]))
theorem e_voted_terms (d:Nat):sem T bn (d+3) "voted_terms"=zad [Zc] 1 (zcq (sem T bn (d+2))):=sFq (t:=zbr) (by kernel_rfl) λ_ _=>by kernel_rfl
noncomputable def zbt (Ψ:Str->Fn):GE:=zbu [Zb,Zb,Zb,Zb,Za 1] (.tp [1,2,3]) (zax (gVar 0)) (zdy (zah (gOp2 #v[7,9] (zaa 3) (zaa 2))) (zah (gOp2 #v[7,9] (gArg (gOpN oLen #v[9,17])) (zaa 4)))) (gVar 1)
noncomputable def zbg (Ψ:Str->Fn):GS:=(gRet (gOpN za5 (gCns (gArg (zbt Ψ)) gA0)))
theorem zhj (d:Nat):sem T bn (d+3) "chosen_above"=zad [Zc,Zc] 2 (zbg (sem T bn (d+2))):=sFq (t:=zbf) (by kernel_rfl) λ_ _=>by kernel_rfl
noncomputable def zfk (Ψ:Str->Fn):GS:=(gSeq (gSet [] 4 (gCall [Zc,Zc] (Ψ "plus") (gCns #v[1,4] (gCns (gArg (gCall [Zc,Zc] (Ψ "word_of") (gCns #v[0,4] (gCns (gArg (gBor 2 (gCall [Zc,Zc] (Ψ "chosen_above") (gCns #v[2,4] #v[3,11])))) gA0)))) gA0)))) (gSeq (gSet [] 5 (gCall [Zc,Zc,Zc] (Ψ "votes") (gCns #v[0,4] (gCns #v[4,4] #v[6,13])))) (gRet (zb1 (gCns #v[3,4] (gCns (gArg (zn8 5 (gC (.int 0)))) (gCns (gArg (zn8 5 (gC (.int 1)))) gA0)))))))
theorem e_vote_row (d:Nat):sem T bn (d+3) "vote_row"=zad [Zc,Zc,Zc,Zc] 6 (zfk (sem T bn (d+2))):=sFq (t:=zdw) (by kernel_rfl) λ_ _=>by kernel_rfl
noncomputable def za6 (Ψ:Str->Fn):GS:=(gRet (gCall [Zc,Zc] (Ψ "word_of") (gCns #v[0,4] (gCns (gArg (gBor 1 (gCall [Zc,Zc] (Ψ "chosen_above") #v[7,17]))) gA0))))
theorem e_word_by_votes (d:Nat):sem T bn (d+3) "word_by_votes"=zad [Zc,Zc] 2 (za6 (sem T bn (d+2))):=sFq (t:=za2) (by kernel_rfl) λ_ _=>by kernel_rfl
noncomputable def ztr (Ψ:Str->Fn):GS:=(gSeq (gSet [] 5 (gBor 3 (gCall [Zc,Zc,Zc,Zc] (Ψ "vote_row") (gCns #v[2,4] #v[7,13])))) (gSeq (gIfS (zah (gOp2 oEq (gArg (gOp2 oIx (zaa 5) #v[1])) (gArg (gOp2 oIx (zaa 5) #v[2])))) zkv zc7) (zfj (gApp 3 (gVar 5)))))
noncomputable def zut (Ψ:Str->Fn):GS:=gFor [] (.nm 4) (zax (gCall [Zc] (Ψ "voted_terms") #v[7,16])) (ztr Ψ)
noncomputable def z13 (Ψ:Str->Fn):GS:=(gSeq (gSet [] 2 (gOp2 oIx (zaa 0) #v[0])) (gSeq (gSet [] 3 (zap gA0)) (gSeq (zut Ψ) (gSeq (gSet [] 6 (gBor 3 (gCall [Zc,Zc] (Ψ "word_by_votes") #v[6,19]))) (gSeq (gIfS (zhg (zah (gCall [Zc,Zc,Zc] (Ψ "is_near") (gCns #v[0,4] (gCns #v[6,4] #v[0,18]))))) zkv zc7) (gRet (zb1 (gCns #v[6,4] (gCns (gArg (gOpN za5 (gCns (zaa 3) gA0))) gA0)))))))))
theorem zn3 (d:Nat):sem T bn (d+3) "_law_take"=zad [Zd,Zc] 4 (zu0 (sem T bn (d+2))):=sFq (t:=zct) (by kernel_rfl) λ_ _=>by kernel_rfl
theorem znr (d:Nat):sem T bn (d+3) "_law_bits"=zad [Zd,Zc] 6 (z9n (sem T bn (d+2))):=sFq (t:=zcx) (by kernel_rfl) λ_ _=>by kernel_rfl
theorem zft (d:Nat):sem T bn (d+3) "_law_terms"=zad [Zc,Zc] 4 (zqc (sem T bn (d+2))):=sFq (t:=zb7) (by kernel_rfl) λ_ _=>by kernel_rfl
theorem zmt (d:Nat):sem T bn (d+3) "_law_poly"=zad [Zd,Zc,Zc] 4 (zt1 (sem T bn (d+2))):=sFq (t:=zcr) (by kernel_rfl) λ_ _=>by kernel_rfl
noncomputable def zc0 (Ψ:Str->Fn):GE:=zbu [Zb,Zb,Za 2] (.nm 1) (zax (gVar 1)) gYes (gOp2 oAdd (zaa 1) #v[5,15])
noncomputable def zc1 (Ψ:Str->Fn):GS:=(gSet [] 1 (gOp2 oAdd (zaa 1) (gArg (zc0 Ψ))))
noncomputable def ze4 (Ψ:Str->Fn):GS:=gFor [] (.nm 2) (zax (gVar 0)) (zc1 Ψ)
noncomputable def zdi (Ψ:Str->Fn):GS:=(gSeq (gSet [] 1 (zap (gCns #v[0] gA0))) (gSeq (ze4 Ψ) (zc6 [] 1)))
theorem zlj (d:Nat):sem T bn (d+3) "_law_along"=zad [Zc] 3 (zdi (sem T bn (d+2))):=sFq (t:=zca) (by kernel_rfl) λ_ _=>by kernel_rfl
noncomputable def zb5 (Ψ:Str->Fn):GE:=zbu [Zb,Zb,Zb] (.tp [1,2]) (gZip (gVar 5) (gVar 6)) gYes (gOp2 #v[0,0,2] (gArg (gOp2 oAdd (zaa 1) (zaa 2))) #v[2])
noncomputable def zb3 (Ψ:Str->Fn):GE:=zbu [Zb,Zb,Za 4] (.nm 1) (zcw #v[9,17]) (zah (gOp2 (oIn Zd) (zaa 1) (zaa 2))) (gVar 1)
noncomputable def zb6 (Ψ:Str->Fn):GE:=zbu [Zb,Zb,Za 8] (.nm 1) (zax (gVar 7)) (zah (gOp2 oNe (zaa 1) (zaa 2))) (gVar 1)
noncomputable def zb8 (Ψ:Str->Fn):GE:=zbu [Zb,Zb,Za 8,Za 9] (.nm 1) (zax (gVar 10)) gYes (gOp2 #v[0,0,2] (gArg (gOp2 oAdd (gArg (gOp2 oIxD (zaa 3) (zaa 1))) (gArg (gOp2 oIxD (zaa 3) (gArg (gOp2 oAdd (zaa 1) #v[5,15])))))) #v[2])
noncomputable def zcg (Ψ:Str->Fn):GS:=(gSeq (gPar [0] 5 6 (gCall [Zc,Zc,Zc] (Ψ "votes") (gCns #v[1,4] (gCns #v[2,4] (gCns #v[4,4] gA0)))) (gCall [Zc,Zc,Zc] (Ψ "votes") #v[7,13])) (gSeq (gIfS (zah (gOp2 oNe (gArg (gCall [Zc,Zc,Zc] (Ψ "votes") (gCns #v[1,4] (gCns (gArg (gCall [Zc,Zc] (Ψ "plus") #v[6,19])) (gCns #v[4,4] gA0))))) (gArg (gOpN za5 (gCns (gArg (zb5 Ψ)) gA0))))) #v[0,17] zc7) (gSeq (gSet [0] 7 (zb3 Ψ)) (gSeq (gIfS (zah (gOp2 oEq (zaa 7) (gArg (zap gA0)))) (gRet (gC (.bl Zd))) zc7) (gSeq (gSet [0] 8 (gOp2 oIx (zaa 7) (gArg (gCall [Zd,Zc] (Ψ "_law_take") (gCns (zaa 0) (gCns (gArg (gOpN oLen (gCns (zaa 7) gA0))) gA0)))))) (gSeq (gSet [0] 9 (gDZ (gCall [Zc] (Ψ "_law_along") #v[5,19]) (gVar 5))) (gSeq (gSet [0] 10 (gCall [Zc] (Ψ "_law_along") (gCns (gArg (zb6 Ψ)) gA0))) (gSeq (gSet [0] 11 (zb8 Ψ)) (gRet (gOp2 oEq (gArg (gOpN oList (gCns (gArg (gCall [Zc,Zc,Zc] (Ψ "votes") (gCns #v[1,4] (gCns #v[2,4] (gCns (gArg (gOpN za5 (gCns (gArg (gOpN zji (gCns (gArg (gOp2 oAdd (zaa 4) (gArg (zb1 (gCns #v[8,4] gA0))))) gA0))) gA0))) gA0))))) gA0))) (zaa 11)))))))))))
noncomputable def zcf (Ψ:Str->Fn):GS:=(gSeq (gSet [0] 3 (gCall [Zc,Zc] (Ψ "word_of") (gCns #v[1,4] (gCns (gArg (gCall [Zd,Zc,Zc] (Ψ "_law_poly") (gCns (zaa 0) (gCns #v[1,4] (gCns (gArg (gOp2 #v[0,0,0] (gArg (gOpN oLen (gCns (zaa 2) gA0))) #v[1])) gA0))))) gA0)))) (gSeq (gIfS (zah (gCS Zd (gCns #v[0,13] gA0) (gCns (gArg (zap (gCns #v[0] gA0))) gA0))) #v[0,17] zc7) (gRet (gCS Zc (gCns #v[7,8] gA0) (gCns (gArg (zap (gCns #v[1] gA0))) gA0)))))
noncomputable def zb4 (Ψ:Str->Fn):GE:=zbu [Zb,Zb] (.nm 1) (zax (gVar 5)) gYes (gOp2 (oIn Zc) #v[0] (gArg (gSl (zaa 1) (zd2 (gC (.int 1))) zbx)))
noncomputable def zfb (Ψ:Str->Fn):GS:=(gSeq (gSet [0] 3 (gCall [Zc,Zc] (Ψ "word_of") (gCns #v[1,4] (gCns (gArg (gCall [Zd,Zc,Zc] (Ψ "_law_poly") (gCns (zaa 0) #v[1,11]))) gA0)))) (gSeq (gAsg [0] (.tp [4,5]) (gCall [Zc,Zc] (Ψ "mend") (gCns (gArg (zb1 #v[1,11])) #v[6,13]))) (gRet (gAnd (gOp2 oEq (zaa 4) (zaa 3)) (gAnd (gOpN (oBl λbs=>bs.all id) (gCns (gArg (zb4 Ψ)) gA0)) (gOp2 oEq (gArg (gOpN oLen (gCns (zaa 5) gA0))) (gArg (gOpN oLen (gCns (gArg (gCall [Zc,Zc] (Ψ "_law_terms") #v[1,11])) gA0)))))))))
noncomputable def zti (Ψ:Str->Fn):GS:=(gSeq (gSet [] 3 (gOp2 oAdd #v[1] (gArg (gCall [Zd,Zc] (Ψ "_law_take") (gCns (zaa 1) (gCns #v[6] gA0)))))) (gSeq (gPar [] 4 5 (gCall [Zc] (Ψ "_law_word") #v[7,11]) (gCall [Zc] (Ψ "_law_word") #v[7,11])) (gSeq (gSet [] 6 (gCall [Zc,Zc] (Ψ "_law_terms") (gCns #v[3,4] #v[6,13]))) (gSeq (gSet [] 7 (gOp2 oIx (zaa 6) (gArg (gCall [Zd,Zc] (Ψ "_law_take") (gCns (zaa 1) (gCns (gArg (gOpN oLen (gCns (zaa 6) gA0))) gA0)))))) (gSeq (gIfS (gOrT (zhg (zah (gCall [Zd,Zc,Zc,Zc,Zc] (Ψ "_law_sums_right") (gCns (zaa 1) (gCns #v[3,4] (gCns #v[4,4] (gCns #v[5,4] #v[5,19]))))))) (zhg (zah (gCall [Zd,Zc,Zc] (Ψ "_law_term_right") (gCns (zaa 1) (gCns #v[3,4] #v[5,19])))))) #v[0,17] zc7) (gIfS (zhg (zah (gCall [Zd,Zc,Zc] (Ψ "_law_mend_right") (gCns (zaa 1) (gCns #v[3,4] (gCns (gArg (gCall [Zd,Zc] (Ψ "_law_take") (gCns (zaa 1) (gCns (gArg (gOp2 oAdd (zaa 3) #v[1])) gA0)))) gA0)))))) #v[0,17] zc7))))))
noncomputable def z22 (Ψ:Str->Fn):GS:=gFor [] (.nm 2) (zcw (gCns #v[4,13] gA0)) (zti Ψ)
noncomputable def z7v (Ψ:Str->Fn):GS:=(gSeq (gSet [] 1 (gCall [Zc] (Ψ "_law_hand") #v[7,16])) (gSeq (z22 Ψ) (gRet (gC (.bl Zd)))))
theorem yc9 (d:Nat):sem T bn (d+3) "law"=zad [Zc] 8 (z7v (sem T bn (d+2))):=sFq (t:=znl) (by kernel_rfl) λ_ _=>by kernel_rfl
noncomputable def DT:List Nat->(Nat->Bool)->Nat->Bool
 |[],f=>f
 |l::T,f=>DT T λp=>f p ^^ f (p+2^l)
theorem zv9:∀(T:List Nat) (f g:Nat->Bool) (p:Nat),DT T (λp=>f p ^^ g p) p=(DT T f p ^^ DT T g p)
 |[],_,_,_=>rfl
 | l::T,f,g,p=>by
  show DT T (λp=>(f p ^^ g p) ^^ (f (p+2^l) ^^ g (p+2^l))) p=(DT T (λp=>f p ^^ f (p+2^l)) p ^^ DT T (λp=>g p ^^ g (p+2^l)) p);rw[<-zv9 T];congr 1
  funext q
  cases f q<;>cases g q<;>cases f (q+2^l)<;>cases g (q+2^l)<;>rfl
theorem znm:∀(T:List Nat) (p:Nat),DT T (λ_=>Zc) p=Zc
 |[],_=>rfl
 |l::T,p=>znm T p
theorem zur {q l:Nat}(h:q.testBit l=Zc):q+2^l=q ^^^ 2^l:=by
 have d:q%2^l<2^l:=Nat.mod_lt _ (Nat.two_pow_pos l);have j:q/2^l%2=0:=by
  have:=Nat.toNat_testBit q l;rw[h] at this;exact this.symm
 have g:q/2^l=2*(q/2^l/2):=by symm
 have e:q=2^(l+1)*(q/2^l/2)+q%2^l:=by
  have:=Nat.div_add_mod q (2^l);rw[Nat.pow_succ,Nat.mul_assoc,<-g];exact this.symm
 generalize q/2^l/2=a at e;generalize q%2^l=b at e d;have f:b<2^(l+1):=Nat.lt_trans d (Nat.pow_lt_pow_right #v[0,9] #v[]);have s:q+2^l=2^(l+1)*a+(2^l*1+b):=by symm
 rw[s,Hh #v[],Hh d,Nat.mul_one];rw[e,Hh f] at h ⊢;refine Nat.eq_of_testBit_eq λi=>?_;rw[Nat.testBit_or,Nat.testBit_or] at *
 rw[Dt,Nat.testBit_or,Nat.testBit_two_pow];by_cases c:l=i
 ·subst c;rw[Bool.or_eq_false_iff] at h;rw[h.1,h.2,Aj rfl];rfl
 ·rw[At c];cases (2^(l+1)*a).testBit i<;>cases b.testBit i<;>rfl
theorem tb_add {q l j:Nat}(h:q.testBit l=Zc)(a:j≠l):(q+2^l).testBit j=q.testBit j:=by
 rw[zur h,Dt,Nat.testBit_two_pow,At λe=>a e.symm];cases q.testBit j<;>rfl
theorem z7i {q l:Nat}(h:q.testBit l=Zc):(q+2^l).testBit l=Zd:=by
 rw[zur h,Dt,Nat.testBit_two_pow,Aj rfl,h];rfl
theorem zf5:∀(T:List Nat) (f g:Nat->Bool) (p:Nat),T.Nodup->(∀l∈T,p.testBit l=Zc)->(∀q,(∀j,j ∉ T->q.testBit j=p.testBit j)->f q=g q)->DT T f p=DT T g p
 |[],f,g,p,_,_,h=>h p λ_ _=>rfl
 | l::T,f,g,p,nd,c,h=>by
  rw[Bl] at nd;refine zf5 T _ _ p nd.2 (λj a=>c j (Ap _ a)) λq b=>?_;have d:=(b l nd.1).trans (c l Au);rw[h q λj a=>b j λz=>a (Ap _ z),h (q+2^l) λj a=>?_];have e:j≠l:=λz=>a (z ▸ Au);rw[tb_add d e];exact b j λz=>a (Ap _ z)
noncomputable def mono (U:List Nat) (p:Nat):Bool:=U.all λl=>p.testBit l
theorem ze5 {U:List Nat}{p:Nat}:mono U p=Zd↔∀l∈U,p.testBit l=Zd:=Az
theorem zun:∀(T U:List Nat) (p:Nat),T.Nodup->U.Nodup->(∀l∈T,p.testBit l=Zc)->U.length<=T.length->DT T (mono U) p=decide (∀l∈T,l∈U)
 | [],U,p,_,_,_,i=>by
  obtain rfl:=List.length_eq_zero_iff.mp (Nat.le_zero.mp i);exact (Aj λ_ h=>nomatch h).symm
 | l::T,U,p,nd,n,m,i=>by
  rw[Bl] at nd;have f : ∀j∈T,p.testBit j=Zc:=λj a=>m j (Ap _ a);have k:=m l Au;by_cases c:l∈U
  ·have e:DT (l::T) (mono U) p=DT T (mono (U.erase l)) p:=by
    refine zf5 T _ _ p nd.2 f λq g=>?_;have b:=(g l nd.1).trans k;have o:mono U q=Zc:=by
     cases z:mono U q with
     |false=>rfl
     |true=>rw[ze5.mp z l c] at b;cases b
    rw[o,Bool.false_xor];refine Du.mpr ?_;rw[ze5,ze5];constructor
    ·intro h j a
     have d:j≠l:=λz=>by rw[z] at a;exact (List.Nodup.not_mem_erase n) a
     rw[<-tb_add b d];exact h j (List.mem_of_mem_erase a)
    ·intro h j a
     by_cases d:j=l
     ·rw[d];exact z7i b
     ·rw [tb_add b d]
      exact h j ((List.mem_erase_of_ne d).mpr a)
   rw[e,zun T (U.erase l) p nd.2 (n.erase l) f (by rw[List.length_erase_of_mem c];rw[Bf] at i;symm)];refine decide_eq_decide.mpr ⟨λh j a=>?_,λh j a=>?_⟩
   ·rcases Ak.mp a with rfl | a
    ·exact c
    ·exact List.mem_of_mem_erase (h j a)
   ·have d:j≠l:=λz=>nd.1 (z ▸ a)
    exact (List.mem_erase_of_ne d).mpr (h j (Ap _ a))
  ·have e:DT (l::T) (mono U) p=DT T (λ_=>Zc) p:=by
    refine zf5 T _ _ p nd.2 f λq g=>?_;have b:q.testBit l=Zc:=(g l nd.1).trans k;have:mono U q=mono U (q+2^l):=by
     refine Du.mpr ?_;rw[ze5,ze5];exact⟨λh j a=>by rw[tb_add b λz=>c (z ▸ a)];exact h j a,λh j a=>by rw[<-tb_add b λz=>c (z ▸ a)];exact h j a⟩
    rw[this,Bool.xor_self]
   rw[e,znm];exact (At λh=>c (h l Au)).symm
noncomputable def par (ts:List (List Nat)) (p:Nat):Bool:=ts.foldr (λt b=>mono t p ^^ b) Zc
theorem z26 (T:List Nat) (p:Nat):∀ts:List (List Nat),DT T (par ts) p=ts.foldr (λt b=>DT T (mono t) p ^^ b) Zc
 |[]=>znm T p
 | t::ts=>by
  show DT T (λq=>mono t q ^^ par ts q) p=(DT T (mono t) p ^^ _);rw[zv9,z26 T p ts]
noncomputable def al (T:List Nat):List Nat:=T.foldl (λL l=>L++L.map (· + 2^l)) [0]
theorem zxd (x:Nat):∀(T:List Nat) (f:Nat->Bool) (p:Nat),DT (T++[x]) f p=(DT T f p ^^ DT T f (p+2^x))
 |[],_,_=>rfl
 |_::T,_,p=>zxd x T _ p
theorem z6j {L M:List Nat} (h:L.Perm M):∀(f:Nat->Bool),DT L f=DT M f:=by
 induction h with
 |nil=>exact λ_=>rfl
 |cons x _ i=>exact λf=>i _
 | swap x y l =>
  intro f;show DT l (λp=>(f p ^^ f (p+2^y)) ^^ (f (p+2^x) ^^ f (p+2^x+2^y)))=DT l (λp=>(f p ^^ f (p+2^x)) ^^ (f (p+2^y) ^^ f (p+2^y+2^x)));congr 1
  funext p
  rw[Nat.add_right_comm p (2^x)];cases f p<;>cases f (p+2^y)<;>cases f (p+2^x)<;>cases f (p+2^y+2^x)<;>rfl
 |trans _ _ a b=>exact λf=>(a f).trans (b f)
noncomputable def oth (m:Nat) (T:List Nat):List Nat:=(List.range (2^m)).filter λp=>p &&& zal T==0
noncomputable def rstL (m:Nat) (T:List Nat):List Nat:=(List.range m).filter λl=>!T.contains l
noncomputable def insN (x:Nat) (T:List Nat):List Nat:=T.filter (· < x)++x::T.filter (x < ·)
noncomputable def chI (m:Nat) (T:List Nat) (x:Nat):Bool:=decide (insN x T∈zab m m)&&(decide ((rstL m T).filter (!· == x)=rstL m (insN x T))&&(oth m (insN x T)).all λp=>(oth m T).contains p&&(oth m T).contains (p+2^x))
noncomputable def chT1 (m:Nat) (T:List Nat):Bool:=decide (oth m T=al (rstL m T))&&(decide ((oth m T).length=2^(m-T.length))&&((oth m T).all (λp=>T.all λl=>!p.testBit l)&&(decide (T.Pairwise (· < ·))&&(T.all (λl=>decide (l<m))&&(rstL m T).all (chI m T)))))
noncomputable def chT2 (m:Nat) (T:List Nat):Bool:=(zab m m).all λt=>!(decide (t.length<=T.length)&&T.all t.contains)||decide (t=T)
theorem z6p:((List.range 7).all λm=>(zab m m).all λT=>chT1 m T&&chT2 m T)=Zd:=by decide +kernel
structure ChT (m:Nat) (T:List Nat):Prop where
 ot:oth m T=al (rstL m T)
 ln:(oth m T).length=2^(m-T.length)
 off:∀p∈oth m T,∀l∈T,p.testBit l=Zc
 so:T.Pairwise (· < ·)
 lt:∀l∈T,l<m
 more:∀x∈rstL m T,chI m T x=Zd
 one:∀t∈zab m m,t.length<=T.length->(∀l∈T,l∈t)->t=T
theorem ChT.nd {m:Nat}{T:List Nat}(h:ChT m T):T.Nodup:=h.so.imp λh=>Ba h
theorem ch_t {m:Nat}{T:List Nat}(q:m<=6)(hT:T∈zab m m):ChT m T:=by
 have h:=Az.mp (Az.mp z6p m (By.mpr #v[])) T hT;rw[Ac] at h;obtain⟨b,e⟩:=h;unfold chT1 at b;rw[Ac,Ac,Ac,Ac,Ac] at b;obtain⟨d,o,c,f,k,j⟩:=b;refine⟨Ao d,Ao o,λp g l a=>?_,Ao f,λl a=>Ao (Az.mp k l a),Az.mp j,λt n a i=>?_⟩
 ·have:=Az.mp (Az.mp c p g) l a
  rwa [Ff] at this
 ·have:=Az.mp e t n;rw[Bx] at this;rcases this with z|z
  ·rw[Aj a,Az.mpr λl a=>Dc.mpr (i l a)] at z;cases z
  ·exact Ao z
theorem yas {m p:Nat}{T:List Nat}{ts:List (List Nat)} (h:ChT m T) (e:p∈oth m T) (nd:ts.Nodup) (b:∀t∈ts,t∈zab m m/\t.Nodup/\t.length<=T.length):DT T (par ts) p=decide (T∈ts):=by
 rw[z26]
 induction ts with
 |nil=>exact (At Bb).symm
 | cons t ts i =>
  rw[Bl] at nd;obtain⟨f,d,a⟩:=b t Au;rw[List.foldr_cons,i nd.2 λu j=>b u (Ap _ j),zun T t p h.nd d (h.off p e) a];by_cases c:t=T
  ·subst c
   rw[Aj λl g=>g,At nd.1,Aj Au];rfl
  ·rw [At λz=>c (h.one t f a z),Bool.false_xor]
   refine decide_eq_decide.mpr ⟨Ap _,λz=>?_⟩;rcases Ak.mp z with z|z
   ·exact absurd z.symm c
   ·exact z
theorem ya0 {m p:Nat}{T:List Nat}{f g:Nat->Bool}(h:ChT m T)(a:p∈oth m T)(e:∀q,q<2^m->f q=g q):DT T f p=DT T g p:=by
 have l:=By.mp (Bq.mp a).1;refine zf5 T f g p h.nd (h.off p a) λq c=>e q ?_;refine Nat.lt_pow_two_of_testBit q λi b=>?_;rw[c i λz=>absurd (h.lt i z) #v[]];exact Nat.testBit_lt_two_pow (Bc l (Fh #v[0,9] b))
theorem zpv (x:Nat)(T:List Nat)(h:x ∉ T):(insN x T).Perm (T++[x]):=by
 have e:(T.filter λy=>x<y)=T.filter λy=>!decide (y<x):=List.filter_congr λy a=>by
  have:y≠x:=λz=>h (z ▸ a);by_cases c:y<x
  ·rw[Aj c,At #v[]];rfl
  ·rw[At c,Aj #v[]];rfl
 unfold insN;rw[e];refine List.perm_middle.trans (((List.filter_append_perm (λy=>decide (y<x)) T).cons x).trans ?_);exact (List.perm_append_comm (l₁:=[x]))
theorem zyi {m x:Nat}{T:List Nat}(h:ChT m (insN x T))(n:x ∉ T):zto ((T++[x]).map λl:Nat=>(l:Int))=(insN x T).map λl:Nat=>(l:Int) :=
 zqd ((zpv x T n).map _) (List.pairwise_map.mpr (h.so.imp λz=>by symm))
theorem zmo {m x p:Nat}{T:List Nat}(f:Nat->Bool)(d:m<=6)(h:ChT m T)(a:x∈rstL m T)(b:p∈oth m (insN x T)):p∈oth m T/\p+2^x∈oth m T/\DT (insN x T) f p=(DT T f p ^^ DT T f (p+2^x)):=by
 have n:x ∉ T:=by
  have:=(Bq.mp a).2;rw[Ff,List.contains_eq_mem,decide_eq_false_iff_not] at this;exact this
 have c:=h.more x a;unfold chI at c;rw[Ac,Ac] at c;have q:=Az.mp c.2.2 p b;rw[Ac] at q;exact⟨Dc.mp q.1,Dc.mp q.2,by rw[z6j (zpv x T n),zxd]⟩
noncomputable def SN (T:List Nat) (N:Nat):Nat:=T.foldl (λN l=>N ^^^ N/2^2^l) N
theorem zee:∀(T:List Nat) (N p:Nat),(SN T N).testBit p=DT T N.testBit p
 |[],_,_=>rfl
 | l::T,N,p=>by
  show (SN T (N ^^^ N/2^2^l)).testBit p=DT T (λq=>N.testBit q ^^ N.testBit (q+2^l)) p;rw[zee T];congr 1
  funext q
  rw[Dt,Nat.testBit_div_two_pow]
theorem tmW_cast (t:List Nat):tmW t=.tup (castL t):=rfl
theorem zwd:∀m:Fin 7,∀t∈zab m.val m.val,wordOf (tab 6 λi=>if i∈t then 1 else 0)=(zal t:Int):=by decide +kernel
theorem zww:∀m:Fin 7,∀t∈zab m.val m.val,(∀l∈t,l<m.val)/\t.Nodup/\t.length<=m.val:=by decide +kernel
theorem zpp (n:Nat):rngW 0 n=(List.range n).map λj=>W.int (j:Nat):=by
 refine Dv λj _=>?_;rw[Int.zero_add]
noncomputable def zgz (Φ:Fn):Prop:=∀(m N:Nat) (T:List Nat),m<=6->T∈zab m m->Φ [.int (m:Nat),.int (N:Nat),tmW T]=Za ([.int (m:Nat),.int (N:Nat),tmW T],(.tup (((oth m T).map (bitN (SN T N))).map W.int),Zc))
theorem zyc {Ψ:Str->Fn}(F:XorN (Ψ "plus"))(r:z0c (Ψ "times"))(hW:ze3 (Ψ "word_at"))(hS:z4i (Ψ "says")):zgz (zad [Zc,Zc,Zc] 6 (zn6 Ψ)):=λm N T u hT=>by
 obtain⟨lt,nd,J⟩:=zww ⟨m,by symm⟩ T hT;have I:=zg6 u;have q:=pow1 (l:=m) #v[];have f:∃v4,zpi Ψ #v[8,15]=Za ([#v[(m:Nat),0],#v[(N:Nat),0],#v[tmW T,6],#v[(SN T N:Nat),0],v4,Zb],.nx):=by
  obtain⟨C,h,v4,rfl⟩:=zbz (mp:=[]) (T:=.nm 4) (body:=zpt Ψ) (it:=zax (gVar 2)) (ws:=castL T) (en:=#v[8,15]) (λi e=>∃v4,e=[#v[(m:Nat),0],#v[(N:Nat),0],#v[tmW T,6],#v[(SN (T.take i) N:Nat),0],v4,Zb]) rfl ⟨_,rfl⟩ λi w e g o=>by
   obtain⟨v4,rfl⟩:=o;unfold castL at g;rw[Ar] at g;obtain⟨l,b,rfl⟩:=Eu.mp g;have K:=lt l (Bm b);have E:T.take (i+1)=T.take i++[l]:=by rw[Cs,b];rfl
   have k:=pow1 (l:=l) #v[];have y:SN (T.take (i+1)) N=SN (T.take i) N ^^^ SN (T.take i) N/2^2^l:=by
    rw[E];unfold SN;rw[Hn];rfl
   generalize SN (T.take i) N=S at *
   have x:=F S (S/2^2^l);have j:(S:Int)/2^((2^l:Nat):Int).toNat=((S/2^2^l:Nat):Int):=by
    norm_cast
   have n:decide ((0:Int)<=((2^l:Nat):Int))=Zd:=Aj (Ea _);refine⟨#v[9,14],[#v[(m:Nat),0],#v[(N:Nat),0],#v[tmW T,6],#v[(SN (T.take (i+1)) N:Nat),0],#v[(l:Nat),0],Zb],rfl,.inl ?_,_,rfl⟩;rw[y];refine set_ev (e1:=#v[9,14]) ?_ rfl;generalize H:((2^l:Nat):Int)=z at j n;have G:(1:Int)*2^l=z:=by rw[zbd,H]
   simp_arith [k,G,n,j,x]
  rw[castL_len,Cn] at h;exact⟨_,h⟩
 obtain⟨v4,f⟩:=f;have d:=hW 6 T #v[0,9] λl b=>by have:=lt l b;symm
 rw[zwd ⟨m,by symm⟩ T hT] at d;have d:Ψ "word_at" [tmW T]=Za ([tmW T],(.int (zal T:Nat),Zc)):=d;have t:zpl Ψ #v[9,8]=Za (#v[9,8],(.lst (((oth m T).map (bitN (SN T N))).map W.int),Zd)):=by
  rw[Ce];refine znc (xs:=[#v[(zal T:Nat),0],#v[(SN T N:Nat),0]]) (λp:Nat=>W.int (p:Nat)) (λp=>p &&& zal T==0) (W.int ∘ bitN (SN T N)) (by rw[<-zpp];exact zte (by simp_arith [q,zbd]) #v[]) (by rw[Cq];symm) rfl rfl rfl (λ_ _=>rfl) λB p _=>?_;have a:=r (p:Nat) (zal T:Nat);rw[band] at a;have s:=hS (SN T N) p;have A:decide (((p &&& zal T:Nat):Int)=0)=(p &&& zal T==0):=by
   by_cases c:p &&& zal T=0
   ·rw[c];rfl
   ·rw[At #v[]];exact (El.mpr c).symm
  refine⟨#v[(p:Nat),0],by simp_arith [a,A],λ_=>⟨#v[(p:Nat),0],Zc,?_⟩⟩;show _=Za ([B,#v[(p:Nat),0],#v[(zal T:Nat),0],#v[(SN T N:Nat),0]],(W.int (bitN (SN T N) p),Zc))
  simp_arith [s]
 have D:za5 [.lst (((oth m T).map (bitN (SN T N))).map W.int)]=#v[(((oth m T).map (bitN (SN T N))).map W.int),3]:=rfl;refine zan (en:=#v[9,8]) rfl (za3 ?_ (za3 f (za3 (e1:=#v[9,8]) ?_ ?_))) rfl
 ·simp_arith []
 ·simp_arith [d]
 ·simp_arith [t,D]
noncomputable abbrev VR:=List Nat×Nat×Nat
noncomputable def rowW (x:VR):W:=.tup [tmW x.1,.int (x.2.1:Nat),.int (x.2.2:Nat)]
noncomputable def chA (R:List VR) (s:Int):List (List Nat):=(R.filter λx=>decide (x.2.1<x.2.2)&&decide (s<(x.1.length:Int))).map (·.1)
theorem zj4 {α:Type}{cap:Cap}{T:Tg}{it:GL}{tc:GT}{te:GE}{en e0:En}{ts:List α} (P:En->Prop) (f g:α->W) (p:α->Bool) (u:it en=Za (e0,ts.map f)) (D:ts.length<=100000) (r:zcu cap=Zd) (y:P (zfi cap e0)) (q:∀c,P c->zas cap e0 c=e0) (A:∀c a,P c->a∈ts->∃d k,tgSet (capKeep cap) T (f a) c=Za d/\tc d=Za (k,p a)/\P k/\(p a=Zd->∃l b,te k=Za (l,(g a,b))/\P l)):zbu cap T it tc te en=Za (e0,(.lst ((ts.filter p).map g),Zd)):=by
 have C:(100000:Nat)<=sizeLine:=by decide
 obtain ⟨v,out,m,h⟩:=zez (λi c n=>P c/\n=((ts.take i).filter p).map g) u r (by rw [Af];symm) ⟨y,rfl⟩
  (λi w c n e h=>by
   obtain⟨h,rfl⟩:=h;rw[Ar] at e;cases ha:ts[i]? with
   |none=>rw[ha] at e;exact noSome e
   | some a =>
    rw[ha] at e;obtain rfl:=sI e;obtain⟨d,k,o,j,x,s⟩:=A c a h (Bm ha);have t:ts.take (i+1)=ts.take i++[a]:=by rw[Cs,ha];rfl
    cases pa:p a with
    | true =>
     obtain⟨l,b,z,B⟩:=s pa;rw[pa] at j;exact⟨d,o,.inl ⟨_,_,_,j,z,B,by rw[t,Gc,Bw,Dh pa];rfl⟩⟩
    | false =>
     rw[pa] at j;exact⟨d,o,.inr ⟨_,j,x,by rw[t,Gc,Di (by rw[pa];decide),List.filter_nil,Cf]⟩⟩)
 obtain⟨h,rfl⟩:=h;rw[q _ h,Af,Cn] at m;exact m
noncomputable def zph (Φ:Fn):Prop:=∀(R:List VR) (s:Int),R.length<=100->Φ [.lst (R.map rowW),.int s]=Za ([.lst (R.map rowW),.int s],(.tup ((chA R s).map tmW),Zc))
theorem z4j (Ψ:Str->Fn):zph (zad [Zc,Zc] 2 (zbg Ψ)):=λR s hR=>by
 have g:zbt Ψ #v[2,17]=Za (#v[2,17],(.lst ((chA R s).map tmW),Zd)):=by
  unfold zbt chA;rw[Ce];refine zj4 (λc=>∃u b f a,c=[u,b,f,a,#v[s,0]]) rowW (tmW ∘ λx=>x.1) (λx=>decide (x.2.1<x.2.2)&&decide (s<(x.1.length:Int))) rfl #v[] rfl ⟨_,_,_,_,rfl⟩ (λc ⟨_,_,_,_,e⟩=>by rw[e];rfl) λc x h _=>?_;obtain⟨u,b,f,a,rfl⟩:=h;have d:decide ((x.2.1:Int)<(x.2.2:Int))=decide (x.2.1<x.2.2):=decide_eq_decide.mpr #v[];have l:=castL_len x.1;refine⟨[u,#v[tmW x.1,6],#v[(x.2.1:Nat),0],#v[(x.2.2:Nat),0],#v[s,0]],[u,#v[tmW x.1,6],#v[(x.2.1:Nat),0],#v[(x.2.2:Nat),0],#v[s,0]],rfl,?_,⟨_,_,_,_,rfl⟩,λ_=>⟨[u,#v[tmW x.1,6],#v[(x.2.1:Nat),0],#v[(x.2.2:Nat),0],#v[s,0]],Zc,rfl,_,_,_,_,rfl⟩⟩;rw[tmW_cast];cases z:decide (x.2.1<x.2.2) with
  | true =>
   have d:=d.trans z
   simp_arith [d,l]
  | false =>
   have d:=d.trans z
   simp_arith [d]
 have o:za5 [.lst ((chA R s).map tmW)]=#v[((chA R s).map tmW),3]:=rfl;unfold zbg
 simp_arith [g,o]
theorem zyp (t:List Nat)(p:Nat):hasT t p=mono t p:=by
 refine congrArg (λf=>t.all f) (funext λl=>?_);rw[Nat.testBit_eq_decide_div_mod_eq]
theorem zi7 (p:Nat):∀ts:List (List Nat),valF ts p=if par ts p then 1 else 0
 |[]=>rfl
 | t::ts=>by
  rw[zy8,zi7 p ts,zyp];show _=if (mono t p ^^ par ts p) then 1 else 0;cases mono t p<;>cases par ts p<;>rfl
theorem zfy (m:Nat)(ts:List (List Nat)):∃w:Nat,wordOf (tab (2^m) (valF ts))=(w:Int)/\w<2^2^m/\tab (2^m) (valF ts)=tab (2^m) (bitN w)/\∀p,p<2^m->w.testBit p=par ts p:=by
 obtain⟨w,h,e⟩:=zfw _ (zyn m ts);rw[zay] at h e;refine⟨w,by rw[e,zbj _ _ h],h,e,λp b=>?_⟩;have a:(tab (2^m) (valF ts))[p]?=(tab (2^m) (bitN w))[p]?:=by rw[e]
 rw[zd6 b,zd6 b] at a;have a:=sI a;rw[<-z5w,<-a,zi7];cases par ts p<;>rfl
theorem z16 {i:Nat}{g:GE}{en:En}{w:W}(h:en[i]?=Za (#v[w,6])):gBor i g en=g en:=by unfold gBor;rw[h];cases w<;>rfl
theorem z9z {i:Nat}{g:GE}{en e1:En}{ws:List W}{u:W}(h:en[i]?=Za (#v[ws,2]))(a:g (en.set i (#v[ws,1]))=Za (e1,(u,Zc)))(b:e1.length=en.length)(c:zhh u=Zd):gBor i g en=Za ((List.zipWith borX en e1).set i (#v[ws,2]),(u,Zc)):=by
 unfold gBor;rw[h];show (g _).bind _=_;rw[a];exact if_pos ⟨b,c,rfl⟩
theorem z20 {v0 v1 v2 v3 v4:Option (W×Bool)}(n:List Int)(k:Int):zn8 5 (gC (.int k)) [v0,v1,v2,v3,v4,#v[(n.map W.int),3]]=Za ([v0,v1,v2,v3,v4,#v[(n.map W.int),3]],(.int (n.count k:Nat),Zc)):=by
 unfold zn8;simp only [List.getElem?_cons_succ,List.getElem?_cons_zero,gC,Dz,zdv]
noncomputable def votL (m r:Nat):List (List Nat):=(List.range (r+1)).reverse.flatMap λs=>(zab m r).filter λt=>decide (t.length=s)
noncomputable def zuk (Φ:Fn):Prop:=∀m r:Nat,1<=m->m<=6->r<=m->Φ [kdW m r]=Za ([kdW m r],(.lst ((votL m r).map tmW),Zd))
noncomputable def teV:GE:=gOp1 oNeg #v[2,9]
noncomputable def vsO (m r:Nat):Option (List W):=(mapO (lamΦ teV) ((zab m r).map tmW)).bind λk=>zfs k ((zab m r).map tmW)
theorem vs_0:((List.range 7).map λr=>vsO 0 r)=(List.range 7).map λr=>Za ((votL 0 r).map tmW):=by kernel_rfl
theorem vs_1:((List.range 7).map λr=>vsO 1 r)=(List.range 7).map λr=>Za ((votL 1 r).map tmW):=by kernel_rfl
theorem vs_2:((List.range 7).map λr=>vsO 2 r)=(List.range 7).map λr=>Za ((votL 2 r).map tmW):=by kernel_rfl
theorem vs_3:((List.range 7).map λr=>vsO 3 r)=(List.range 7).map λr=>Za ((votL 3 r).map tmW):=by kernel_rfl
theorem vs_4:((List.range 7).map λr=>vsO 4 r)=(List.range 7).map λr=>Za ((votL 4 r).map tmW):=by kernel_rfl
theorem vs_5:((List.range 7).map λr=>vsO 5 r)=(List.range 7).map λr=>Za ((votL 5 r).map tmW):=by kernel_rfl
theorem vs_6:((List.range 7).map λr=>vsO 6 r)=(List.range 7).map λr=>Za ((votL 6 r).map tmW):=by kernel_rfl
theorem ybu {m r:Nat}(b:m<=6)(c:r<=m):vsO m r=Za ((votL m r).map tmW):=by
 have a:=By.mpr (show r<7 by symm)
 match m,b with
 |0,_=>exact Ei.mp vs_0 r a
 |1,_=>exact Ei.mp vs_1 r a
 |2,_=>exact Ei.mp vs_2 r a
 |3,_=>exact Ei.mp vs_3 r a
 |4,_=>exact Ei.mp vs_4 r a
 |5,_=>exact Ei.mp vs_5 r a
 |6,_=>exact Ei.mp vs_6 r a
 |m+7,h=>symm
theorem zz7 {Ψ:Str->Fn}(hT:zus (Ψ "terms")):zuk (zad [Zc] 1 (zcq Ψ)):=λm r d h b=>by
 have e:=hT m r d h b;have v:=ybu h b;obtain⟨k,f,c⟩:=bS v;have s:zh0 seqW zfs teV #v[7,10] [#v[kdW m r,6]]=Za ([#v[kdW m r,6]],(.lst ((votL m r).map tmW),Zd)):=by
  have a:#v[7,10] [#v[kdW m r,6]]=Za ([#v[kdW m r,6]],.inl (.tup ((zab m r).map tmW))):=by simp_arith [e]
  unfold zh0;rw[a];show (mapO (lamΦ teV) ((zab m r).map tmW)).bind _=_;rw[f];show (zfs k ((zab m r).map tmW)).bind _=_;rw[c]
  rfl
 show zad [Zc] 1 (gRet (zh0 seqW zfs teV #v[7,10])) [kdW m r]=_
 simp_arith [s]
noncomputable def zpc (Φ:Fn):Prop:=∀(m N:Nat) (R:List VR) (T:List Nat) (w:Nat) (b:Bool),m<=6->T∈zab m m->R.length<=64->zmj m (chA R T.length)->wordOf (tab (2^m) (valF (chA R T.length)))=(w:Int)->(∀p∈oth m T,DT T (N ^^^ w).testBit p=b)->Φ #v[5,17]=Za (#v[5,17],(rowW (T,bif b then 0 else (oth m T).length,bif b then (oth m T).length else 0),Zc))
theorem z4l {Ψ:Str->Fn}(y:XorN (Ψ "plus"))(hW:zdn (Ψ "word_of"))(r:zph (Ψ "chosen_above"))(i:zgz (Ψ "votes")):zpc (zad [Zc,Zc,Zc,Zc] 6 (zfk Ψ)):=λm N R T w b h hT hR k t g=>by
 have c:=r R (T.length:Nat) #v[];have u:(chA R (T.length:Nat)).length<=64:=by
  unfold chA;rw[Af];exact Bu (Fb ..) hR
 have a:=hW m (chA R T.length) h u k;rw[t] at a;have x:=y N w;have v:=i m (N ^^^ w) T h hT;have j:gBor 2 (gCall [Zc,Zc] (Ψ "chosen_above") (gCns #v[2,4] #v[3,11])) #v[3,15]=Za (#v[3,15],(.tup ((chA R T.length).map tmW),Zc)):=by
  have l:=castL_len T;rw[z16 rfl,tmW_cast];simp! [l,c]
 have e:(oth m T).map (bitN (SN T (N ^^^ w)))=List.replicate (oth m T).length (bif b then 1 else 0):=by
  rw[<-List.map_const'];refine Dv λp o=>?_;have:=g p o;rw[<-zee] at this;unfold bitN;rw[this];cases b<;>rfl
 rw[e] at v;generalize (oth m T).length=n at *
 have d:=z20 (v0:=#v[(m:Nat),0]) (v1:=#v[(N:Nat),0]) (v2:=#v[(R.map rowW),1]) (v3:=#v[tmW T,6]) (v4:=#v[((N ^^^ w:Nat):Int),0]) (List.replicate n (bif b then 1 else 0)) 0;have f:=z20 (v0:=#v[(m:Nat),0]) (v1:=#v[(N:Nat),0]) (v2:=#v[(R.map rowW),1]) (v3:=#v[tmW T,6]) (v4:=#v[((N ^^^ w:Nat):Int),0]) (List.replicate n (bif b then 1 else 0)) 1;have q:(List.replicate n (bif b then (1:Int) else 0)).count 0=bif b then 0 else n:=by
  rw[List.count_replicate];cases b<;>rfl
 have s:(List.replicate n (bif b then (1:Int) else 0)).count 1=bif b then n else 0:=by
  rw[List.count_replicate];cases b<;>rfl
 rw[q] at d;rw[s] at f;generalize List.replicate n (bif b then (1:Int) else 0)=L at *
 refine zan (en:=[#v[(m:Nat),0],#v[(N:Nat),0],#v[(R.map rowW),1],#v[tmW T,6],#v[((N ^^^ w:Nat):Int),0],#v[(L.map W.int),3]]) rfl (za3 (e1:=[#v[(m:Nat),0],#v[(N:Nat),0],#v[(R.map rowW),1],#v[tmW T,6],#v[((N ^^^ w:Nat):Int),0],Zb]) ?_ (za3 (e1:=[#v[(m:Nat),0],#v[(N:Nat),0],#v[(R.map rowW),1],#v[tmW T,6],#v[((N ^^^ w:Nat):Int),0],#v[(L.map W.int),3]]) ?_ ?_)) rfl
 ·simp! [j,a,x]
 ·simp! [v]
 ·simp! [d,f]
  rfl
theorem par_perm {L M:List (List Nat)} (h:L.Perm M) (p:Nat):par L p=par M p:=by
 induction h with
 |nil=>rfl
 |cons x _ i=>show (mono x p ^^ par _ p)=(mono x p ^^ par _ p);rw[i]
 | swap x y l =>
  show (mono y p ^^ (mono x p ^^ par l p))=(mono x p ^^ (mono y p ^^ par l p));cases mono x p<;>cases mono y p<;>cases par l p<;>rfl
 |trans _ _ a b=>exact a.trans b
theorem par_split (q:List Nat->Bool) (p:Nat):∀ts:List (List Nat),par ts p=(par (ts.filter q) p ^^ par (ts.filter λt=>!q t) p)
 |[]=>rfl
 | t::ts=>by
  show (mono t p ^^ par ts p)=_;rw[par_split q p ts];cases h:q t with
  | true =>
   rw[Dh h,Di (by rw[h];decide)];show _=((mono t p ^^ par (ts.filter q) p) ^^ _);rw[Bool.xor_assoc]
  | false =>
   rw[Di (by rw[h];decide),Dh (by rw[h];rfl)];show _=(_ ^^ (mono t p ^^ par (ts.filter λt=>!q t) p));cases mono t p<;>cases par (ts.filter q) p<;>cases par (ts.filter λt=>!q t) p<;>rfl
noncomputable def vlB (m r:Nat):Bool:=decide (votL m r).Nodup&&((votL m r).all (λt=>(zab m r).contains t&&(zab m m).contains t&&decide (t.length<=r))&&((zab m r).all (λt=>(votL m r).contains t)&&(decide ((votL m r).length<=64)&&decide ((votL m r).Pairwise λa b=>b.length<=a.length))))
theorem z4g:∀m r:Fin 7,r.val<=m.val->vlB m.val r.val=Zd:=by decide +kernel
structure Vl (m r:Nat):Prop where
 nd:(votL m r).Nodup
 mem:∀t∈votL m r,t∈zab m r/\t∈zab m m/\t.length<=r
 all:∀t∈zab m r,t∈votL m r
 ln:(votL m r).length<=64
 dsc:(votL m r).Pairwise λa b=>b.length<=a.length
theorem zmn {m r:Nat}(k:m<=6)(i:r<=m):Vl m r:=by
 have h:=z4g ⟨m,by symm⟩ ⟨r,by symm⟩ i;have h:(decide (votL m r).Nodup&&((votL m r).all (λt=>(zab m r).contains t&&(zab m m).contains t&&decide (t.length<=r))&&((zab m r).all (λt=>(votL m r).contains t)&&(decide ((votL m r).length<=64)&&decide ((votL m r).Pairwise λa b=>b.length<=a.length)))))=Zd:=h;rw[Ac,Ac,Ac,Ac] at h;obtain⟨j,f,d,e,g⟩:=h;refine⟨Ao j,λt c=>?_,λt c=>Dc.mp (Az.mp d t c),Ao e,Ao g⟩;have:=Az.mp f t c;rw[Ac,Ac] at this;exact⟨Dc.mp this.1.1,Dc.mp this.1.2,Ao this.2⟩
noncomputable def hiT (ts:List (List Nat)) (s:Nat):List (List Nat):=ts.filter λt=>decide (s<t.length)
structure Hrd (m r:Nat) (ts:List (List Nat)) (N:Nat):Prop where
 m1:1<=m
 m6:m<=6
 rm:r<=m
 nd:ts.Nodup
 tm:∀t∈ts,t∈zab m r
 ex:∀p,p<2^m->N.testBit p=par ts p
noncomputable def rowD (m:Nat) (ts:List (List Nat)) (T:List Nat):VR:=(T,bif decide (T∈ts) then 0 else 2^(m-T.length),bif decide (T∈ts) then 2^(m-T.length) else 0)
theorem zxk {m:Nat}{ts:List (List Nat)}{T:List Nat}:decide ((rowD m ts T).2.1<(rowD m ts T).2.2)=decide (T∈ts)/\(rowD m ts T).2.1≠(rowD m ts T).2.2:=by
 have p:0<2^(m-T.length):=Nat.pow_pos #v[0,9];unfold rowD;cases decide (T∈ts)
 ·exact⟨At (by show ¬ (2^(m-T.length)<0);symm),by show 2^(m-T.length)≠0;symm⟩
 ·exact⟨Aj p,by show 0≠2^(m-T.length);symm⟩
theorem ch_D {m:Nat}{ts:List (List Nat)} (s:Int):∀L:List (List Nat),chA (L.map (rowD m ts)) s=L.filter λT=>decide (T∈ts)&&decide (s<(T.length:Int))
 |[]=>rfl
 | T::L=>by
  have i:=ch_D (m:=m) (ts:=ts) s L;have y:=(zxk (m:=m) (ts:=ts) (T:=T)).1;unfold chA at i ⊢;rw[Ax];cases c:(decide (T∈ts)&&decide (s<(T.length:Int))) with
  | true =>
   rw[Dh (p:=λU=>decide (U∈ts)&&decide (s<(U.length:Int))) c,Dh (by rw[y];exact c),Ax,i]
   rfl
  | false =>
   rw[Di (p:=λU=>decide (U∈ts)&&decide (s<(U.length:Int))) (by rw[c];decide),Di (by rw[y];rw[show (rowD m ts T).1=T from rfl,c];decide),i]
theorem z5l {m r N i:Nat}{ts:List (List Nat)}{T:List Nat}(H:Hrd m r ts N)(hT:(votL m r)[i]?=Za T):(chA (((votL m r).take i).map (rowD m ts)) T.length).Perm (hiT ts T.length):=by
 have V:=zmn H.m6 H.rm;rw[ch_D T.length];refine (List.perm_ext_iff_of_nodup ((V.nd.sublist (Eh ..)).filter _) (H.nd.filter _)).mpr λU=>?_;have l:=(Ah.mp hT).1;rw[Bq,Bq,Ac,Cc,Cc,Cc];constructor
 ·rintro ⟨_,h,a⟩;exact⟨h,by symm⟩
 ·rintro ⟨h,a⟩;refine ⟨?_,h,by symm⟩;obtain ⟨j,b,e⟩:=Cj.mp (V.all U (H.tm U h));have d:j<i:=by
   refine Decidable.not_not.mp λz=>?_;rcases Nat.lt_or_ge i j with c|c
   ·have:=Ec.mp V.dsc i j l b c;rw[e,(Ah.mp hT).2] at this;symm
   ·have:i=j:=by symm
    subst this;rw[(Ah.mp hT).2] at e;subst e;symm
  exact Cj.mpr ⟨j,by rw[Cu];symm,by rw[List.getElem_take];exact e⟩
theorem yaf {m r N:Nat}{ts:List (List Nat)}(H:Hrd m r ts N):(chA ((votL m r).map (rowD m ts)) (-1)).Perm ts:=by
 have V:=zmn H.m6 H.rm;rw[ch_D (-1)];refine (List.perm_ext_iff_of_nodup (V.nd.filter _) H.nd).mpr λU=>?_;rw[Bq,Ac,Cc,Cc];exact⟨λh=>h.2.1,λh=>⟨V.all U (H.tm U h),h,by symm⟩⟩
theorem zxz {L M:List (List Nat)}(h:L.Perm M)(m:Nat):tab (2^m) (valF L)=tab (2^m) (valF M):=tab_ext λp _=>by rw[zi7,zi7,par_perm h]
theorem zlw:∀t:List Nat,zh2 (t.map λl:Nat=>W.int (l:Nat))=Zd
 |[]=>rfl
 |_::t=>zlw t
theorem zyk (x:VR):zhh (rowW x)=Zd:=by
 show (zh2 (x.1.map λl:Nat=>W.int (l:Nat))&&Zd)=Zd;rw[zlw];rfl
theorem z4m {m r N i:Nat}{ts:List (List Nat)}{T:List Nat}{Φ:Fn}(n:zpc Φ)(H:Hrd m r ts N)(hT:(votL m r)[i]?=Za T):Φ #v[8,13]=Za (#v[8,13],(rowW (rowD m ts T),Zc)):=by
 have V:=zmn H.m6 H.rm;obtain⟨_,e,_⟩:=V.mem T (Bm hT);have C:=ch_t H.m6 e;have a:=z5l H hT;obtain⟨w,f,o,_,k⟩:=zfy m (chA (((votL m r).take i).map (rowD m ts)) T.length);have g:(ts.filter λt=>!decide (T.length<t.length)).Nodup:=H.nd.filter _;have v:=n m N (((votL m r).take i).map (rowD m ts)) T w (decide (T∈ts)) H.m6 e (by rw[Af,Cu];have:=V.ln;symm) ⟨a.nodup_iff.mpr (H.nd.filter _),λt h=>by
  have:=(Bq.mp (a.mem_iff.mp h)).1;exact (V.mem t (V.all t (H.tm t this))).2.1⟩ f λp d=>by
   rw[ya0 C d λq b=>?_,yas C d g λt h=>?_]
   ·refine decide_eq_decide.mpr ?_;rw[Bq];exact⟨λz=>z.1,λz=>⟨z,by rw[At (Bp _)];rfl⟩⟩
   ·obtain⟨l,j⟩:=Bq.mp h;have c:=(V.mem t (V.all t (H.tm t l))).2.1;refine⟨c,(zww ⟨m,by have:=H.m6;symm⟩ t c).2.1,?_⟩;rw[Ff,decide_eq_false_iff_not] at j;symm
   ·rw[Dt,k q b,par_perm a,H.ex q b,par_split (λt=>decide (T.length<t.length)) q ts];unfold hiT;cases par (ts.filter λt=>decide (T.length<t.length)) q<;>cases par (ts.filter λt=>!decide (T.length<t.length)) q<;>rfl
 rw[C.ln] at v;exact v
noncomputable def zwj (Φ:Fn):Prop:=∀m t:Nat,m<=6->t<=m->Φ [kdW m t]=Za ([kdW m t],(.int ((2^(m-t):Nat):Int),Zc))
theorem zy4 (Ψ:Str->Fn):zwj (zad [Zc] 3 (zix Ψ)):=λm t h a=>by
 have e:((m:Nat):Int)-(t:Nat)=((m-t:Nat):Int):=by symm
 have p:=pow1 (l:=m-t) #v[];unfold zix kdW;refine zan (en:=#v[3,16]) rfl (zeo (e1:=#v[3,16]) ?_ ?_) rfl
 ·simp_arith []
 ·simp_arith [e,p,zbd]
noncomputable def ya4 (Φ:Fn):Prop:=∀m r w:Nat,m<=6->r<=m->Φ [kdW m r,.int (w:Nat),.int (w:Nat)]=Za ([kdW m r,.int (w:Nat),.int (w:Nat)],#v[8,10])
theorem yak {Ψ:Str->Fn}(c:∀w:Nat,Ψ "unlike" #v[6,15]=Za (#v[6,15],(.int 0,Zc)))(b:zwj (Ψ "least")):ya4 (zad [Zc,Zc,Zc] 3 (zev Ψ)):=λm r w h a=>by
 have u:=c w;have l:=b m r h a;have p:0<2^(m-r):=Nat.pow_pos #v[0,9];have d:decide ((0:Int)<((2^(m-r):Nat):Int))=Zd:=Aj #v[];have e:(2:Int)*0=0:=rfl;unfold zev
 simp_arith [u,l,mul2,d]
theorem yb8 {Ψ:Str->Fn}(hW:zod (Ψ "weight"))(a:XorN (Ψ "plus"))(w:Nat):zad [Zc,Zc] 2 (zf1 Ψ) #v[6,15]=Za (#v[6,15],(.int 0,Zc)):=by
 have x:=a w w;rw[Nat.xor_self] at x;have q:Ψ "weight" [.int ((0:Nat):Int)]=Za ([.int ((0:Nat):Int)],(.int 0,Zc)):=hW [] (λ_ h=>nomatch h) (Bk _);unfold zf1;generalize ((0:Nat):Int)=z at *
 simp_arith [x,q]
noncomputable def zve (Φ:Fn):Prop:=∀(m:Nat) (R:List VR) (w:Nat),m<=6->R.length<=64->zmj m (chA R (-1))->wordOf (tab (2^m) (valF (chA R (-1))))=(w:Int)->Φ [.int (m:Nat),.lst (R.map rowW)]=Za ([.int (m:Nat),.lst (R.map rowW)],(.int (w:Nat),Zc))
theorem zyh {Ψ:Str->Fn}(hW:zdn (Ψ "word_of"))(e:zph (Ψ "chosen_above")):zve (zad [Zc,Zc] 2 (za6 Ψ)):=λm R w d hR h f=>by
 have c:=e R (-1) #v[];have l:(chA R (-1)).length<=64:=by
  unfold chA;rw[Af];exact Bu (Fb ..) hR
 have a:=hW m (chA R (-1)) d l h;rw[f] at a;have b:gBor 1 (gCall [Zc,Zc] (Ψ "chosen_above") #v[7,17]) [#v[(m:Nat),0],#v[(R.map rowW),1]]=Za ([#v[(m:Nat),0],#v[(R.map rowW),1]],(.tup ((chA R (-1)).map tmW),Zc)):=by
  rw[z16 rfl]
  simp_arith [c]
 unfold za6
 simp_arith [b,a]
theorem z4d {Ψ:Str->Fn}(f:zpc (Ψ "vote_row")){m r N i:Nat}{ts:List (List Nat)}{T:List Nat}{v5:Option (W×Bool)}(c:v5=Zb\/∃w,v5=#v[w,6])(H:Hrd m r ts N)(hT:(votL m r)[i]?=Za T):ztr Ψ [#v[kdW m r,6],#v[(N:Nat),0],#v[(m:Nat),0],#v[((((votL m r).take i).map (rowD m ts)).map rowW),2],#v[tmW T,6],v5,Zb]=Za ([#v[kdW m r,6],#v[(N:Nat),0],#v[(m:Nat),0],#v[((((votL m r).take (i+1)).map (rowD m ts)).map rowW),2],#v[tmW T,6],#v[rowW (rowD m ts T),6],Zb],.nx):=by
 have V:=zmn H.m6 H.rm;have a:=z4m f H hT;have n:=(zxk (m:=m) (ts:=ts) (T:=T)).2;have t:(votL m r).take (i+1)=(votL m r).take i++[T]:=by rw[Cs,hT];rfl
 have l:((votL m r).take i).length<=64:=by rw[Cu];have:=V.ln;symm
 rw[t,Bw,Bw];generalize hR:(((votL m r).take i).map (rowD m ts)).map rowW=R at a ⊢;have g:R.length<=64:=by rw[<-hR,Af,Af];exact l
 have b:gBor 3 (gCall [Zc,Zc,Zc,Zc] (Ψ "vote_row") (gCns #v[2,4] #v[7,13])) #v[0,11]=Za (#v[0,11],(rowW (rowD m ts T),Zc)):=by
  refine (z9z (i:=3) (en:=#v[0,11]) (e1:=[#v[kdW m r,6],#v[(N:Nat),0],#v[(m:Nat),0],#v[R,1],#v[tmW T,6],v5,Zb]) (u:=rowW (rowD m ts T)) rfl ?_ rfl (zyk _)).trans ?_
  ·show gCall _ _ _ [Za (kdW m r,Zc),Za (.int (N:Nat),Zc),Za (.int (m:Nat),Zc),Za (.lst R,Zc),Za (tmW T,Zc),v5,Zb]=_
   simp_arith [a]
  ·rcases c with rfl|⟨w,rfl⟩<;>rfl
 have x:atI [tmW (rowD m ts T).1,W.int ((rowD m ts T).2.1:Nat),W.int ((rowD m ts T).2.2:Nat)] 1=Za (.int ((rowD m ts T).2.1:Nat)):=rfl;have e:atI [tmW (rowD m ts T).1,W.int ((rowD m ts T).2.1:Nat),W.int ((rowD m ts T).2.2:Nat)] 2=Za (.int ((rowD m ts T).2.2:Nat)):=rfl;have d:decide (((rowD m ts T).2.1:Int)=((rowD m ts T).2.2:Int))=Zc:=At #v[];have lt:(R.length<16777216)=True:=eq_true #v[];generalize h:rowD m ts T=z at *
 refine zeo (set_ev b rfl) ?_;rw[Ax,Gn,Ax,Gn,h];unfold rowW
 simp_arith [x,e,d,lt]
noncomputable def z2i (Φ:Fn):Prop:=∀(m r w:Nat) (t:List (List Nat)),Hrd m r t w->wordOf (tab (2^m) (valF t))=(w:Int)->Φ [kdW m r,.int (w:Nat)]=Za ([kdW m r,.int (w:Nat)],(.tup [.int (w:Nat),.tup (((votL m r).map (rowD m t)).map rowW)],Zc))
theorem z3a {Ψ:Str->Fn}(hT:zuk (Ψ "voted_terms"))(j:zpc (Ψ "vote_row"))(hB:zve (Ψ "word_by_votes"))(B:ya4 (Ψ "is_near")):z2i (zad [Zc,Zc] 7 (z13 Ψ)):=λm r w a H y=>by
 have V:=zmn H.m6 H.rm;have q:=hT m r H.m1 H.m6 H.rm;have l:∃v4 v5,zut Ψ #v[4,11]=Za ([#v[kdW m r,6],#v[(w:Nat),0],#v[(m:Nat),0],#v[(((votL m r).map (rowD m a)).map rowW),2],v4,v5,Zb],.nx)/\(v4=Zb\/∃w,v4=#v[w,6])/\(v5=Zb\/∃w,v5=#v[w,6]):=by
  obtain⟨x,h,v4,v5,rfl,d,c⟩:=zbz (mp:=[]) (T:=.nm 4) (it:=zax (gCall [Zc] (Ψ "voted_terms") #v[7,16])) (ws:=(votL m r).map tmW) (en:=#v[4,11]) (e0:=#v[4,11]) (λi e=>∃v4 v5,e=[#v[kdW m r,6],#v[(w:Nat),0],#v[(m:Nat),0],#v[((((votL m r).take i).map (rowD m a)).map rowW),2],v4,v5,Zb]/\(v4=Zb\/∃w,v4=#v[w,6])/\(v5=Zb\/∃w,v5=#v[w,6])) (by simp_arith [q]) ⟨_,_,rfl,.inl rfl,.inl rfl⟩ λi w e f k=>by
   obtain⟨v4,v5,rfl,d,c⟩:=k;rw[Ar] at f;obtain⟨T,hT,rfl⟩:=Eu.mp f;exact⟨_,_,rfl,.inl (z4d j c H hT),_,_,rfl,.inr ⟨_,rfl⟩,.inr ⟨_,rfl⟩⟩
  rw[Af,Cn] at h;exact⟨_,_,h,d,c⟩
 obtain⟨v4,v5,l,d,c⟩:=l;have p:=yaf H;have g:wordOf (tab (2^m) (valF (chA ((votL m r).map (rowD m a)) (-1))))=(w:Int):=by rw[zxz p,y]
 have o:=hB m ((votL m r).map (rowD m a)) w H.m6 (by rw[Af];exact V.ln) ⟨p.nodup_iff.mpr H.nd,λt z=>(V.mem t (V.all t (H.tm t (p.mem_iff.mp z)))).2.1⟩ g;have s:=B m r w H.m6 H.rm;have n:atI [W.int (m:Nat),W.int (r:Nat)] 0=Za (.int (m:Nat)):=rfl;generalize hR:((votL m r).map (rowD m a)).map rowW=R at *
 have b:gBor 3 (gCall [Zc,Zc] (Ψ "word_by_votes") #v[6,19]) #v[9,11]=Za (#v[9,11],(.int (w:Nat),Zc)):=by
  refine (z9z (i:=3) (en:=#v[9,11]) (ws:=R) (e1:=[#v[kdW m r,6],#v[(w:Nat),0],#v[(m:Nat),0],#v[R,1],v4,v5,Zb]) (u:=.int (w:Nat)) rfl ?_ rfl rfl).trans ?_
  ·show gCall _ _ _ [Za (kdW m r,Zc),Za (.int (w:Nat),Zc),Za (.int (m:Nat),Zc),Za (.lst R,Zc),v4,v5,Zb]=_
   simp_arith [o]
  ·rcases d with rfl|⟨w,rfl⟩<;>rcases c with rfl|⟨w,rfl⟩<;>rfl
 have A:za5 [.lst R]=#v[R,3]:=rfl;unfold z13;refine zan (en:=#v[2,15]) rfl (zeo (e1:=[#v[kdW m r,6],#v[(w:Nat),0],#v[(m:Nat),0],Zb,Zb,Zb,Zb]) ?_ (zeo ?_ (zeo l (zeo (set_ev b rfl) (zeo (e1:=#v[2,15]) ?_ ?_))))) rfl
 ·unfold kdW
  simp_arith [n]
 ·simp_arith []
 ·simp_arith [s]
 ·simp_arith [A]
theorem zfx {α:Type}{cap:Cap}{T:Tg}{it:GL}{te:GE}{en e0:En}{ts:List α} (P:En->Prop) (f g:α->W) (p:it en=Za (e0,ts.map f)) (y:ts.length<=100000) (o:zcu cap=Zd) (t:P (zfi cap e0)) (m:∀c,P c->zas cap e0 c=e0) (u:∀c a,P c->a∈ts->∃e j b,tgSet (capKeep cap) T (f a) c=Za e/\te e=Za (j,(g a,b))/\P j):zbu cap T it gYes te en=Za (e0,(.lst (ts.map g),Zd)):=by
 have x:(100000:Nat)<=sizeLine:=by decide
 obtain ⟨q,out,k,h⟩:=zez (λi c l=>P c/\l=(ts.take i).map g) p o (by rw [Af];symm) ⟨t,rfl⟩
  (λi w c l d h=>by
   obtain⟨h,rfl⟩:=h;rw[Ar] at d;cases ha:ts[i]? with
   |none=>rw[ha] at d;exact noSome d
   | some a =>
    rw[ha] at d;obtain rfl:=sI d;obtain⟨e,j,b,r,n,s⟩:=u c a h (Bm ha);have v:ts.take (i+1)=ts.take i++[a]:=by rw[Cs,ha];rfl
    exact⟨e,r,.inl ⟨_,_,_,rfl,n,s,by rw[v,Bw];rfl⟩⟩)
 obtain⟨h,rfl⟩:=h;rw[m _ h,Af,Cn] at k;exact k
noncomputable def ztt (Φ:Fn):Prop:=∀(T:List Nat) (x:W),(x=.tup (castL T)\/x=.lst (castL T))->T.length<=6->(∀l∈T,l<6)->Φ [x]=Za ([x],(.lst (castL (al T)),Zd))
theorem z5u (T:List Nat)(l:Nat):al (T++[l])=al T++(al T).map (· + 2^l):=by
 unfold al;rw[Hn];rfl
theorem ybb:∀T:List Nat,(al T).length=2^T.length:=λT=>by
 have g:∀(T L:List Nat),(T.foldl (λL l=>L++L.map (· + 2^l)) L).length=L.length*2^T.length:=λT=>by
  induction T with
  |nil=>intro L;rw[Ez,Nat.mul_one];rfl
  | cons l T i =>
   intro L;rw[List.foldl_cons,i,Be,Af,Bf,Nat.pow_succ,<-Nat.two_mul,Nat.mul_comm 2,Nat.mul_assoc,Nat.mul_comm 2]
 unfold al;rw[g,List.length_singleton,Nat.one_mul]
theorem zx9 {Ψ:Str->Fn}{L:List Nat}{l:Nat}{b:Bool}{v0:Option (W×Bool)}(i:l<6)(g:L.length<=64):zc0 Ψ [v0,Za (.lst (castL L),b),#v[(l:Nat),0]]=Za ([v0,#v[(castL L),1],#v[(l:Nat),0]],(.lst (castL (L.map (· + 2^l))),Zd)):=by
 have d:=pow1 (l:=l) #v[];unfold zc0 castL;rw[Ce];refine zfx (λc=>∃u a,c=[u,a,#v[(l:Nat),0]]) (λq:Nat=>W.int (q:Nat)) ((λp:Nat=>W.int p) ∘ λx=>x+2^l) (by cases b<;>rfl) #v[] rfl ⟨_,_,rfl⟩ (λc ⟨_,_,e⟩=>by rw[e];rfl) λc q h _=>?_;obtain⟨u,a,rfl⟩:=h;have f:(q:Int)+((2^l:Nat):Int)=((q+2^l:Nat):Int):=by symm
 refine⟨[u,#v[(q:Nat),0],#v[(l:Nat),0]],[u,#v[(q:Nat),0],#v[(l:Nat),0]],Zc,rfl,?_,_,_,rfl⟩;show _=Za ([u,#v[(q:Nat),0],#v[(l:Nat),0]],(W.int ((q+2^l:Nat):Int),Zc))
 simp_arith [d,zbd,f]
theorem z06 (Ψ:Str->Fn):ztt (zad [Zc] 3 (zdi Ψ)):=λT x n hT m=>by
 have j:=sizeLine_eq;have f:∃a,ze4 Ψ [#v[x,6],#v[[.int 0],2],Zb]=Za ([#v[x,6],#v[(castL (al T)),2],a],.nx):=by
  obtain⟨q,h,a,rfl⟩:=zbz (mp:=[]) (T:=.nm 2) (body:=zc1 Ψ) (it:=zax (gVar 0)) (en:=[#v[x,6],#v[[.int 0],2],Zb]) (λi e=>∃a,e=[#v[x,6],#v[(castL (al (T.take i))),2],a]) (by rcases n with rfl|rfl<;>rfl) ⟨_,rfl⟩ λi w e g p=>by
   obtain⟨a,rfl⟩:=p;unfold castL at g;rw[Ar] at g;obtain⟨l,k,rfl⟩:=Eu.mp g;have t:T.take (i+1)=T.take i++[l]:=by rw[Cs,k];rfl
   have d:(al (T.take i)).length<=64:=by
    rw[ybb,Cu];show _<=2^6;exact Fh #v[0,9] #v[]
   have c:=zx9 (Ψ:=Ψ) (b:=Zd) (v0:=#v[x,6]) (m l (Bm k)) d;have o:oAdd (.lst (castL (al (T.take i)))) (.lst (castL ((al (T.take i)).map (· + 2^l))))=#v[(castL (al (T.take (i+1)))),2]:=by
    rw[t,z5u,show castL (al (T.take i)++(al (T.take i)).map (· + 2^l))=castL (al (T.take i))++castL ((al (T.take i)).map (· + 2^l)) from Bw];exact zuf (by rw[castL_len,castL_len,Af];symm)
   refine⟨_,[#v[x,6],#v[(castL (al (T.take (i+1)))),2],#v[(l:Nat),0]],rfl,.inl ?_,_,rfl⟩;unfold zc1
   simp_arith [c,o]
  rw[castL_len,Cn] at h;exact⟨_,h⟩
 obtain⟨a,f⟩:=f;refine zan (en:=[#v[x,6],Zb,a]) rfl (zeo ?_ (zeo f ?_)) rfl
 ·simp_arith []
 ·simp_arith []
theorem zx1 (n:Bool) (l:Nat) (T:List Nat):oIn n (.int (l:Nat)) (tmW T)=Za (.bl (if n then !T.contains l else T.contains l),Zc):=by
 have a:∀T:List Nat,(T.map λl:Nat=>W.int (l:Nat)).all zgg=Zd:=λT=>by
  induction T with
  |nil=>rfl
  |cons x T i=>rw[Ax,Bv,i];rfl
 have b:∀T:List Nat,((T.map λl:Nat=>W.int (l:Nat)).any λy=>eqF y (.int (l:Nat)))=T.contains l:=λT=>by
  induction T with
  |nil=>rfl
  | cons x T i =>
   rw[Ax,Dy];congr 1;show decide ((x:Int)=(l:Int))=(l==x);by_cases c:l=x
   ·subst c;rw[Aj rfl,beq_self_eq_true]
   ·rw[At #v[]];exact (El.mpr c).symm
 show (if zgg (.int (l:Nat))&&(T.map λl:Nat=>W.int (l:Nat)).all zgg then _ else Zb)=_;rw[a T,b T];rfl
theorem z23 (as:List Int):eqD (.lst (as.map W.int)) (.lst (as.map W.int))=Za Zd/\eqD (.tup (as.map W.int)) (.tup (as.map W.int))=Za Zd:=by
 have d:=zna W.int .int (λ_=>by rw[dW]) as;have l:(PyData.list (as.map .int)).canLay0=Zd:=by rw[PyData.canLay0];exact zdu _ _ λn h=>by rw[PyData.canLay0]
 have a:(PyData.tuple (as.map .int)).canLay0=Zd:=by rw[PyData.canLay0];exact zdu _ _ λn h=>by rw[PyData.canLay0]
 have e:=zfh PyData.int as λn h=>by rw[PyData.depth];exact Ag _
 have c:(PyData.list (as.map .int)).depth<=100:=by rw[PyData.depth];symm
 have b:(PyData.tuple (as.map .int)).depth<=100:=by rw[PyData.depth];symm
 constructor
 ·unfold eqD;rw[dW,d];show (if (PyData.list (as.map .int)).canLay0&&(PyData.list (as.map .int)).canLay0&&decide ((PyData.list (as.map .int)).depth<=100) then Za (PyData.eqv (.list (as.map .int)) (.list (as.map .int))) else Zb)=_;rw[l,Aj c,SeqAt.eqv_refl _ l];rfl
 ·unfold eqD;rw[dW,d];show (if (PyData.tuple (as.map .int)).canLay0&&(PyData.tuple (as.map .int)).canLay0&&decide ((PyData.tuple (as.map .int)).depth<=100) then Za (PyData.eqv (.tuple (as.map .int)) (.tuple (as.map .int))) else Zb)=_;rw[a,Aj b,SeqAt.eqv_refl _ a];rfl
theorem yda (as:List Int):oNe (.tup (as.map W.int)) (.tup (as.map W.int))=Za #v[1,8]:=by
 show (eqD _ _).bind _=_;rw[(z23 as).2];rfl
theorem z8s (as:List Int):oEq (.lst (as.map W.int)) (.lst (as.map W.int))=Za #v[8,10]:=by
 show (eqD _ _).bind _=_;rw[(z23 as).1];rfl
theorem ya3 (L:List Nat):oEq (.lst (castL L)) (.lst [])=Za (.bl L.isEmpty,Zc):=by
 cases L with
 |nil=>exact z8s []
 | cons l L =>
  have e:eqD (.lst (castL (l::L))) (.lst [])=Za Zc:=by
   have a:(PyData.list ((l::L).map λp:Nat=>PyData.int (p:Int))).canLay0=Zd:=by rw[PyData.canLay0];exact zdu _ _ λn h=>by rw[PyData.canLay0]
   have d:(PyData.list ((l::L).map λp:Nat=>PyData.int (p:Int))).depth<=100:=by
    rw[PyData.depth];have:=zfh (λp:Nat=>PyData.int (p:Int)) (l::L) λn h=>by rw[PyData.depth];exact Ag _
    symm
   have b:dWs (castL (l::L))=Za ((l::L).map λp:Nat=>PyData.int (p:Int)):=zna (λp:Nat=>W.int (p:Int)) (λp:Nat=>PyData.int (p:Int)) (λ_=>by rw[dW]) _;unfold eqD;rw[dW,b];show (if (PyData.list ((l::L).map λp:Nat=>PyData.int (p:Int))).canLay0&&(PyData.list []).canLay0&&decide ((PyData.list ((l::L).map λp:Nat=>PyData.int (p:Int))).depth<=100) then Za (PyData.eqv (.list ((l::L).map λp:Nat=>PyData.int (p:Int))) (.list [])) else Zb)=_;rw[a,Aj d];rfl
  show (eqD _ _).bind _=_;rw[e];rfl
theorem zipW_map {α:Type} (f g:α->W):∀L:List α,zipW (L.map f) (L.map g)=L.map λa=>.tup [f a,g a]
 |[]=>rfl
 | a::L=>by
  show W.tup [f a,g a]::zipW (L.map f) (L.map g)=_;rw[zipW_map f g L];rfl
theorem zw4:∀L:List Nat,keysF (castL L)=Za (L.map λl:Nat=>(Sum.inl (l:Int):Key))
 |[]=>rfl
 | l::L=>by
  show (keysF (castL L)).bind _=_;rw[zw4 L];rfl
theorem zvi (h:Nat->W):∀L M:List Nat,(M++L).Nodup->updW ((L.map λl:Nat=>(Sum.inl (l:Int):Key)).zip (L.map h)) (M.map dkN) (M.map h)=((M++L).map dkN,(M++L).map h)
 |[],M,_=>by rw[Cf];rfl
 | w::L,M,n=>by
  have a:w ∉ M:=λz=>(List.nodup_append.mp n).2.2 w z w Au rfl;show updW ((L.map _).zip (L.map h)) (zff (M.map dkN) (dkN w)) (zfg (M.map dkN) (M.map h) (dkN w) (h w))=_;rw[z0f zmm a,zyo zmm _ _ a];have e:=zvi h L (M++[w]) (by rw[Bd];exact n);rw[Bw,Bw,Bd] at e;exact e
noncomputable def tolW (O:List Nat) (h:Nat->W):W:=.dct (O.map dkN) (O.map h)
theorem dz_e {g g':GE}{en e1 e:En}{L:List Nat}{h:Nat->W}{f1 f2:Bool}(b:g en=Za (e1,(.lst (castL L),f1)))(a:g' e1=Za (e,(.tup (L.map h),f2)))(nd:L.Nodup)(c:L.length<=64):gDZ g g' en=Za (e,(tolW L h,Zd)):=by
 have s:(100:Nat)<=sizeLine:=by decide
 have u:=zvi h L [] nd;have u:updW ((L.map λl:Nat=>(Sum.inl (l:Int):Key)).zip (L.map h)) [] []=(L.map dkN,L.map h):=u;unfold gDZ;rw[b];show (g' e1).bind _=_;rw[a];show (keysF (castL L)).bind _=_;rw[zw4];show (if (L.map _).length=(L.map h).length/\(L.map _).length<=sizeLine then Za (e,(W.dct (updW ((L.map _).zip (L.map h)) [] []).1 (updW ((L.map _).zip (L.map h)) [] []).2,Zd)) else Zb)=_;rw[u,if_pos ⟨by rw[Af,Af],by rw[Af];symm⟩]
 rfl
theorem z2u {O:List Nat}{h:Nat->W}{p:Nat}(a:p∈O):oIxD (tolW O h) (.int (p:Nat))=#v[h p,6]:=by
 show (valW ((O.map dkN).zip (O.map h)) (dkN p)).bind _=_;rw[zsy zmm,if_pos a];rfl
theorem z4k (a b:List W) (h:a.length+b.length<=1000):oAdd (.tup a) (.tup b)=Za (.tup (a++b),Zc):=by
 have s:(1000:Nat)<=sizeLine:=by decide
 cases a with
 |nil=>rfl
 | cons x c =>
  show (match (if (x::c).length+b.length<=sizeLine then #v[W.tup (x::c++b),6] else Zb) with|some p=>Za p|none=>_)=_;rw[if_pos #v[]]
noncomputable abbrev OW:=Option (W×Bool)
theorem yb4 {Ψ:Str->Fn}{v0 v1 v2 v3 v4 v7 v8 v9 v10 v11:OW}{L:List Nat}(f g:Nat->Int)(d:L.length<=64):zb5 Ψ #v[5,13]=Za (#v[5,13],(.lst ((L.map λp=>(f p+g p)%2).map W.int),Zd)):=by
 rw[Ce,Ce,Ce];refine zfx (λc=>∃u a b,c=[u,a,b]) (λp=>.tup [(W.int ∘ f) p,(W.int ∘ g) p]) (W.int ∘ λp=>(f p+g p)%2) ?_ #v[] rfl ⟨_,_,_,rfl⟩ (λc ⟨_,_,_,e⟩=>by rw[e];rfl) λc p h _=>?_
 ·rw[<- zipW_map]
  simp_arith []
 ·obtain⟨u,a,b,rfl⟩:=h;refine⟨[u,#v[(f p),0],#v[(g p),0]],[u,#v[(f p),0],#v[(g p),0]],Zc,rfl,?_,_,_,_,rfl⟩;show _=Za ([u,#v[(f p),0],#v[(g p),0]],(W.int ((f p+g p)%2),Zc))
  simp_arith []
theorem yby {Ψ:Str->Fn}{v0 v2 v3 v5 v6 v7 v8 v9 v10 v11:OW}{m:Nat}{T:List Nat}(h:m<=6):zb3 Ψ #v[5,16]=Za (#v[5,16],(.lst (castL (rstL m T)),Zd)):=by
 refine znc (xs:=[#v[tmW T,6]]) (λl:Nat=>W.int (l:Nat)) (λl=>!T.contains l) (λl:Nat=>W.int (l:Nat)) (by rw[<-zpp];exact zte (by simp_arith []) #v[]) (by rw[Cq];symm) rfl rfl rfl (λ_ _=>rfl) λu l _=>?_;have i:=zx1 Zd l T;exact⟨#v[(l:Nat),0],by simp_arith [i],λ_=>⟨#v[(l:Nat),0],Zc,rfl⟩⟩
theorem ybw {Ψ:Str->Fn}{v0 v1 v2 v3 v4 v5 v6 v9 v10 v11:OW}{x:Nat}{L:List Nat}{b:Bool}(h:L.length<=64):zb6 Ψ [v0,v1,v2,v3,v4,v5,v6,Za (.lst (castL L),b),#v[(x:Nat),0],v9,v10,v11]=Za ([v0,v1,v2,v3,v4,v5,v6,#v[(castL L),1],#v[(x:Nat),0],v9,v10,v11],(.lst (castL (L.filter (!· == x))),Zd)):=by
 refine znc (xs:=[#v[(x:Nat),0]]) (λl:Nat=>W.int (l:Nat)) (!· == x) (λl:Nat=>W.int (l:Nat)) (by cases b<;>rfl) #v[] rfl rfl rfl (λ_ _=>rfl) λu l _=>?_;have d:decide ((l:Int)=(x:Int))=(l==x):=by
  by_cases c:l=x
  ·subst c;rw[Aj rfl,beq_self_eq_true]
  ·rw[At #v[]];exact (El.mpr c).symm
 exact⟨#v[(l:Nat),0],by simp_arith [d],λ_=>⟨#v[(l:Nat),0],Zc,rfl⟩⟩
theorem ydd {Ψ:Str->Fn}{v0 v1 v2 v3 v4 v5 v6 v7 v11:OW}{x:Nat}{O S:List Nat}{h:Nat->Int}{b:Bool}(hS:S.length<=64)(n:x<7)(a:∀p∈S,p∈O/\p+2^x∈O):zb8 Ψ [v0,v1,v2,v3,v4,v5,v6,v7,#v[(x:Nat),0],#v[tolW O (W.int ∘ h),5],Za (.lst (castL S),b),v11]=Za ([v0,v1,v2,v3,v4,v5,v6,v7,#v[(x:Nat),0],#v[tolW O (W.int ∘ h),5],#v[(castL S),1],v11],(.lst ((S.map λp=>(h p+h (p+2^x))%2).map W.int),Zd)):=by
 have j:=pow1 (l:=x) #v[];rw[Ce];refine zfx (λc=>∃u d,c=[u,d,#v[(x:Nat),0],#v[tolW O (W.int ∘ h),5]]) (λq:Nat=>W.int (q:Nat)) (W.int ∘ λp=>(h p+h (p+2^x))%2) (by cases b<;>rfl) #v[] rfl ⟨_,_,rfl⟩ (λc ⟨_,_,e⟩=>by rw[e];rfl) λc p k f=>?_;obtain⟨u,d,rfl⟩:=k;have g:oIxD (tolW O (W.int ∘ h)) (.int (p:Nat))=#v[(h p),0]:=z2u (a p f).1;have i:oIxD (tolW O (W.int ∘ h)) (.int ((p+2^x:Nat):Int))=#v[(h (p+2^x)),0]:=z2u (a p f).2;have m:(p:Int)+((2^x:Nat):Int)=((p+2^x:Nat):Int):=by symm
 refine⟨[u,#v[(p:Nat),0],#v[(x:Nat),0],#v[tolW O (W.int ∘ h),5]],[u,#v[(p:Nat),0],#v[(x:Nat),0],#v[tolW O (W.int ∘ h),5]],Zc,rfl,?_,_,_,rfl⟩;show _=Za ([u,#v[(p:Nat),0],#v[(x:Nat),0],#v[tolW O (W.int ∘ h),5]],(W.int ((h p+h (p+2^x))%2),Zc))
 simp_arith [j,zbd,m,g,i]
noncomputable def SrOk (Φ:Fn):Prop:=∀(k m a b:Nat) (c:W) (T:List Nat),HS k c->k+100<big->m<=6->T∈zab m m->∃s,Φ [c,.int (m:Nat),.int (a:Nat),.int (b:Nat),tmW T]=Za ([s,.int (m:Nat),.int (a:Nat),.int (b:Nat),tmW T],#v[8,10])/\HS (k+1) s
theorem ycy {Ψ:Str->Fn}(hK:zkp (Ψ "_law_take"))(u:zgz (Ψ "votes"))(hX:XorN (Ψ "plus"))(Z:ztt (Ψ "_law_along")):SrOk (zad [Zd,Zc,Zc,Zc,Zc] 12 (zcg Ψ)):=λk m a b st T hs hk d hT=>by
 have C:=ch_t d hT;have V:=u m a T d hT;have vb:=u m b T d hT;have P:=u m (a ^^^ b) T d hT;have x:=hX a b;have p6:=zg6 d;have Y:(oth m T).length<=64:=by
  unfold oth;have:=Fb (λp=>p &&& zal T==0) (List.range (2^m));rw[Cq] at this;symm
 have es:(oth m T).map (bitN (SN T (a ^^^ b)))=(oth m T).map λp=>(bitN (SN T a) p+bitN (SN T b) p)%2:=Dv λp _=>by
  unfold bitN;rw[zee,zee,zee,funext (Dt a b),zv9];cases DT T a.testBit p<;>cases DT T b.testBit p<;>rfl
 rw[es] at P;have c1:=λo J z i f=>yb4 (Ψ:=Ψ) (v0:=#v[st,5]) (v1:=#v[(m:Nat),0]) (v2:=#v[(a:Nat),0]) (v3:=#v[(b:Nat),0]) (v4:=#v[tmW T,6]) (v7:=o) (v8:=J) (v9:=z) (v10:=i) (v11:=f) (bitN (SN T a)) (bitN (SN T b)) Y;have c2:=λo=>yby (Ψ:=Ψ) (v0:=#v[st,5]) (v2:=#v[(a:Nat),0]) (v3:=#v[(b:Nat),0]) (v5:=#v[(((oth m T).map (bitN (SN T a))).map W.int),3]) (v6:=#v[(((oth m T).map (bitN (SN T b))).map W.int),3]) (v7:=o) (v8:=Zb) (v9:=Zb) (v10:=Zb) (v11:=Zb) (T:=T) d;have N:∀L:List W,za5 [.lst L]=#v[L,3]:=λ_=>rfl;have X:=yda ((oth m T).map λp=>(bitN (SN T a) p+bitN (SN T b) p)%2);have j:=ya3 (rstL m T);have U:(rstL m T).length<=6:=by
  unfold rstL;have:=Fb (λl=>!T.contains l) (List.range m);rw[Cq] at this;symm
 have I:∀l∈rstL m T,l<6:=λl E=>by have:=By.mp (Bq.mp E).1;symm
 have al:=Z (rstL m T) (.lst (castL (rstL m T))) (.inr rfl) U I;rw[<-C.ot] at al;have K:((oth m T).map (bitN (SN T a))).map W.int=(oth m T).map (W.int ∘ bitN (SN T a)):=Ce;generalize hAA:((oth m T).map (bitN (SN T a))).map W.int=A at *
 generalize hBB:((oth m T).map (bitN (SN T b))).map W.int=B at *
 have n:(rstL m T).isEmpty=Zd\/(rstL m T).isEmpty=Zc:=by cases (rstL m T).isEmpty<;>simp
 rcases n with n|n
 ·rw[n] at j;refine⟨st,?_,hs.mono #v[]⟩;refine zan (en:=#v[8,7]) rfl (za3 (e1:=#v[3,8]) ?_ (za3 (e1:=#v[3,8]) ?_ (za3 (e1:=#v[8,7]) ?_ (seq_rt ?_)))) rfl
  ·simp_arith [V,vb]
  ·simp_arith [x,P,c1,N,X]
  ·simp! [c2]
  ·generalize castL (rstL m T)=R at *
   simp_arith [j]
 ·rw [n] at j;have l0:0<(rstL m T).length:=by
   rcases Nat.eq_zero_or_pos (rstL m T).length with c|c
   ·rw[List.length_eq_zero_iff.mp c] at n;cases n
   ·exact c
  obtain⟨st',r,e,g1,r0,r1⟩:=hK k st ((rstL m T).length:Nat) hs #v[] #v[] #v[];obtain⟨r,rfl⟩:=Gd r0;have rl:r<(rstL m T).length:=by symm
  have hx:∃y,atI (castL (rstL m T)) (r:Nat)=Za (W.int (y:Nat))/\y∈rstL m T:=⟨(rstL m T)[r],zbh (by unfold castL;rw[Ar,Ad rl];rfl),Fv rl⟩;obtain⟨y,ay,q⟩:=hx;have y6:=I y q;have ny:y ∉ T:=by
   have:=(Bq.mp q).2;rw[Ff,List.contains_eq_mem,decide_eq_false_iff_not] at this;exact this
  have t:=C.more y q;unfold chI at t;rw[Ac,Ac] at t;have hU:=Ao t.1;have D:=ch_t d hU;have H:=Ao t.2.1;have lf:(rstL m (insN y T)).length<=6:=by
   rw[<-H];exact Bu (Fb ..) U
  have S:=ybw (Ψ:=Ψ) (v0:=#v[st',5]) (v1:=#v[(m:Nat),0]) (v2:=#v[(a:Nat),0]) (v3:=#v[(b:Nat),0]) (v4:=#v[tmW T,6]) (v5:=#v[A,3]) (v6:=#v[B,3]) (v9:=#v[tolW (oth m T) (W.int ∘ bitN (SN T a)),5]) (v10:=Zb) (v11:=Zb) (x:=y) (L:=rstL m T) (b:=Zc) #v[];rw[H] at S;have s:=Z (rstL m (insN y T)) (.lst (castL (rstL m (insN y T)))) (.inr rfl) lf λl E=>I l (by rw[<-H] at E;exact (Bq.mp E).1);rw[<-D.ot] at s;have M:(oth m (insN y T)).length<=64:=by
   rw[D.ln];exact zg6 #v[]
  have c4:=ydd (Ψ:=Ψ) (v0:=#v[st',5]) (v1:=#v[(m:Nat),0]) (v2:=#v[(a:Nat),0]) (v3:=#v[(b:Nat),0]) (v4:=#v[tmW T,6]) (v5:=#v[A,3]) (v6:=#v[B,3]) (v7:=#v[(castL (rstL m T)),1]) (v11:=Zb) (x:=y) (O:=oth m T) (h:=bitN (SN T a)) (b:=Zd) M #v[] λp w=>⟨(zmo (λ_=>Zd) d C q w).1,(zmo (λ_=>Zd) d C q w).2.1⟩;have F:=u m a (insN y T) d hU;have em:(oth m (insN y T)).map (bitN (SN (insN y T) a))=(oth m (insN y T)).map λp=>(bitN (SN T a) p+bitN (SN T a) (p+2^y))%2:=Dv λp w=>by
   have:=(zmo a.testBit d C q w).2.2;unfold bitN;rw[zee,zee,zee,this];cases DT T a.testBit p<;>cases DT T a.testBit (p+2^y)<;>rfl
  rw[em] at F;have aq:=z8s ((oth m (insN y T)).map λp=>(bitN (SN T a) p+bitN (SN T a) (p+2^y))%2);generalize ((oth m (insN y T)).map λp=>(bitN (SN T a) p+bitN (SN T a) (p+2^y))%2).map W.int=Q at *
  have dz:=dz_e (g:=gCall [Zc] (Ψ "_law_along") #v[5,19]) (g':=gVar 5) (en:=#v[9,10]) (L:=oth m T) (e1:=[#v[st',5],#v[(m:Nat),0],#v[(a:Nat),0],#v[(b:Nat),0],#v[tmW T,6],#v[A,3],#v[B,3],#v[(castL (rstL m T)),1],#v[(y:Nat),0],Zb,Zb,Zb]) (f1:=Zd) (f2:=Zc) (by
   simp_arith [al]) (by rw[<-K];rfl) (List.nodup_range.filter _) Y
  have so:zji [.tup (castL T++[.int (y:Nat)])]=#v[(castL (insN y T)),2]:=by
   rw[<-zrl,zo6,zo6];show (zbs _).bind _=_;rw[zdv,<-zyi D ny];rfl
  have G:oAdd (tmW T) (.tup [.int (y:Nat)])=#v[(castL T++[.int (y:Nat)]),3]:=by
   exact z4k _ _ (by rw[Af,List.length_singleton];have:=(zww ⟨m,by symm⟩ T hT).2.2;have:T.length<=m:=this;symm)
  refine⟨st',?_,g1⟩;unfold zcg;generalize tolW (oth m T) (W.int ∘ bitN (SN T a))=DD at *
  refine zan (en:=#v[9,9]) rfl (za3 (e1:=#v[3,8]) ?_ (za3 (e1:=#v[3,8]) ?_ (za3 (e1:=#v[8,7]) ?_ (za3 (e1:=#v[8,7]) ?_ (za3 (e1:=#v[9,10]) ?_ (za3 (e1:=[#v[st',5],#v[(m:Nat),0],#v[(a:Nat),0],#v[(b:Nat),0],#v[tmW T,6],#v[A,3],#v[B,3],#v[(castL (rstL m T)),1],#v[(y:Nat),0],#v[DD,5],Zb,Zb]) ?_ (za3 (e1:=[#v[st',5],#v[(m:Nat),0],#v[(a:Nat),0],#v[(b:Nat),0],#v[tmW T,6],#v[A,3],#v[B,3],#v[(castL (rstL m T)),1],#v[(y:Nat),0],#v[DD,5],#v[(castL (oth m (insN y T))),2],Zb]) ?_ (za3 (e1:=#v[9,9]) ?_ ?_)))))))) rfl
  ·simp_arith [V,vb]
  ·simp_arith [x,P,c1,N,X]
  ·simp! [c2]
  ·generalize castL (rstL m T)=R at *
   simp_arith [j]
  ·have lR:(castL (rstL m T)).length=(rstL m T).length:=castL_len _;generalize castL (rstL m T)=R at *
   simp_arith [lR,e,ay]
  ·exact set_ev dz rfl
  ·generalize castL (oth m (insN y T))=O at *
   generalize castL (rstL m T)=R at *
   simp_arith [S,s]
  ·generalize castL (oth m (insN y T))=O at *
   generalize castL (rstL m T)=R at *
   simp_arith [c4]
  ·have oL:oList [.tup Q]=Za (.lst Q,Zd):=rfl;generalize castL (rstL m T)=R at *
   have F:Ψ "votes" #v[4,17]=Za (#v[4,17],(.tup Q,Zc)):=F
   simp_arith [G,so,N,F,oL,aq]
noncomputable def z1x (Φ:Fn):Prop:=∀m:Nat,m<=6->Φ [.int m,.int (-1)]=Za ([.int m,.int (-1)],(.lst [],Zd))
theorem z4h (Ψ:Str->Fn):z1x (zad [Zc,Zc] 4 (zqc Ψ)):=λm a=>by
 match m,a with
 |0,_=>kernel_rfl
 |1,_=>kernel_rfl
 |2,_=>kernel_rfl
 |3,_=>kernel_rfl
 |4,_=>kernel_rfl
 |5,_=>kernel_rfl
 |6,_=>kernel_rfl
 |m+7,h=>symm
noncomputable def z9c (Φ:Fn):Prop:=∀(k m:Nat) (a:W),HS k a->k+100<big->m<=6->∃s,Φ [a,.int (m:Nat),.int (-1)]=Za ([s,.int (m:Nat),.int (-1)],(.tup [],Zc))/\HS (k+66) s
theorem z88 {Ψ:Str->Fn}(hT:z1x (Ψ "_law_terms"))(hB:zlg (Ψ "_law_bits")):z9c (zad [Zd,Zc,Zc] 4 (zt1 Ψ)):=λk m st f i d=>by
 have t:=hT m d;obtain⟨st',j,b,g,x,_⟩:=hB k st 0 f i #v[0,9] #v[0,9];have a:zqh Ψ [#v[st,5],#v[(m:Nat),0],#v[(-1),0],#v[[],2]]=Za ([#v[st',5],#v[(m:Nat),0],#v[(-1),0],#v[[],1]],(.lst (([]:List Nat).map λ_=>W.non),Zd)):=by
  refine zj4 (λc=>c=[Zb,Zb,Zb]) (λ_=>W.non) (λ_=>W.non) (λ_=>Zd) ?_ (Bk _) rfl rfl (λc e=>by rw[e];rfl) λ_ _ _ h=>(Bb h).elim;simp! [b]
  rfl
 have o:za5 [.lst []]=#v[[],3]:=rfl;refine⟨st',?_,g⟩;refine zan (en:=[#v[st',5],#v[(m:Nat),0],#v[(-1),0],#v[[],1]]) rfl (za3 (e1:=[#v[st,5],#v[(m:Nat),0],#v[(-1),0],#v[[],2]]) ?_ ?_) rfl
 ·simp! [t]
 ·rw[Gn] at a;simp! [a,o]
noncomputable def ya8 (Φ:Fn):Prop:=∀(k m s:Nat) (c:W),HS k c->k+100<big->1<=m->m<=6->s<=m->∃(a:W) (b:List (List Nat)),Φ [c,.int (m:Nat),.int ((s:Int)-1)]=Za ([a,.int (m:Nat),.int ((s:Int)-1)],(.tup (b.map tmW),Zc))/\HS (k+66) a/\b.Nodup/\b.length<=64/\∀t∈b,t∈zab m m/\t.length<s
theorem z7t:∀m r:Fin 7,(zab m.val r.val).Nodup:=by decide +kernel
theorem yae {Φ:Fn} (j:zps Φ) (o:z9c Φ):ya8 Φ:=λk m s d f i q b h=>by
 cases s with
 | zero =>
  obtain⟨a,e,g⟩:=o k m d f i b;exact⟨a,[],e,g,Gm,Bk _,λ_ h=>(Bb h).elim⟩
 | succ s =>
  obtain⟨a,l,e,g,c⟩:=j k d m s f i b #v[];have V:=zmn b (show s<=m by symm);have n:((s+1:Nat):Int)-1=(s:Int):=by symm
  rw [n];exact ⟨a,l,e,g,(z7t ⟨m,by symm⟩ ⟨s,by symm⟩).sublist c,Bu c.length_le (zeq b (show s<=6 by symm)).1,λt p=>by
   have:=V.mem t (V.all t (c.subset p));exact⟨this.2.1,by symm⟩⟩
theorem zyt:∀j:Fin 7,zhq (List.replicate (2^j.val) 0) [0]=Zd/\zhq (List.replicate (2^j.val) 1) [1]=Zd:=by decide +kernel
noncomputable def TrOk (Φ:Fn):Prop:=∀(k m:Nat) (a:W) (T:List Nat),HS k a->k+100<big->1<=m->m<=6->T∈zab m m->∃s,Φ [a,.int (m:Nat),tmW T]=Za ([s,.int (m:Nat),tmW T],#v[8,10])/\HS (k+66) s
theorem zp3 {m w:Nat}{T:List Nat}{ts:List (List Nat)}(d:m<=6)(hT:T∈zab m m)(nd:ts.Nodup)(h:∀t∈ts,t∈zab m m/\t.length<=T.length)(e:∀p,p<2^m->w.testBit p=par ts p):(oth m T).map (bitN (SN T w))=List.replicate (2^(m-T.length)) (if T∈ts then 1 else 0):=by
 have C:=ch_t d hT;rw[<-C.ln,<-List.map_const'];refine Dv λp b=>?_;unfold bitN;rw[zee,ya0 C b e,yas C b nd λt a=>⟨(h t a).1,(zww ⟨m,by symm⟩ t (h t a).1).2.1,(h t a).2⟩];by_cases c:T∈ts
 ·rw[Aj c,if_pos c];rfl
 ·rw[At c,if_neg c];rfl
theorem yc5 {Ψ:Str->Fn}(M:ya8 (Ψ "_law_poly"))(n:zgz (Ψ "votes"))(V:XorN (Ψ "plus"))(hW:zdn (Ψ "word_of")):TrOk (zad [Zd,Zc,Zc] 4 (zcf Ψ)):=λk m U T N P K a hT=>by
 obtain⟨lt,X,O⟩:=zww ⟨m,by symm⟩ T hT;obtain⟨st',e,f,Q,nd,C,d⟩:=M k m T.length U N P K a O;have i:=hW m e a C ⟨nd,λt h=>(d t h).1⟩;obtain⟨w,F,_,_,j⟩:=zfy m e;rw[F] at i;have b:=hW m [T] a (show 1<=64 by decide) ⟨Bl.mpr ⟨Bb,Gm⟩,λt h=>by rw[Aw.mp h];exact hT⟩;obtain⟨u,B,_,_,S⟩:=zfy m [T];rw[B] at b;have x:=V w u;have o:T ∉ e:=λh=>Bp _ (d T h).2;have g:=n m w T a hT;rw[zp3 a hT nd (λt h=>⟨(d t h).1,Gk (d t h).2⟩) j,if_neg o] at g;have l:=n m (w ^^^ u) T a hT;rw[zp3 a hT (Bl.mpr ⟨o,nd⟩) (λt h=>by
  rcases Ak.mp h with rfl|h
  ·exact⟨hT,Ag _⟩
  ·exact⟨(d t h).1,Gk (d t h).2⟩) (λp q=>by
  rw[Dt,j p q,S p q];show (par e p ^^ (mono T p ^^ Zc))=(mono T p ^^ par e p);cases par e p<;>cases mono T p<;>rfl),if_pos Au] at l
 obtain⟨G,L⟩:=zyt ⟨m-T.length,by symm⟩;have r:2^(m-T.length)<=1000:=by have:=zg6 (show m-T.length<=6 by symm);symm
 have H:(List.replicate (2^(m-T.length)) (0:Int)).length<=1000:=by rw[Da];exact r
 have A:(List.replicate (2^(m-T.length)) (1:Int)).length<=1000:=by rw[Da];exact r
 generalize List.replicate (2^(m-T.length)) (0:Int)=R at *
 generalize List.replicate (2^(m-T.length)) (1:Int)=I at *
 have J:=z6a (as:=gCns #v[0,13] gA0) (en:=#v[9,7]) (e1:=#v[9,7]) (xs:=[.inl (.tup (R.map W.int))]) (by simp_arith [g]) rfl rfl H;have z:=z6a (as:=gCns #v[7,8] gA0) (en:=#v[9,7]) (e1:=#v[9,7]) (xs:=[.inl (.tup (I.map W.int))]) (by
  rw[Ax,Gn] at b
  simp_arith [b,x,l]) rfl rfl A
 have s:∀c:Int,gSI (gCns (gArg (zap (gCns (gArg (gC (.int c))) gA0))) gA0) #v[9,7]=Za (#v[9,7],[c]):=λc=>z6a (xs:=[.inl (W.lst [W.int c])]) (by simp_arith []) rfl rfl (by show 1<=1000;decide);refine⟨st',?_,Q⟩;unfold zcf gCS;have E:=s 0;have y:=s 1;have D:=castL_len T;refine zan (en:=#v[9,7]) rfl (za3 (e1:=#v[9,7]) ?_ (za3 (e1:=#v[9,7]) ?_ ?_)) rfl
 ·rw[tmW_cast] at *
  simp_arith [D,f,i]
 ·simp_arith [J,E,G]
 ·simp_arith [z,y,L]
theorem yam:∀m r:Fin 7,r.val<=m.val->(votL m.val r.val).length=(zab m.val r.val).length:=by decide +kernel
noncomputable def MrOk (Φ:Fn):Prop:=∀(k m r:Nat) (a:W),HS k a->k+100<big->1<=m->m<=6->r<=m->∃s,Φ [a,.int (m:Nat),.int (r:Nat)]=Za ([s,.int (m:Nat),.int (r:Nat)],#v[8,10])/\HS (k+66) s
theorem yb1 {Ψ:Str->Fn}{v0 v1 v2 v3 v4:OW}{m:Nat}{ts L:List (List Nat)}(b:L.length<=64):zb4 Ψ #v[8,16]=Za (#v[8,16],(.lst (L.map λ_=>W.bl Zd),Zd)):=by
 rw[Ce];refine zfx (λc=>∃u a,c=[u,a]) (rowW ∘ rowD m ts) (λ_=>W.bl Zd) rfl #v[] rfl ⟨_,_,rfl⟩ (λc ⟨_,_,e⟩=>by rw[e];rfl) λc T h _=>?_;obtain⟨u,a,rfl⟩:=h;refine⟨[u,#v[rowW (rowD m ts T),6]],[u,#v[rowW (rowD m ts T),6]],Zc,rfl,?_,_,_,rfl⟩;have s:gSl (zaa 1) (zd2 (gC (.int 1))) zbx [u,#v[rowW (rowD m ts T),6]]=Za ([u,#v[rowW (rowD m ts T),6]],(.tup [.int ((rowD m ts T).2.1:Nat),.int ((rowD m ts T).2.2:Nat)],Zc)):=rfl;have i:oIn Zc (.int 0) (.tup [.int ((rowD m ts T).2.1:Nat),.int ((rowD m ts T).2.2:Nat)])=Za #v[8,10]:=by
  unfold rowD;cases decide (T∈ts)
  ·show Za (W.bl (decide (((2^(m-T.length):Nat):Int)=0)||true),Zc)=_;rw[Bool.or_true]
  ·rfl
 generalize gSl (zaa 1) (zd2 (gC (.int 1))) zbx=G at *
 simp_arith [s,i]
theorem yb2 {Ψ:Str->Fn}(u:zps (Ψ "_law_poly"))(hT:zgu (Ψ "_law_terms"))(hW:zdn (Ψ "word_of"))(n:z2i (Ψ "mend")):MrOk (zad [Zd,Zc,Zc] 6 (zfb Ψ)):=λk m r B x A p b c=>by
 obtain⟨st',a,e,z,s⟩:=u k B m r x A b #v[];have V:=zmn b c;have j:=Bu s.length_le (zeq b (show r<=6 by symm)).1;have nd:=(z7t ⟨m,by symm⟩ ⟨r,by symm⟩:(zab m r).Nodup).sublist s;have f:=hW m a b j ⟨nd,λt h=>(V.mem t (V.all t (s.subset h))).2.1⟩;obtain⟨w,g,_,_,i⟩:=zfy m a;rw[g] at f;have d:=n m r w a ⟨p,b,c,nd,λt h=>s.subset h,i⟩ g;have o:=hT m r b #v[];have y:=yb1 (Ψ:=Ψ) (v0:=#v[st',5]) (v1:=#v[(m:Nat),0]) (v2:=#v[(r:Nat),0]) (v3:=#v[(w:Nat),0]) (v4:=#v[(w:Nat),0]) (m:=m) (ts:=a) V.ln;have al:oBl (λbs=>bs.all id) [.lst ((votL m r).map λ_=>W.bl Zd)]=Za #v[8,10]:=by
  show ((zko ((votL m r).map λ_=>W.bl Zd)).bind λbs=>#v[W.bl (bs.all id),6])=_;rw[show (votL m r).map (λ_=>W.bl Zd)=((votL m r).map λ_=>Zd).map W.bl from Ce.symm,zgf,List.map_const'];show #v[W.bl ((List.replicate _ Zd).all id),6]=_;rw[zya]
 have l:((votL m r).map (rowD m a)).map rowW=((votL m r).map (rowD m a)).map rowW/\(((votL m r).map (rowD m a)).map rowW).length=((zab m r).map tmW).length:=⟨rfl,by rw[Af,Af,Af];exact yam ⟨m,by symm⟩ ⟨r,by symm⟩ c⟩;have l:=l.2;unfold kdW at d;generalize ((votL m r).map (rowD m a)).map rowW=R at *
 generalize (zab m r).map tmW=TT at *
 have q:decide ((R.length:Int)=(TT.length:Int))=Zd:=Aj (by rw[l]);have C:decide ((w:Int)=(w:Int))=Zd:=Aj rfl;refine⟨st',?_,z⟩;refine zan (en:=#v[8,14]) rfl (za3 (e1:=[#v[st',5],#v[(m:Nat),0],#v[(r:Nat),0],#v[(w:Nat),0],Zb,Zb]) ?_ (za3 (e1:=#v[8,14]) ?_ ?_)) rfl
 ·simp_arith [e,f]
 ·simp_arith [d]
 ·simp_arith [y,al,o,q]
theorem terms_in:∀m:Fin 7,[]∈zab m.val m.val:=by decide +kernel
structure Fns (Ψ:Str->Fn):Prop where
 hK:zkp (Ψ "_law_take")
 hB:zlg (Ψ "_law_bits")
 hW:z2d (Ψ "_law_word")
 hT:zgu (Ψ "_law_terms")
 hS:SrOk (Ψ "_law_sums_right")
 hR:TrOk (Ψ "_law_term_right")
 hM:MrOk (Ψ "_law_mend_right")
theorem ybe {Ψ:Str->Fn}(F:Fns Ψ){k:Nat}{st:W}{v0 v2 v3 v4 v5 v6 v7:OW}(hs:HS k st)(hk:k+1000<big):∃q:W×OW×OW×OW×OW×OW,zti Ψ [v0,#v[st,5],v2,v3,v4,v5,v6,v7]=Za ([v0,#v[q.1,5],v2,q.2.1,q.2.2.1,q.2.2.2.1,q.2.2.2.2.1,q.2.2.2.2.2],.nx)/\HS (k+300) q.1:=by
 obtain⟨g,o,d,g1,K,a1⟩:=F.hK k st 6 hs #v[] #v[0,9] #v[0,9];obtain⟨o,rfl⟩:=Gd K;have h:∃m:Nat,(1:Int)+(o:Int)=(m:Int)/\1<=m/\m<=6:=⟨1+o,by symm,by symm,by symm⟩;obtain⟨m,em,A,h⟩:=h;have B:=zg6 h;have O:=pow1 (l:=m) #v[];obtain⟨j,x,L,g2,l2,P⟩:=F.hB (k+1) g ((2^m:Nat):Int) g1 #v[] (Ea _) (Int.ofNat_le.mpr B);obtain⟨c,y,H,g3,l3,J⟩:=F.hB (k+67) j ((2^m:Nat):Int) (g2.mono #v[]) #v[] (Ea _) (Int.ofNat_le.mpr B);obtain⟨a,ha,X⟩:=zfw x P;obtain⟨b,D,eb⟩:=zfw y J;have w:=F.hW x;have z:=F.hW y;have R:wordOf x=(a:Int):=by rw[X];exact zbj _ _ ha
 have n2:wordOf y=(b:Int):=by rw[eb];exact zbj _ _ D
 rw[R] at w;rw[n2] at z;have tr:=F.hT m m h h;have t0:0<(zab m m).length:=List.length_pos_iff.mpr λe=>by
  have:=(terms_in ⟨m,by symm⟩:[]∈zab m m);rw[e] at this;exact Bb this
 have t6:=(zeq h h).1;obtain⟨f,r,e4,g4,r0,r1⟩:=F.hK (k+133) c ((zab m m).length:Nat) (g3.mono #v[]) #v[] #v[] #v[];obtain⟨r,rfl⟩:=Gd r0;have C:r<(zab m m).length:=by symm
 have hx:∃T,atI ((zab m m).map tmW) (r:Nat)=Za (tmW T)/\T∈zab m m:=⟨(zab m m)[r],zbh (by rw[Ar,Ad C];rfl),Fv C⟩;obtain⟨T,E,hT⟩:=hx;obtain⟨n,M,g5⟩:=F.hS (k+134) m a b f T g4 #v[] h hT;obtain⟨i,N,g6⟩:=F.hR (k+135) m n T g5 #v[] A h hT;obtain⟨u,s,V,S,Q,s1⟩:=F.hK (k+201) i ((m+1:Nat):Int) g6 #v[] #v[] #v[];obtain⟨s,rfl⟩:=Gd Q;have t:(m:Int)+1=((m+1:Nat):Int):=by symm
 obtain⟨p,Y,Z⟩:=F.hM (k+202) m s u S #v[] A h #v[];have lt:((zab m m).map tmW).length=(zab m m).length:=Af ..;generalize (zab m m).map tmW=TT at *
 refine⟨(p,#v[(m:Nat),0],#v[(a:Nat),0],#v[(b:Nat),0],#v[TT,2],#v[tmW T,6]),?_,Z.mono #v[]⟩;generalize tmW T=U at *
 unfold zti;refine za3 (e1:=[v0,#v[g,5],v2,#v[(m:Nat),0],v4,v5,v6,v7]) ?_ (za3 (e1:=[v0,#v[c,5],v2,#v[(m:Nat),0],#v[(a:Nat),0],#v[(b:Nat),0],v6,v7]) ?_ (za3 (e1:=[v0,#v[c,5],v2,#v[(m:Nat),0],#v[(a:Nat),0],#v[(b:Nat),0],#v[TT,2],v7]) ?_ (za3 (e1:=[v0,#v[f,5],v2,#v[(m:Nat),0],#v[(a:Nat),0],#v[(b:Nat),0],#v[TT,2],#v[U,6]]) ?_ (za3 (e1:=[v0,#v[i,5],v2,#v[(m:Nat),0],#v[(a:Nat),0],#v[(b:Nat),0],#v[TT,2],#v[U,6]]) ?_ ?_))))
 ·simp_arith [d,em]
 ·simp_arith [O,zbd,L,H,w,z]
 ·simp_arith [tr]
 ·simp_arith [lt,e4,E]
 ·have G:=λas I=>gCall_mutE [Zc,Zc,Zc,Zc] (Ψ "_law_sums_right") as I rfl
  simp_arith [G,M,N,Bool.not_true,Bool.or_false]
 ·simp_arith [t,V,Y,Bool.not_true]
theorem z7q {Ψ:Str->Fn}(F:Fns Ψ){st:W}{ns:List Int}(y:ns.length<=63)(m:HS 0 st):∃en',z22 Ψ #v[9,16]=Za (Za #v[2,8]::en',.nx):=by
 have x:(20000:Nat)<big:=by decide
 have o:∃n:Nat,oMin [.int 8,.int (ns.length:Nat)]=#v[(n:Nat),0]/\n<=8:=by
  by_cases c:(ns.length:Int)<8
  ·exact⟨ns.length,by show Za (W.int (if (ns.length:Int)<8 then _ else _),Zc)=_;rw[if_pos c],by symm⟩
  ·exact⟨8,by show Za (W.int (if (ns.length:Int)<8 then _ else _),Zc)=_;rw[if_neg c];rfl,by symm⟩
 obtain⟨n,o,p⟩:=o;have b:∃j:Nat,oMax [.int 3,.int (n:Nat)]=#v[(j:Nat),0]/\j<=8:=by
  by_cases c:(n:Int) > 3
  ·exact⟨n,by show #v[W.int (if (n:Int) > 3 then _ else _),6]=_;rw[if_pos c],p⟩
  ·exact⟨3,by show #v[W.int (if (n:Int) > 3 then _ else _),6]=_;rw[if_neg c];rfl,by symm⟩
 obtain⟨j,b,u⟩:=b;have s:seqW (.frl (ns.map W.int))=Za (ns.map W.int):=rfl;obtain⟨en',h,q,rfl,_⟩:=zbz (mp:=[]) (T:=.nm 2) (λi e=>∃q:W×OW×OW×OW×OW×OW×OW,e=[Za #v[2,8],#v[q.1,5],q.2.1,q.2.2.1,q.2.2.2.1,q.2.2.2.2.1,q.2.2.2.2.2.1,q.2.2.2.2.2.2]/\HS (300*i) q.1) (zte (a:=#v[4,13]) (en:=#v[9,16]) (n:=j) (by simp! [s,Af,o,b]) #v[]) ⟨(st,Zb,Zb,Zb,Zb,Zb,Zb),rfl,m⟩ λi w e r l=>by
  obtain⟨q,rfl,g⟩:=l;obtain⟨t,rfl⟩:=zig r;obtain⟨d,f,k⟩:=ybe (Ψ:=Ψ) F g #v[];exact⟨_,_,rfl,.inl f,(d.1,#v[(0+(i:Int)),0],d.2),rfl,k.mono #v[]⟩
 exact⟨_,h⟩
theorem z1q (ns:List Int)(l:ns.length<=63):sem T bn 40 "law" [.frl (ns.map W.int)]=Za ([.frl (ns.map W.int)],#v[8,10]):=by
 rw[yc9];generalize h:sem T bn 39=Ψ;have q:z17 (Ψ "_law_hand"):=by rw[<-h];exact z4e (sem T bn 0)
 have hK:∀d,zkp (sem T bn (d+3) "_law_take"):=λd=>by rw[zn3];exact z47 (sem T bn 0)
 have c:∀d,zgu (sem T bn (d+3) "_law_terms"):=λd=>by rw[zft];exact zyb (sem T bn 0)
 have k:∀d,z4i (sem T bn (d+3) "says"):=λd=>by rw[z8a];exact z8l (z69 (sem T bn 0))
 have g:∀d,ze3 (sem T bn (d+3) "word_at"):=λd=>by rw[zj7];exact zq7 (sem T bn 0)
 have a:∀d,zzd (sem T bn (d+3) "plus"):=λd=>by rw[z7w];exact z3j (sem T bn 0)
 have f:∀d,z0c (sem T bn (d+3) "times"):=λd=>by rw[z3m];exact zz9 (sem T bn 0)
 have hB:∀d,zlg (sem T bn (d+5) "_law_bits"):=λd=>by rw[znr];exact z6d (hK _)
 have b:∀d,zdn (sem T bn (d+10) "word_of"):=λd=>by
  exact zru (g _) (by rw[zj7];exact znv (sem T bn 0)) (by rw[z4y];exact z0h (by rw[ztp];exact z32 (by rw[zn7];exact ycr (by rw[zwb];exact zr4 (sem T bn 0))) (f _) (a _)))
 have e:∀d,zph (sem T bn (d+3) "chosen_above"):=λd=>by rw[zhj];exact z4j (sem T bn 0)
 have i:∀d,zgz (sem T bn (d+5) "votes"):=λd=>by rw[z5g];exact zyc (zue (a _)) (f _) (g _) (k _)
 have m:∀d,zps (sem T bn (d+7) "_law_poly"):=λd=>by rw[zmt];exact z27 (c _) (hB _)
 have F:Fns Ψ:=by
  refine⟨?_,?_,?_,?_,?_,?_,?_⟩
  ·rw[<-h];exact hK 36
  ·rw[<-h];exact hB 34
  ·rw[<-h];exact z3q (sem T bn 0)
  ·rw[<-h];exact c 36
  ·rw[<- h];exact ycy (hK 35) (i 33) (zue (a _)) (by rw[zlj];exact z06 (sem T bn 0))
  ·rw[<- h];refine yc5 (yae (m 31) ?_) (i 33) (zue (a _)) (b 28);exact z88 (by rw[zft];exact z4h (sem T bn 0)) (hB _)
  ·rw[<- h];refine yb2 (m 31) (c 35) (b 28) ?_;refine z3a ?_ ?_ ?_ ?_
   ·rw[e_voted_terms];exact zz7 (by rw[z3l];exact z1m (Ψ':=sem T bn 0) (by rw[zhs];rfl))
   ·rw[e_vote_row];exact z4l (zue (a _)) (b 26) (e 33) (i 31)
   ·rw[e_word_by_votes];exact zyh (b 26) (e 33)
   ·rw[e_is_near];exact yak (λw=>by rw[zye];exact yb8 (by rw[z1l];exact zvw (sem T bn 0)) (zue (a _)) w) (by rw[z5c];exact zy4 (sem T bn 0))
 obtain⟨s,p,n⟩:=q ns l;obtain⟨j,o⟩:=z7q F l n;refine zan (en:=Za #v[2,8]::j) rfl (za3 ?_ (za3 o ?_)) rfl
 ·simp_arith [p]
 ·simp_arith []
noncomputable abbrev nA (K:Zg) (n:Str) (f:Zh):Prop:=PySem.W.nsIn K mainGlobals n=Za (Za (.ref f))
noncomputable abbrev nL (K:Zg) (f:Zh) (e:Ze) (o:Option Zh) (n:Str) (st:Stmt) (kV d p:Ze) (b:Option Zh) (c a:Ze) (s:Array (Option Ze)):Prop:=K.lookup f=Za ⟨e,o,.func (PySem.W.fnOf n n (zfa st) (zdg st) (zam st) .none kV d p b c a),s⟩
noncomputable abbrev nC (K:Zg) (c:Ze) (n:Str):Prop:=PySem.W.codeIn K c n=Zd
noncomputable abbrev nK (K:Zg) (f:Zh):Prop:=PySem.W.keepIn K (.ref f)=Zd
noncomputable def nD (K:Zg) (t:Fd):Prop:=∃(f:Zh) (e:Ze) (o:Option Zh) (kV d p:Ze) (b:Option Zh) (c a:Ze) (s:Array (Option Ze)),nA K t.nm f/\nL K f e o t.nm t.st kV d p b c a s/\nC K c t.nm/\nK K f
theorem nD_i {K:Zg}{n:Str}{t:Fd}{f:Zh}{i:Ze}{o:Option Zh}{kV g p:Ze}{h:Option Zh}{b d:Ze}{s:Array (Option Ze)}(e:t.nm=n)(a:nA K n f)(l:nL K f i o n t.st kV g p h b d s)(c:nC K b n)(k:nK K f):nD K t:=by
 subst e;exact⟨_,_,_,_,_,_,_,_,_,_,a,l,c,k⟩
noncomputable def bO (t:Fd):Prop:=FnScope t.N t.ps (zam t.st)/\t.m.length=t.ps.length/\∀(kV doc p:Ze) (a:Option Zh) (cdv c:Ze) (u:List Ze),u.length=t.ps.length->bindArgs (PySem.W.fnOf t.nm t.nm (zfa t.st) (zdg t.st) (zam t.st) .none kV doc p a cdv c) ⟨u,[]⟩=pure (t.ps.zip u)
theorem ycu {K:Zg}{h:Heap}{m:Str->Option Ze}(X:K.In h)(G:h.Ns mainGlobals m){t:Fd}(b:bO t)(e:t.nm∈lams->z0p K t.nm=Zd)(d:nD K t):FdOk K m t:=by
 obtain⟨f,q,o,kV,j,p,n,g,i,s,a,l,c,k⟩:=d;have F:=z19 (st:=t.st) l c k;exact⟨b.1,b.2.1,⟨_,_,F,F.binds b.2.2,PySem.W.mg_of X G a⟩,e⟩
theorem nd_T:(T.map (·.nm)).Nodup:=by decide +kernel
theorem all_c {α:Type}{P:α->Prop}{a:α}{l:List α}(h:P a)(r:∀x∈l,P x):∀x∈a::l,P x:=List.forall_mem_cons.mpr ⟨h,r⟩
theorem all_n {α:Type}{P:α->Prop}:∀x∈([]:List α),P x:=λ_ h=>nomatch h
@[elab_as_elim] theorem lenS {α:Type}{P:List α->Prop}{n:Nat} (u:List α) (b:u.length=n+1) (h:∀a l,l.length=n->P (a::l)):P u:=by
 cases u with
 |nil=>cases b
 |cons a l=>exact h a l (Nat.succ.inj b)
@[elab_as_elim] theorem len0 {α:Type}{P:List α->Prop} (u:List α) (b:u.length=0) (h:P []):P u:=by
 cases u with
 |nil=>exact h
 |cons a l=>cases b
@[elab_as_elim] theorem len1 {α:Type}{P:List α->Prop} (u:List α) (b:u.length=1) (h:∀a,P [a]):P u:=lenS u b λa l e=>len0 l e (h a)
@[elab_as_elim] theorem len2 {α:Type}{P:List α->Prop} (u:List α) (c:u.length=2) (h:∀a b,P [a,b]):P u:=lenS u c λa l e=>lenS l e λb l e=>len0 l e (h a b)
@[elab_as_elim] theorem len3 {α:Type}{P:List α->Prop} (u:List α) (d:u.length=3) (h:∀a b c,P [a,b,c]):P u:=lenS u d λa l e=>len2 l e (h a)
@[elab_as_elim] theorem len4 {α:Type}{P:List α->Prop} (u:List α) (f:u.length=4) (h:∀a b c d,P [a,b,c,d]):P u:=lenS u f λa l e=>len3 l e (h a)
@[elab_as_elim] theorem len5 {α:Type}{P:List α->Prop} (u:List α) (f:u.length=5) (h:∀a b c d e,P [a,b,c,d,e]):P u:=lenS u f λa l e=>len4 l e (h a)
theorem zrr:bO zep:=#v[4,7]
theorem z6h:bO zok:=#v[2,7]
theorem zxs:bO zfz:=#v[4,7]
theorem zrc:bO zet:=#v[4,7]
theorem z33:bO zpu:=#v[2,7]
theorem zzi:bO zih:=#v[2,7]
theorem zuu:bO zf4:=#v[2,7]
theorem zl1:bO zcp:=#v[2,7]
theorem zrd:bO zeu:=#v[4,8]
theorem zyz:bO zjv:=#v[2,7]
theorem zq1:bO zl7:=#v[2,7]
theorem zge:bO zbi:=#v[2,7]
theorem z0k:bO zjr:=#v[4,7]
theorem zzu:bO zjc:=#v[4,7]
theorem zq2:bO ze0:=#v[4,8]
theorem z1k:bO zjn:=#v[4,8]
theorem zhl:bO zbr:=#v[4,7]
theorem zgq:bO zbf:=#v[2,7]
theorem zm9:bO zdw:=⟨#v[0,0,5],rfl,λ_ _ _ _ _ _ u h=>len4 u h λ_ _ _ _=>rfl⟩
theorem zfv:bO za2:=#v[2,7]
theorem z65:bO z2j:=#v[2,7]
theorem zj6:bO zgm:=#v[4,7]
theorem zj3:bO zct:=#v[2,7]
theorem zku:bO zcx:=#v[2,7]
theorem zlk:bO zgc:=#v[4,7]
theorem zio:bO zb7:=#v[2,7]
theorem zma:bO zcr:=#v[4,8]
theorem ziy:bO zca:=#v[4,7]
theorem ze7:bO zck:=⟨#v[0,0,5],rfl,λ_ _ _ _ _ _ u h=>len5 u h λ_ _ _ _ _=>rfl⟩
theorem zew:bO zcj:=#v[4,8]
theorem zeg:bO zcn:=#v[4,8]
theorem ya5:bO znl:=#v[4,7]
theorem all_mk {l:PySem.W.OpenLaw}{w:World}{K:Zg}{h:Heap}{m:Str->Option Ze}{g:Zh} (X:K.In h) (G:h.Ns mainGlobals m) (b:m "law" = Za (.ref g)) (D:∀t∈T,nD K t) (M:∀x∈(["voted_terms","_law_terms","law"]:List Str),z0p K x=Zd) (Z:∀x∈bn,PySem.W.nsIn K mainGlobals x=Za Zb) :
  ∃i:FuncData,(∀(s:Zf) (v:Ze),BindsTo s i ⟨[v],[]⟩ [("_law_script",v)])/\∀base:Heap,K.In base->base.Ns mainGlobals m->FnOk l.prog w K m base CX0 40 g i ["_law_script"] (spF K [Zc] (sem T bn 40 "law")):=by
 have B:∀t∈T,bO t:=all_c zrr (all_c z6h (all_c zxs (all_c zrc (all_c z33 (all_c zzi (all_c zuu (all_c zl1 (all_c zrd (all_c zyz (all_c zq1 (all_c zge (all_c z0k (all_c zzu (all_c zq2 (all_c z1k (all_c zhl (all_c zgq (all_c zm9 (all_c zfv (all_c z65 (all_c zj6 (all_c zj3 (all_c zku (all_c zlk (all_c zio (all_c zma (all_c ziy (all_c ze7 (all_c zew (all_c zeg (all_c ya5 (all_n))))))))))))))))))))))))))))))));have q:∀t∈T,t.nm∈lams->t.nm∈(["voted_terms","_law_terms","law"]:List Str):=by decide +kernel
 obtain⟨f,C,H,kV,I,u,A,y,z,E,a,j,c,k⟩:=D znl (by simp [T]);have F:=z19 (st:=znl.st) j c k;have e:=b.symm.trans (PySem.W.mg_of X G a);cases e;exact⟨_,λs v=>.of_eq rfl,λbase p n=>zs4 nd_T (λt d=>ycu X G (B t d) (λo=>M _ (q t d o)) (D t d)) (λx r=>PySem.W.mg_none_of X G (Z x r)) p n (λh=>absurd h #v[0,0,7]) 40 znl (by simp [T]) _ _ F (PySem.W.mg_of X G a)⟩
theorem walk {l:PySem.W.OpenLaw}{q:Program}{b:List Str}{X:(Str->Option Ze)->Heap->Prop}{Y:World->Heap->Prop}{d:DefRec}{K:Params->Zg} (t:l.most=Za 63) (g:d.params.defaults=[])
  (y:∀(w:World) (h:Heap),Y w h->(K w.params).In h)
  (r:∀w:World,PySem.W.noTabs (K w.params)=Zd) (nd:∀w:World,zvg (K w.params)=Zd) (hrec:∀(w:World),∀x∈lams,∀c P,PySem.W.tabIn (K w.params) x=Za (c,P)->∃d,(recsOf q).find? (λe=>e.name==x)=Za d)
  (F:∀(w:World) (m:Str->Option Ze) (i:Zh) (h:Heap),(K w.params).In h->h.Ns mainGlobals m->m d.name=Za (.ref i) ->
   ∃j:FuncData,(∀(s:Zf) (u:Ze),BindsTo s j ⟨[u],[]⟩ [("_law_script",u)])/\∀base:Heap,(K w.params).In base->base.Ns mainGlobals m->FnOk l.prog w (K w.params) m base CX0 40 i j ["_law_script"] (spF (K w.params) [Zc] (sem T bn 40 "law"))) :
  PySem.W.WalkO q b X Y l.row.toRowW d [] (λf vs=>PySem.call f vs) :=
 L2.walk_ofT (n:=63) (k:=40) (x := "_law_script") (CX:=λ_=>CX0) (sp:=λw=>spF (K w.params) [Zc] (sem T bn 40 "law")) t #v[0,9] g ⟨rfl,by decide,by decide,rfl⟩ y r nd hrec F (λ_ _ _ a p A o hS=>zr0 o.sub o.tb hS (ws':=[.frl (p.map W.int)]) (z1q p A) rfl) λ_ _ _ _ _ z=>z
end My
open PySem PySem.W PyProof.Rows
set_option maxRecDepth 100000 in
set_option maxHeartbeats 0 in
theorem PySem.Challenge.cw_yesnowords_k53_votes_of_sums_holds : PySem.Challenge.rw_yesnowords_k53_votes_of_sums.Holds := by
 w_on;o_law;k_head;(case hw=>w_witness2)
 k_fill
 refine My.walk (l:=PySem.Challenge.rw_yesnowords_k53_votes_of_sums) rfl rfl (fun w h Y=>by first | exact PySem.W.kIn_of Y | exact PySem.W.km_in_of Y) ?nt ?nd ?hrec ?F
 case nt=>exact fun w=>by kernel_rfl
 case nd=>exact fun w=>by kernel_rfl
 case hrec =>
  intro w x hx c P e;simp only [L2.lams,Ak,Bb,Dk] at hx;rcases hx with rfl | rfl | rfl | rfl | rfl
  ·exact Ej.mp (by kernel_rfl)
  ·exact nomatch (Eq.trans (by kernel_rfl) e:(none:Option (Addr × Addr))=some (c,P))
  ·exact nomatch (Eq.trans (by kernel_rfl) e:(none:Option (Addr × Addr))=some (c,P))
  ·exact Ej.mp (by kernel_rfl)
  ·exact Ej.mp (by kernel_rfl)
 case F =>
  intro w mg fa h KX G hmg;refine My.all_mk KX G hmg ?xD ?xM ?xZ
  case xM=>exact My.all_c (by kernel_rfl) (My.all_c (by kernel_rfl) (My.all_c (by kernel_rfl) (My.all_n)))
  case xZ =>
   refine' My.all_c ?_ (My.all_c ?_ (My.all_c ?_ (My.all_c ?_ (My.all_c ?_ (My.all_c ?_ (My.all_c ?_ (My.all_c ?_ (My.all_c ?_ (My.all_c ?_ (My.all_c ?_ (My.all_c ?_ (My.all_c ?_ (My.all_c ?_ (My.all_c ?_ (My.all_c ?_ (My.all_c ?_ (My.all_c ?_ (My.all_n))))))))))))))))))
   any_goals k_is
  case xD =>
   refine' My.all_c (My.nD_i (n := "all_yes") rfl ?_ ?_ ?_ ?_) (My.all_c (My.nD_i (n := "says") rfl ?_ ?_ ?_ ?_) (My.all_c (My.nD_i (n := "weight") rfl ?_ ?_ ?_ ?_) (My.all_c (My.nD_i (n := "word_at") rfl ?_ ?_ ?_ ?_) (My.all_c (My.nD_i (n := "plus") rfl ?_ ?_ ?_ ?_) (My.all_c (My.nD_i (n := "times") rfl ?_ ?_ ?_ ?_) (My.all_c (My.nD_i (n := "unlike") rfl ?_ ?_ ?_ ?_) (My.all_c (My.nD_i (n := "letter_no") rfl ?_ ?_ ?_ ?_) (My.all_c (My.nD_i (n := "stepped") rfl ?_ ?_ ?_ ?_) (My.all_c (My.nD_i (n := "steps") rfl ?_ ?_ ?_ ?_) (My.all_c (My.nD_i (n := "word_of") rfl ?_ ?_ ?_ ?_) (My.all_c (My.nD_i (n := "longer_terms") rfl ?_ ?_ ?_ ?_) (My.all_c (My.nD_i (n := "terms") rfl ?_ ?_ ?_ ?_) (My.all_c (My.nD_i (n := "least") rfl ?_ ?_ ?_ ?_) (My.all_c (My.nD_i (n := "is_near") rfl ?_ ?_ ?_ ?_) (My.all_c (My.nD_i (n := "votes") rfl ?_ ?_ ?_ ?_) (My.all_c (My.nD_i (n := "voted_terms") rfl ?_ ?_ ?_ ?_) (My.all_c (My.nD_i (n := "chosen_above") rfl ?_ ?_ ?_ ?_) (My.all_c (My.nD_i (n := "vote_row") rfl ?_ ?_ ?_ ?_) (My.all_c (My.nD_i (n := "word_by_votes") rfl ?_ ?_ ?_ ?_) (My.all_c (My.nD_i (n := "mend") rfl ?_ ?_ ?_ ?_) (My.all_c (My.nD_i (n := "_law_hand") rfl ?_ ?_ ?_ ?_) (My.all_c (My.nD_i (n := "_law_take") rfl ?_ ?_ ?_ ?_) (My.all_c (My.nD_i (n := "_law_bits") rfl ?_ ?_ ?_ ?_) (My.all_c (My.nD_i (n := "_law_word") rfl ?_ ?_ ?_ ?_) (My.all_c (My.nD_i (n := "_law_terms") rfl ?_ ?_ ?_ ?_) (My.all_c (My.nD_i (n := "_law_poly") rfl ?_ ?_ ?_ ?_) (My.all_c (My.nD_i (n := "_law_along") rfl ?_ ?_ ?_ ?_) (My.all_c (My.nD_i (n := "_law_sums_right") rfl ?_ ?_ ?_ ?_) (My.all_c (My.nD_i (n := "_law_term_right") rfl ?_ ?_ ?_ ?_) (My.all_c (My.nD_i (n := "_law_mend_right") rfl ?_ ?_ ?_ ?_) (My.all_c (My.nD_i (n := "law") rfl ?_ ?_ ?_ ?_) (My.all_n))))))))))))))))))))))))))))))))
   any_goals (first | (delta My.nA;k_is) | (delta My.nL;k_is) | (delta My.nC;k_is) | (delta My.nK;k_is) | k_is)