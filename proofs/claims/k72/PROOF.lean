import PyProof.Rows.All
import Wide.All
import OpenK.AllK
import Wide.FinOn
import Lean
import PyProof.EqAt
import PyProof.EqKinds
import PyProof.TupleCall
import PySem.Challenge.RW_yesnowords_k72_words_written_and_read
set_option Elab.async false
set_option linter.all false
set_option compiler.extract_closed false
set_option bootstrap.genMatcherCode false
set_option maxRecDepth 100000
namespace PySem.W.Fast
def tw3937829629687654536:=0
def tw16682110499379436714:=0
def tw10184518476449406398:=0
def tw18437806411936699759:=0
def tw17869092940086096362:=0
def tw9215874064965578605:=0
def tw14138197069673320151:=0
def tw17710336572300585554:=0
def tw4962765783648882785:=0
def tw440208533073468972:=0
def tw13632896184138536113:=0
def tw12506501785687981586:=0
def tw7721892963693275169:=0
def tw12293706556960819786:=0
def tw10862336144625778870:=0
def tw6088433848619577638:=0
def tw15289394398952747820:=0
def tw8284621635367853168:=0
def tw6486941651157760210:=0
def tw17452645296482328401:=0
def tw12910214901373952229:=0
def tw3888713521856651872:=0
def tw3621093167835175367:=0
def tw18267198280694314902:=0
def tw3987177641635102377:=0
def tw11230793468187547518:=0
def tw12311516340276288303:=0
def tw16352622678374498067:=0
def tw8544651545598294298:=0
def tw2198142341916213571:=0
def tw6879808272433980149:=0
def tw13204631282366415418:=0
def tw443380833220497482:=0
def tw17707904514043009336:=0
def tw794863844254166767:=0
def tw7278753411032733034:=0
def tw17620643112095071042:=0
def tw3511880139300687295:=0
def tw11771837709853010831:=0
def tw13836419511278490263:=0
def tw6195569894115553697:=0
def tw12413912687963715238:=0
def tw12119348136438538236:=0
def tw14521176542684157579:=0
def tw2372744826335225678:=0
def tw695502137072334978:=0
def tw2132953230771154882:=0
def tw5172389824320235745:=0
def tw6232243015821998900:=0
def tw5678379487307443619:=0
def tw13560004857364109430:=0
def tw12396740420035735279:=0
def tw5790494794555180551:=0
def tw1933200771417537171:=0
def tw14788436311539568574:=0
def tw8963530180318359073:=0
def tw920955550344445806:=0
def tw748603407977621980:=0
def tw5211085085267338911:=0
def tw12472797362896129967:=0
def tw9106611418913771540:=0
def tw2985746671088190068:=0
def tw104091567200906080:=0
def tw3359142130176037222:=0
def tw741922839061406906:=0
def tw18293801856301970458:=0
def tw8899896581906853749:=0
def tw3649477132641492641:=0
def tw658976097370061195:=0
def tw51350040188940423:=0
def tw11049492066578874593:=0
def tw18331541579796750274:=0
def tw15584927719819571796:=0
def tw3742941918569990094:=0
def tw14321865524727270278:=0
def tw14075933609276557412:=0
def tw12040244403027654561:=0
def tw14479645327610985305:=0
def tw2337725294111164229:=0
def tw3067260282681709246:=0
def tw9217418102671768617:=0
def tw4028203040643125308:=0
def tw5617147736227003042:=0
def tw486812280109781719:=0
def tw4999553830713188799:=0
def tw14243457519512030028:=0
def tw4478516252866112155:=0
def tw513214901354697366:=0
def tw8092658244144708877:=0
def tw11258046753629086470:=0
def tw18125030887989965504:=0
def tw10447768547884056677:=0
def tw18378149887078925710:=0
def tw1815985564771316451:=0
def tw5568376750682374853:=0
def tw13306511806424602764:=0
def tw15326817549051533793:=0
def tw1275623164688317396:=0
def tw17390347493874692485:=0
def tw12184860022999042875:=0
def tw6942429902983326750:=0
def tw4659010306235992103:=0
def tw16665849529617501376:=0
def tw17278560445984993457:=0
def tw12139628500804168048:=0
def tw11778360094580699983:=0
def tw14132679443056501447:=0
def tw10239785509374883514:=0
def tw4152968782108030341:=0
def tw7609898940683509738:=0
def tw12449952299162659551:=0
def tw9565770350358274800:=0
def tw16948501385606576774:=0
def tw10376401559182872147:=0
def tw15917426195567324601:=0
def tw3295549411159060562:=0
def tw3407912085411589503:=0
def tw11482166730354956754:=0
def tw9427758685979614058:=0
def tw8950226091444221101:=0
end PySem.W.Fast
theorem bS {α β}{o:Option α}{f:α->Option β}{b} (h:o.bind f=some b):∃a,o=some a/\f a=some b:=Option.bind_eq_some_iff.mp h
theorem sI {α}{a b:α} (h:some a=some b):a=b:=Option.some.inj h
namespace L2
open PySem PySem.Spec PyProof.Rows
theorem aG {P:Prop} (h:∀G:Prop,(P->G)->G):P:=h P id
noncomputable abbrev Key:=Sum Int Str
noncomputable def zw7:Key->Value->Bool
 | .inl k,v=>Value.isInt k v
 | .inr x,v=>Value.isStrOf x v
noncomputable def keyH (w:World):Key->Int
 | .inl k=>hashInt k
 | .inr x=>hashStr w x
theorem keyIs_shape:∀{k:Key}{v:Value},zw7 k v=true->(∃i t,k=Sum.inl i/\v=Value.int i t)\/(∃x t,k=Sum.inr x/\v=Value.str x t)
  | .inl i,v,h=>by
    obtain ⟨t,e⟩:=Value.isInt_shape (k:=i) (v:=v) h;exact .inl ⟨i,t,rfl,e⟩
  | .inr x,v,h=>by
    obtain ⟨t,e⟩:=Value.isStrOf_shape (x:=x) (v:=v) h;exact .inr ⟨x,t,rfl,e⟩
theorem zwa (a b:Int):decide ((Sum.inl a:Key)=Sum.inl b)=(a == b):=by
 by_cases e:a=b
 ·subst e;simp
 ·have h : ¬ (Sum.inl a : Key) = Sum.inl b := fun q => e (Sum.inl.inj q);rw [decide_eq_false h];exact (beq_eq_false_iff_ne.mpr e).symm
theorem zyg (a b:Str):decide ((Sum.inr a:Key)=Sum.inr b)=decide (a=b):=by
 by_cases e:a=b
 ·subst e;simp
 ·have h : ¬ (Sum.inr a : Key) = Sum.inr b := fun q => e (Sum.inr.inj q);rw [decide_eq_false h,decide_eq_false e]
theorem zvn (a:Int) (b:Str):decide ((Sum.inl a:Key)=Sum.inr b)=false:=decide_eq_false (fun q=>nomatch q)
theorem zvx (a:Str) (b:Int):decide ((Sum.inr a:Key)=Sum.inl b)=false:=decide_eq_false (fun q=>nomatch q)
noncomputable def zm1 (prog:Program) (w:World):PySem.KeyKind prog w Key where
 is:=zw7
 hash:=keyH w
 inj:=fun v a b ha hb=>by
  rcases keyIs_shape ha with ⟨i,t,rfl,rfl⟩ | ⟨x,t,rfl,rfl⟩
  ·rcases keyIs_shape hb with ⟨j, u, rfl, e⟩ | ⟨y, u, rfl, e⟩
   ·injection e with e1 _;rw [e1]
   ·exact nomatch e
  ·rcases keyIs_shape hb with ⟨j, u, rfl, e⟩ | ⟨y, u, rfl, e⟩
   ·exact nomatch e
   ·injection e with e1 _;rw [e1]
 byValue:=fun k v h=>by
  rcases keyIs_shape h with ⟨i,t,rfl,rfl⟩ | ⟨x,t,rfl,rfl⟩<;>rfl
 pyHash:=fun hv h=>by
  rcases keyIs_shape hv with ⟨i,t,rfl,rfl⟩ | ⟨x,t,rfl,rfl⟩
  ·exact wpAny_pyHash_int h
  ·exact wpAny_pyHash_str h
 eqBool:=fun hu hv h=>by
  rcases keyIs_shape hu with ⟨i,t,rfl,rfl⟩ | ⟨x,t,rfl,rfl⟩
  ·rcases keyIs_shape hv with ⟨j, u, rfl, rfl⟩ | ⟨y, u, rfl, rfl⟩
   ·rw [zwa] at h;exact wpAny_eqBool_int h
   ·rw [zvn] at h;exact SeqAt.EqAt.int_str i t y u _ _ _ _ h
  ·rcases keyIs_shape hv with ⟨j, u, rfl, rfl⟩ | ⟨y, u, rfl, rfl⟩
   ·rw [zvx] at h;exact SeqAt.EqAt.str_int x t j u _ _ _ _ h
   ·rw [zyg] at h;exact wpAny_eqBool_str h
 «strs»:=fun k x t v h=>by
  rcases keyIs_shape h with ⟨i,u,rfl,e⟩ | ⟨y,u,rfl,e⟩
  ·exact nomatch e
  ·injection e with e1 _;subst e1;cases v<;>rfl
end L2
namespace L2
open PySem PySem.Spec PyProof.Rows
inductive V where
 | non | bl (b:Bool) | int (i:Int) | str (x:Str) | byt (b:Array UInt8) | flt (b:UInt64) | ref (a:Addr) | ty (n:String)
 deriving DecidableEq
noncomputable def RelV:V->Value->Prop
 | .non,u=>u=Value.none
 | .bl b,u=>u=Value.bool b
 | .int i,u=>∃t,u=Value.int i t
 | .str x,u=>∃t,u=Value.str x t
 | .byt b,u=>∃t,u=Value.bytes b t
 | .flt b,u=>∃t,u=Value.float b t
 | .ref a,u=>u=Value.ref a
 | .ty n,u=>u=Value.type n
noncomputable abbrev Vals:List V->List Value->Prop:=Paired RelV
theorem Vals.length {xs:List V}{us:List Value} (r:Vals xs us):xs.length=us.length:=Paired.length r
theorem Vals.get:∀{xs:List V}{us:List Value}{i:Nat}{x:V},Vals xs us->xs[i]?=some x->∃u,us[i]?=some u/\RelV x u
  | _,_,_,_,.nil,e=>by simp at e
  | _,_,0,_,.cons r _,e=>by simp at e;subst e;exact ⟨_,rfl,r⟩
  | _,_,i+1,x,.cons _ t,e=>by
    obtain ⟨u,h1,h2⟩:=Vals.get (i:=i) (x:=x) t (by simpa using e);exact ⟨u,by simpa using h1,h2⟩
theorem Vals.set {x:V}{u:Value} (r:RelV x u):∀{xs:List V}{us:List Value} (i:Nat),Vals xs us->Vals (xs.set i x) (us.set i u)
 | _,_,_,.nil=>.nil
 | _,_,0,.cons _ t=>.cons r t
 | _,_,i+1,.cons q t=>.cons q (Vals.set r i t)
theorem Vals.append:∀{xs ys:List V}{us ws:List Value},Vals xs us->Vals ys ws->Vals (xs++ys) (us++ws)
 | _,_,_,_,.nil,s=>s
 | _,_,_,_,.cons r t,s=>.cons r (Vals.append t s)
theorem Vals.take:∀{xs:List V}{us:List Value} (n:Nat),Vals xs us->Vals (xs.take n) (us.take n)
 | _,_,0,_=>.nil
 | _,_,_+1,.nil=>.nil
 | _,_,n+1,.cons r t=>.cons r (Vals.take n t)
theorem Vals.drop:∀{xs:List V}{us:List Value} (n:Nat),Vals xs us->Vals (xs.drop n) (us.drop n)
 | _,_,0,r=>r
 | _,_,_+1,.nil=>.nil
 | _,_,n+1,.cons _ t=>Vals.drop n t
noncomputable def RelO:Option V->Option Value->Prop
 | some v,some u=>RelV v u
 | none,none=>True
 | _,_=>False
noncomputable def KV {κ:Type}:List (κ × V)->List (κ × Value)->Prop:=Paired fun (p:κ × V) (q:κ × Value)=>p.1=q.1/\RelV p.2 q.2
noncomputable def kV:Key->V
 | .inl i=>.int i
 | .inr x=>.str x
inductive HO where
 /-- a list -/
 | lst (xs:List V)
 /-- a tuple (never changes) -/
 | tup (xs:List V)
 /-- a dict whose keys are ints and texts;one whose keys are tuples of ints and texts (the empty one is both) -/
 | dK (kvs:List (Key × V)) | dT (kvs:List (List Key × V))
 /-- a set of ints: its members,its size -/
 | set (S:Int->Bool) (n:Nat)
 /-- an instance of the class at C,its dict at dx,its attributes -/
 | ins (C dx:Addr) (fs:List (Str × V))
 /-- the dict of the instance at x -/
 | own (x:Addr)
 /-- the dict of an exception -/
 | xd (fs:List (Str × V))
 /-- a bound method,f of x -/
 | met (f x:Addr)
 /-- a range object lo,lo+1,.. below hi -/
 | rng (lo hi:Int)
 /-- a thing that is known to the object (the script;a dict while a loop walks it): read,never written while it is so -/
 | frz (o:Obj) (u:HO)
 /-- a code object's table -/
 | tbl (ps:Array Value)
 /-- any other thing,by what is true of its one object (a def of one's own: SetO a S n:=HO.ext fun h=>..) -/
 | ext (φ:Heap->Prop)
noncomputable abbrev Hp:=Addr->Option HO
noncomputable def upd (H:Hp) (a:Addr) (o:HO):Hp:=fun b=>if b=a then some o else H b
theorem upd_same {H:Hp}{a:Addr}{o:HO}:upd H a o a=some o:=by unfold upd;rw [if_pos rfl]
theorem upd_ne {H:Hp}{a b:Addr}{o:HO} (h:b≠a):upd H a o b=H b:=by unfold upd;rw [if_neg h]
theorem zac {H:Hp}{a b:Addr}{o:HO} (h:H a=some o) (h' : H b=none):a≠b:=by
 intro e;subst e;rw [h] at h';cases h'
section
variable (P:Program) (w:World)
noncomputable def zbn (H:Hp) (h:Heap) (a:Addr):HO->Prop
 | .lst xs=>xs.length<=sizeLine/\∃(its:List Value) (n:Nat),Vals xs its/\h.get? a=some { cls:=.type "list",data:=.seq its.toArray n }
 | .tup xs=>xs.length<=sizeLine/\∃its:List Value,Vals xs its/\IsTup h a its.toArray
 | .dK kvs=>kvs.length<=sizeLine/\(a == sysModules)=false/\∃vs,KV kvs vs/\h.DictOf (zm1 P w) a vs
 | .dT kvs=>kvs.length<=sizeLine/\(a == sysModules)=false/\∃xs:List (List Key × Addr × Value),
   Paired (fun (p:List Key × V) (q:List Key × Addr × Value)=>p.1=q.1/\H q.2.1=some (.tup (p.1.map kV))/\RelV p.2 q.2.2) kvs xs /\
   ∃o es ep,h.get? a=some o/\o.ExactDict/\o.data=.dict es ep/\es.toList=xs.map (entryOfKey (tupleKind (zm1 P w)))/\(xs.map (·.1)).Nodup
 | .set S n=>h.SetOf (intKind P w) a S n
 | .ins C dx fs=>H dx=some (.own a)/\fs.length<=1000/\dx≠a/\h.get? a=some (PySem.W.instObj C dx) /\
   ∃mA,h.Ns1 dx mA/\(∀f,RelO (fs.lookup f) (mA f))/\PySem.Within mA (fs.map (·.1))
 | .own _=>∃o,h.get? a=some o
 | .xd fs=>∃mA,h.Ns1 a mA/\∀f,RelO (fs.lookup f) (mA f)
 | .rng lo hi=>∃t u v,h.get? a=some { cls:=.type "range",data:=.fields #[.int lo t,.int hi u,.int 1 v] }
 | .frz o u=>h.get? a=some o/\zbn H h a u
 | .tbl ps=>h.get? a=some { cls:=.none,data:=.fields ps }
 | .met f x=>h.get? a=some (PySem.W.methodObj (.ref f) (.ref x))
 | .ext φ=>φ h/\(∃o,h.get? a=some o)/\∀h1 h2:Heap,φ h1->(∀o,h1.get? a=some o->h2.get? a=some o)->φ h2
noncomputable def HOk (H:Hp) (h:Heap):Prop:=∀a o,H a=some o->zbn P w H h a o
end
section
variable {P:Program}{w:World}{H H' : Hp}{h h' : Heap}{a:Addr}{o:HO}
theorem zbn.lt (x:zbn P w H h a o):a < h.objs.size:=by
 cases o with
 | lst xs=>obtain ⟨_,_,_,_,e⟩:=x;exact Heap.lt_size e
 | tup xs=>obtain ⟨_,_,_,p⟩:=x;exact p.lt
 | dK kvs=>obtain ⟨_,_,_,_,o,_,_,e,_⟩:=x;exact Heap.lt_size e
 | dT kvs=>obtain ⟨_,_,_,_,o,_,_,e,_⟩:=x;exact Heap.lt_size e
 | set S n=>obtain ⟨o,_,_,_,e,_⟩:=x;exact Heap.lt_size e
 | ins C dx fs=>obtain ⟨_,_,_,e,_⟩:=x;exact Heap.lt_size e
 | own y=>obtain ⟨_,e⟩:=x;exact Heap.lt_size e
 | xd fs=>obtain ⟨_,⟨_,_,_,e,_⟩,_⟩:=x;exact Heap.lt_size e
 | rng lo hi=>obtain ⟨_,_,_,e⟩:=x;exact Heap.lt_size e
 | frz ob u=>obtain ⟨e,_⟩:=x;exact Heap.lt_size e
 | tbl ps=>exact Heap.lt_size (show h.get? a=some _ from x)
 | met f y=>exact Heap.lt_size (show h.get? a=some _ from x)
 | ext φ=>obtain ⟨_,⟨_,e⟩,_⟩:=x;exact Heap.lt_size e
theorem Paired.mapP {α β:Type}{F G:α->β->Prop}:∀{l₁:List α}{l₂:List β},Paired F l₁ l₂->(∀a b,F a b->G a b)->Paired G l₁ l₂
 | _,_,.nil,_=>.nil
 | _,_,.cons r t,f=>.cons (f _ _ r) (Paired.mapP t f)
theorem zbn.stay (x:zbn P w H h a o) (k:∀b u,(b=a\/H b=some (.own a))->h.get? b=some u->h'.get? b=some u)
    (ho:∀b,H b=some (.own a)->H' b=some (.own a)) (ht:∀b xs,H b=some (.tup xs)->H' b=some (.tup xs)):zbn P w H' h' a o:=by
  induction o with
  | lst xs=>obtain ⟨z,its,n,r,e⟩:=x;exact ⟨z,its,n,r,k _ _ (.inl rfl) e⟩
  | tup xs=>obtain ⟨z,its,r,ob,e,c⟩:=x;exact ⟨z,its,r,ob,k _ _ (.inl rfl) e,c⟩
  | dK kvs=>obtain ⟨z,y,vs,r,ob,es,ep,e,c⟩:=x;exact ⟨z,y,vs,r,ob,es,ep,k _ _ (.inl rfl) e,c⟩
  | dT kvs =>
    obtain ⟨z,y,xs,r,ob,es,ep,e,c⟩:=x;exact ⟨z,y,xs,Paired.mapP r fun p q z=>⟨z.1,ht _ _ z.2.1,z.2.2⟩,ob,es,ep,k _ _ (.inl rfl) e,c⟩
  | set S n=>obtain ⟨ob,es,ep,t,e,c⟩:=x;exact ⟨ob,es,ep,t,k _ _ (.inl rfl) e,c⟩
  | ins C dx fs =>
    obtain ⟨d,z,ne,e,mA,⟨od,es,ep,e2,c⟩,r⟩:=x;exact ⟨ho _ d,z,ne,k _ _ (.inl rfl) e,mA,⟨od,es,ep,k _ _ (.inr d) e2,c⟩,r⟩
  | own y=>obtain ⟨ob,e⟩:=x;exact ⟨ob,k _ _ (.inl rfl) e⟩
  | xd fs=>obtain ⟨mA,⟨od,es,ep,e,c⟩,r⟩:=x;exact ⟨mA,⟨od,es,ep,k _ _ (.inl rfl) e,c⟩,r⟩
  | rng lo hi=>obtain ⟨t,u,v,e⟩:=x;exact ⟨t,u,v,k _ _ (.inl rfl) e⟩
  | frz ob u ih=>obtain ⟨e,q⟩:=x;exact ⟨k _ _ (.inl rfl) e,ih q⟩
  | tbl ps =>
    have e:h.get? a=some { cls:=.none,data:=.fields ps }:=x;show h'.get? a=some { cls:=.none,data:=.fields ps };exact k a _ (.inl rfl) e
  | met f y =>
    have e:h.get? a=some (PySem.W.methodObj (.ref f) (.ref y)):=x;show h'.get? a=some (PySem.W.methodObj (.ref f) (.ref y));exact k a _ (.inl rfl) e
  | ext φ=>obtain ⟨p,⟨o,e⟩,st⟩:=x;exact ⟨st _ _ p fun o q=>k _ _ (.inl rfl) q,⟨o,k _ _ (.inl rfl) e⟩,st⟩
theorem HOk.lt (x:HOk P w H h) (e:H a=some o):a < h.objs.size:=(x a o e).lt
theorem HOk.fresh (x:HOk P w H h) (e:h.objs.size<=a):H a=none:=by
 cases q:H a with
 | none=>rfl
 | some u=>exact absurd (Nat.lt_of_lt_of_le (x.lt q) e) (Nat.lt_irrefl _)
theorem HOk.kept (x:HOk P w H h) (k:∀b u,h.get? b=some u->h'.get? b=some u):HOk P w H h':=fun a o e =>
 (x a o e).stay (fun b u _ q=>k b u q) (fun _ q=>q) fun _ _ q=>q
theorem HOk.laid (x:HOk P w H h) (k:∀b u,h.get? b=some u->h'.get? b=some u) (hp:h.objs.size<=a) (new:zbn P w (upd H a o) h' a o):HOk P w (upd H a o) h':=fun b u e=>by
 have hn:=x.fresh hp;by_cases hb:b=a
 ·subst hb;rw [upd_same] at e;obtain rfl:=sI e;exact new
 ·rw [upd_ne hb] at e;exact (x b u e).stay (fun c v _ q=>k c v q) (fun c q=>by rw [upd_ne (zac q hn)];exact q) fun c xs q=>by rw [upd_ne (zac q hn)];exact q
end
noncomputable def Rd (H:Hp) (a:Addr) (u:HO):Prop:=H a=some u\/∃o,H a=some (.frz o u)
theorem Rd.ok {P:Program}{w:World}{H:Hp}{h:Heap}{a:Addr}{u:HO} (r:Rd H a u) (x:HOk P w H h):zbn P w H h a u:=by
 rcases r with r | ⟨o,r⟩
 ·exact x a u r
 ·obtain ⟨_, q⟩ := x a _ r;exact q
noncomputable def Mut:Option HO->Prop
 | some (.lst _)=>True
 | some (.dK _)=>True
 | some (.dT _)=>True
 | some (.set _ _)=>True
 | some (.ins _ _ _)=>True
 | some (.ext _)=>True
 | _=>False
section
variable {P:Program}{w:World}{H:Hp}{h h' : Heap}{x e:Addr}{o' : HO}
theorem HOk.write (ok:HOk P w H h) (mu:Mut (H x)) (he:e=x\/H e=some (.own x)) (k:∀b u,b≠e->h.get? b=some u->h'.get? b=some u) (heo:∃u,h'.get? e=some u)
  (new:zbn P w (upd H x o') h' x o'):HOk P w (upd H x o') h':=fun b u q=>by
 have nown:∀c y,H c=some (.own y)->c≠x:=fun c y r z=>by subst z;rw [r] at mu;exact mu
 have ntup:∀c xs,H c=some (.tup xs)->c≠x:=fun c xs r z=>by subst z;rw [r] at mu;exact mu
 by_cases hb:b=x
 ·subst hb;rw [upd_same] at q;obtain rfl:=sI q;exact new
 ·rw [upd_ne hb] at q;by_cases hbe:b=e
  ·have q' : H b=some (.own x):=by
    rcases he with z | z
    ·exact absurd (hbe.trans z) hb
    ·rw [hbe];exact z
   rw [q] at q';obtain rfl:=sI q';obtain ⟨v,hv⟩:=heo;exact ⟨v,by rw [hbe];exact hv⟩
  ·refine (ok b u q).stay (fun c v hc r => k c v ?_ r) (fun c r => by rw [upd_ne (nown c b r)]; exact r) fun c xs r => by rw [upd_ne (ntup c xs r)]; exact r
   rcases hc with rfl | hc
   ·exact hbe
   ·rintro rfl;rcases he with z | z
    ·exact nown c b hc z
    ·rw [hc] at z;cases z;exact hb rfl
end
structure Un (fs ex:List Addr) (H H' : Hp) (h h' : Heap):Prop where
 keep:∀b o,h.get? b=some o->H b=none->b ∉ fs->b ∉ ex->h'.get? b=some o
 slot:∀b o,h.get? b=some o->H b=none->b∈fs->b ∉ ex->∃sl,h'.get? b=some { o with slots:=sl }
 free:∀b o,h.get? b=some o->H b=none->b ∉ ex->H' b=none
 there:∀b o,h.get? b=some o->b ∉ ex->∃o',h'.get? b=some o'
 tups:∀b xs,H b=some (.tup xs)->H' b=some (.tup xs)
 frzs:∀b o u,H b=some (.frz o u)->H' b=some (.frz o u)
 tbls:∀b ps,H b=some (.tbl ps)->∃more,H' b=some (.tbl (ps++more))
section
variable {fs fs' ex ex' : List Addr}{H H1 H2:Hp}{h h1 h2 h' : Heap}{a x e:Addr}{o:HO}
theorem Un.any (u:Un fs ex H H1 h h1) {b:Addr}{ob:Obj} (q:h.get? b=some ob) (n:H b=none) (hx:b ∉ ex):∃sl,h1.get? b=some { ob with slots:=sl }:=by
 by_cases hb:b∈fs
 ·exact u.slot b ob q n hb hx
 ·exact ⟨ob.slots,u.keep b ob q n hb hx⟩
theorem Un.kept (k:∀b u,h.get? b=some u->h'.get? b=some u):Un fs ex H H h h' :=
 ⟨fun b ob q _ _ _=>k b ob q,fun b ob q _ _ _=>⟨ob.slots,k b ob q⟩,fun _ _ _ n _=>n,fun b ob q _=>⟨ob,k b ob q⟩,fun _ _ q=>q,fun _ _ _ q=>q,fun _ ps q=>⟨#[],by rw [q];simp⟩⟩
theorem Un.refl:Un fs ex H H h h:=Un.kept fun _ _ q=>q
theorem Un.laid (k:∀b u,h.get? b=some u->h'.get? b=some u) (hp:h.objs.size<=a) (hn:H a=none):Un fs ex H (upd H a o) h h' where
 keep:=fun b u q _ _ _=>k b u q
 slot:=fun b u q _ _ _=>⟨u.slots,k b u q⟩
 free:=fun b u q n _=>by rw [upd_ne (Nat.ne_of_lt (Nat.lt_of_lt_of_le (Heap.lt_size q) hp))];exact n
 there:=fun b u q _=>⟨u,k b u q⟩
 tups:=fun b xs q=>by rw [upd_ne (zac q hn)];exact q
 frzs:=fun b u xs q=>by rw [upd_ne (zac q hn)];exact q
 tbls:=fun b ps q=>⟨#[],by rw [upd_ne (zac q hn),q];simp⟩
theorem Un.write (mu:Mut (H x)) (he:e=x\/H e=some (.own x)) (k:∀b u,b≠e->h.get? b=some u->h'.get? b=some u) (heo:∃u,h'.get? e=some u):Un fs ex H (upd H x o) h h':=by
 have hx:∀b,H b=none->b≠x:=fun b n z=>by subst z;rw [n] at mu;exact mu
 have hb:∀b,H b=none->b≠e:=fun b n z=>by
  subst z;rcases he with r | r
  ·exact hx b n r
  ·rw [n] at r;cases r
 have hm:∀b u,H b=some u->¬ Mut (some u)->b≠x:=fun b u q nm z=>by subst z;rw [q] at mu;exact nm mu
 refine ⟨fun b u q n _ _=>k b u (hb b n) q,fun b u q n _ _=>⟨u.slots,k b u (hb b n) q⟩,fun b u q n _=>by rw [upd_ne (hx b n)];exact n,fun b u q _=>?_,
  fun b xs q=>by rw [upd_ne (hm b _ q fun z=>z)];exact q,fun b u xs q=>by rw [upd_ne (hm b _ q fun z=>z)];exact q,fun b ps q=>⟨#[],by rw [upd_ne (hm b _ q fun z=>z),q];simp⟩⟩
 by_cases hbe:b=e
 ·subst hbe;exact heo
 ·exact ⟨u,k b u hbe q⟩
end
noncomputable def trk (h:Heap) (H:Hp):List Addr:=(List.range h.objs.size).filter fun a=>(H a).isSome
noncomputable def hidT (h:Heap) (H:Hp):Heap:=PySem.W.hideAll h (trk h H)
theorem zma (h:Heap) (H:Hp):(hidT h H).objs.size=h.objs.size:=PySem.W.hideAll_size _ _
theorem zqv {h:Heap}{H:Hp}{b:Addr}{o:Obj} (e:h.get? b=some o) (n:H b=none):(hidT h H).get? b=some o :=
 PySem.W.hideAll_get _ e fun hm=>by
  have q:(H b).isSome=true:=(List.mem_filter.mp hm).2;rw [n] at q;simp at q
theorem zur {h:Heap}{H:Hp}{b:Addr}{o:Obj} (e:(hidT h H).get? b=some o):h.get? b=some o/\H b=none:=by
  have e' : h.get? b=some o:=PySem.W.of_hideAll (trk h H) e;refine ⟨e',?_⟩;cases q:H b with
  | none=>rfl
  | some x =>
    have hm:b∈trk h H:=List.mem_filter.mpr ⟨List.mem_range.mpr (Heap.lt_size e'),by simp [q]⟩;have z:(hidT h H).get? b=none:=PySem.W.hideAll_none (trk h H) hm;rw [z] at e;cases e
noncomputable def zs7 (g h:Heap) (L:Addr):List (Addr × Obj):=(List.range h.objs.size).filterMap fun a=>if a=L\/(g.get? a).isSome=true then none else (h.get? a).map fun o=>(a,o)
noncomputable def rest (g h:Heap) (L d:Addr):List (Addr × Obj):=(zs7 g h L).filter fun p=>decide (p.1≠d)
end L2
namespace L2
open PySem PySem.Spec PyProof.Rows
structure Mod (K:PySem.W.Frag) (mg:Str->Option Value) (base:Heap):Prop where
 kin:K.In base
 glob:base.Ns mainGlobals mg
 blt:∃mb,base.Ns builtinsNs mb/\∀x:Str,x≠"__name__" -> mb x=bootBuiltins x
 nolimit:base.NoLimit
 bmn:∃(b:Addr) (ob:Obj),mg "__builtins__" = some (.ref b)/\b≠builtinsNs/\base.get? b=some ob/\ob.cls=.type "module"/\ob.dict=some builtinsNs/\ob.data=.plain
structure Cx where
 prog:Program
 w:World
 K:PySem.W.Frag
 mg:Str->Option Value
 base:Heap
 A:Around
 N:List Str
 s₀:Shared
 H₀:Hp
 env:Env
 outer:List Env
 stack:List Env
 ex:List Addr
 fn:Str->Bool
 calm:Bool
 pn:List (Addr × Obj)
 xe:Value->Shared->Prop
noncomputable def frs (l:List Env):List Addr:=l.filterMap (·.frame)
noncomputable abbrev Cx.fs (X:Cx):List Addr:=frs X.outer
noncomputable def Vis (sc:Scope) (x:Str):Prop:=sc.names.lookup x=some .local\/sc.names.lookup x=some .cell\/sc.names.lookup x=some .free
noncomputable def Loc (sc:Scope) (x:Str):Prop:=sc.names.lookup x=some .local\/sc.names.lookup x=some .cell
noncomputable def Look (env:Env) (h:Heap) (m:Str->Option Value) (x:Str) (u:Value):Prop :=
 (env.kindOf x=some .local/\m x=some u)\/((env.kindOf x=some .cell\/env.kindOf x=some .free)/\∃c,env.cells.lookup x=some c/\h.IsCell c (some u))
structure Cx.Ok (X:Cx):Prop where
 mod:Mod X.K X.mg X.base
 kind:X.env.scope.kind=.function
 glob:X.env.globals=mainGlobals
 blt:X.env.builtins=builtinsNs
 above:X.s₀.heap.objs.size<=X.env.locals
 inj:∀x y c,X.env.cells.lookup x=some c->X.env.cells.lookup y=some c->x=y
 has:∀x,(X.env.kindOf x=some .cell\/X.env.kindOf x=some .free)->∃c,X.env.cells.lookup x=some c
 cab:∀x c,X.fn x=true->X.env.cells.lookup x=some c->X.s₀.heap.objs.size<=c
 hd:X.calm=true->X.A.handled=none
 frames:X.A.frames=some X.stack
 stk:X.stack=X.outer\/(X.stack=X.env::X.outer/\X.env.frame=some X.env.locals)
 exf:∀b∈X.ex,b≠X.env.locals/\∀x c,X.env.cells.lookup x=some c->c≠b
 bs:∀b o,X.base.get? b=some o->X.s₀.heap.get? b=some o/\X.H₀ b=none
 bsz:X.base.objs.size<=X.s₀.heap.objs.size
 noex:∀b o,X.base.get? b=some o->b ∉ X.ex
 exfs:∀b∈X.ex,b ∉ X.fs
 funs:X.s₀.heap.FunFrames X.base X.outer
 frf:∀b∈X.fs,X.H₀ b=none
structure Inv (X:Cx) (pins:List (Addr × Obj)) (σ:List (Option V)) (H:Hp) (s:Shared):Prop where
 ok:X.Ok
 os:s.os=X.s₀.os
 bare:AllBare s.gens
 base:Un X.fs X.ex X.H₀ H X.s₀.heap s.heap
 loc:∃m,s.heap.Ns X.env.locals m/\∀(i:Nat) (x:Str) (v:V),X.N[i]?=some x->σ[i]?=some (some v)->Vis X.env.scope x->∃u,RelV v u/\Look X.env s.heap m x u
 cell:∀x c,X.env.cells.lookup x=some c->∃v,s.heap.IsCell c v
 free:H X.env.locals=none
 freeC:∀x c,X.env.cells.lookup x=some c->H c=none
 pin:∀p∈X.pn++pins,s.heap.get? p.1=some p.2/\H p.1=none/\p.1≠X.env.locals/\p.1 ∉ X.fs/\∀v,p.2.data≠.cell v
 hok:HOk X.prog X.w H s.heap
 len:σ.length=X.N.length
section
variable {X:Cx}{pins:List (Addr × Obj)}{σ:List (Option V)}{H H' : Hp}{s:Shared}{h' : Heap}
theorem Cx.Ok.nofr (ok:X.Ok) {b:Addr}{o:Obj} (e:X.base.get? b=some o):b ∉ X.fs:=fun hb=>by
 have:=(ok.funs.mem hb).1;rw [e] at this;cases this
theorem Inv.bs (I:Inv X pins σ H s):∀b o,X.base.get? b=some o->s.heap.get? b=some o/\H b=none:=fun b o e =>
 ⟨I.base.keep b o (I.ok.bs b o e).1 (I.ok.bs b o e).2 (I.ok.nofr e) (I.ok.noex b o e),I.base.free b o (I.ok.bs b o e).1 (I.ok.bs b o e).2 (I.ok.noex b o e)⟩
theorem Inv.bk (I:Inv X pins σ H s):∀b o,X.base.get? b=some o->s.heap.get? b=some o:=fun b o e=>(I.bs b o e).1
theorem Inv.mod (I:Inv X pins σ H s):Mod X.K X.mg X.base:=I.ok.mod
theorem Inv.kIn (I:Inv X pins σ H s):X.K.In s.heap:=I.ok.mod.kin.keeps I.bk
theorem Inv.lt (I:Inv X pins σ H s):X.env.locals < s.heap.objs.size:=let ⟨_,hn,_⟩:=I.loc;hn.lt
theorem Inv.sz (I:Inv X pins σ H s):X.s₀.heap.objs.size<=s.heap.objs.size:=Nat.le_trans I.ok.above (Nat.le_of_lt I.lt)
theorem Inv.nofs (I:Inv X pins σ H s) {a:Addr} (h:s.heap.objs.size<=a):a ∉ X.fs:=fun hb=>by
 obtain ⟨_,o,ho,_⟩:=I.ok.funs.mem hb;exact absurd (Nat.lt_of_lt_of_le (Heap.lt_size ho) (Nat.le_trans I.sz h)) (Nat.lt_irrefl _)
theorem Inv.cne (I:Inv X pins σ H s):∀x c,X.env.cells.lookup x=some c->c≠X.env.locals:=fun x c e z=>by
 obtain ⟨v,o,ho,hd⟩:=I.cell x c e;obtain ⟨m,⟨o',es,ep,ho',hd',_⟩,_⟩:=I.loc;rw [z,ho'] at ho;obtain rfl:=sI ho;rw [hd'] at hd;cases hd
theorem Inv.funs (I:Inv X pins σ H s):s.heap.FunFrames X.base X.outer:=by
  have all:∀(l:List Env),(∀b∈frs l,b∈X.fs)->X.s₀.heap.FunFrames X.base l->s.heap.FunFrames X.base l:=by
    intro l
    induction l with
    | nil=>intro _ _;trivial
    | cons env r ih =>
      intro hs hl;refine aG fun _ qG=>?_;obtain ⟨hk,⟨L,o,hf,hn,ho,hd⟩,hr⟩:=hl;refine qG ?_;clear qG;have hL:L∈X.fs:=hs L (by unfold frs;rw [List.filterMap_cons,hf];exact List.mem_cons_self);obtain ⟨sl,e⟩:=I.base.slot L o ho (I.ok.frf L hL) hL fun z=>I.ok.exfs L z hL;exact ⟨hk,⟨L,_,hf,hn,e,hd⟩,ih (fun b hb=>hs b (by unfold frs;rw [List.filterMap_cons,hf];exact List.mem_cons_of_mem _ hb)) hr⟩
  exact all X.outer (fun _ hb=>hb) I.ok.funs
theorem Inv.stack (I:Inv X pins σ H s):s.heap.FunFrames X.base X.stack:=by
 rcases I.ok.stk with e | ⟨e,hf⟩
 ·rw [e];exact I.funs
 ·rw [e];obtain ⟨m,hn,_⟩:=I.loc;refine .cons (by rw [I.ok.kind];decide) hf hn ?_ I.funs;exact Heap.get?_none_of_le (Nat.le_trans I.ok.bsz I.ok.above)
theorem Inv.stkSub (I:Inv X pins σ H s):∀b∈frs X.stack,b∈X.env.locals::X.fs:=fun b hb=>by
 rcases I.ok.stk with e | ⟨e,hf⟩
 ·rw [e] at hb;exact List.mem_cons_of_mem _ hb
 ·rw [e] at hb;unfold frs at hb;rw [List.filterMap_cons,hf] at hb;exact hb
theorem Inv.stkFree (I:Inv X pins σ H s):∀b∈frs X.stack,H b=none:=fun b hb=>by
 rcases List.mem_cons.mp (I.stkSub b hb) with e | hb
 ·rw [e];exact I.free
 ·obtain ⟨_, o, ho, _⟩ := I.ok.funs.mem hb;exact I.base.free b o ho (I.ok.frf b hb) fun z=>I.ok.exfs b z hb
theorem Inv.step {g' : Array GenState}{t' : Nat}{d' : Drawn}{ch:List Addr} (I:Inv X pins σ H s)
  (hch:∀b∈ch,(b∈X.ex\/X.s₀.heap.objs.size<=b)/\b≠X.env.locals/\(∀x c,X.env.cells.lookup x=some c->c≠b)/\∀p∈X.pn++pins,p.1≠b)
  (keep:∀b o,b≠X.env.locals->b ∉ X.fs->b ∉ ch->s.heap.get? b=some o->H b=none->h'.get? b=some o)
  (slot:∀b o,b≠X.env.locals->b∈X.fs->b ∉ ch->s.heap.get? b=some o->H b=none->∃sl,h'.get? b=some { o with slots:=sl }) (free:∀b o,b ∉ ch->s.heap.get? b=some o->H b=none->H' b=none)
  (there:∀b o,b ∉ ch->s.heap.get? b=some o->∃o',h'.get? b=some o')
  (tups:∀b xs,H b=some (.tup xs)->H' b=some (.tup xs)) (frzs:∀b o u,H b=some (.frz o u)->H' b=some (.frz o u)) (tbls:∀b ps,H b=some (.tbl ps)->∃more,H' b=some (.tbl (ps++more)))
  (ns:∀m,s.heap.Ns X.env.locals m->h'.Ns X.env.locals m) (hok:HOk X.prog X.w H' h') (hg:AllBare g') :
  Inv X pins σ H' { s with heap:=h',gens:=g',drawn:=d',toks:=t' }:=by
 have neL:∀b o,X.s₀.heap.get? b=some o->b≠X.env.locals:=fun b o e=>Nat.ne_of_lt (Nat.lt_of_lt_of_le (Heap.lt_size e) I.ok.above);have neC:∀b o,X.s₀.heap.get? b=some o->b ∉ X.ex->b ∉ ch:=fun b o e hx hb=>by
  rcases (hch b hb).1 with z | z
  ·exact hx z
  ·exact absurd (Nat.lt_of_lt_of_le (Heap.lt_size e) z) (Nat.lt_irrefl _)
 have cellK:∀x c,X.env.cells.lookup x=some c->∀v,s.heap.IsCell c v->h'.IsCell c v:=fun x c e v ⟨o,ho,hd⟩=>by
  have nch:c ∉ ch:=fun z=>(hch c z).2.2.1 x c e rfl;by_cases hc:c∈X.fs
  ·obtain ⟨sl, q⟩ := slot c o (I.cne x c e) hc nch ho (I.freeC x c e);exact ⟨_,q,hd⟩
  ·exact ⟨o,keep c o (I.cne x c e) hc nch ho (I.freeC x c e),hd⟩
 refine ⟨I.ok,I.os,hg,⟨fun b o e n hb hx=>?_,fun b o e n hb hx=>?_,fun b o e n hx=>?_,fun b o e hx=>?_,fun b xs e=>tups b xs (I.base.tups b xs e),fun b o xs e=>frzs b o xs (I.base.frzs b o xs e),fun b ps e=>?_⟩,?_,fun x c e=>?_,?_,fun x c e=>?_,fun p hp=>?_,hok,I.len⟩
 ·exact keep b o (neL b o e) hb (neC b o e hx) (I.base.keep b o e n hb hx) (I.base.free b o e n hx)
 ·obtain ⟨sl, e1⟩ := I.base.slot b o e n hb hx;obtain ⟨sl',e2⟩:=slot b _ (neL b o e) hb (neC b o e hx) e1 (I.base.free b o e n hx);exact ⟨sl',e2⟩
 ·obtain ⟨o', e1⟩ := I.base.there b o e hx;exact free b o' (neC b o e hx) e1 (I.base.free b o e n hx)
 ·obtain ⟨o', e1⟩ := I.base.there b o e hx;exact there b o' (neC b o e hx) e1
 ·obtain ⟨m1, e1⟩ := I.base.tbls b ps e;obtain ⟨m2,e2⟩:=tbls b _ e1;exact ⟨m1++m2,by rw [e2,Array.append_assoc]⟩
 ·obtain ⟨m, hn, hl⟩ := I.loc;refine ⟨m,ns m hn,fun i x v e1 e2 e3=>?_⟩;obtain ⟨u,r,l⟩:=hl i x v e1 e2 e3;refine ⟨u,r,?_⟩;rcases l with l | ⟨k,c,e,z⟩
  ·exact .inl l
  ·exact .inr ⟨k,c,e,cellK x c e _ z⟩
 ·obtain ⟨v, z⟩ := I.cell x c e;exact ⟨v,cellK x c e v z⟩
 ·obtain ⟨m, ⟨o, _, _, ho, _⟩, _⟩ := I.loc;exact free _ o (fun z=>(hch _ z).2.1 rfl) ho I.free
 ·obtain ⟨v, o, ho, hd⟩ := I.cell x c e;exact free c o (fun z=>(hch c z).2.2.1 x c e rfl) ho (I.freeC x c e)
 ·obtain ⟨e, n, ne, nf, d⟩ := I.pin p hp;have nch:p.1 ∉ ch:=fun z=>(hch p.1 z).2.2.2 p hp rfl;exact ⟨keep p.1 p.2 ne nf nch e n,free p.1 p.2 nch e n,ne,nf,d⟩
theorem Inv.un {t' : Nat} (I:Inv X pins σ H s) (u:Un X.fs [] H H' s.heap h') (hok:HOk X.prog X.w H' h'):Inv X pins σ H' { s with heap:=h',toks:=t' }:=by
 obtain ⟨m,⟨o,es,ep,ho,r⟩,_⟩:=id I.loc;obtain ⟨sl,hL⟩:=u.any ho I.free (by simp);exact I.step (g':=s.gens) (d':=s.drawn) (ch:=[]) (fun _ z=>nomatch z) (fun b o _ hb _ e n=>u.keep b o e n hb (by simp)) (fun b o _ hb _ e n=>u.slot b o e n hb (by simp)) (fun b o _ e n=>u.free b o e n (by simp)) (fun b o _ e=>u.there b o e (by simp)) u.tups u.frzs u.tbls (fun m' hm=>by
  obtain ⟨o',es',ep',ho',r'⟩:=hm;rw [ho] at ho';obtain rfl:=sI ho';exact ⟨_,es',ep',hL,r'⟩) hok I.bare
theorem Inv.call {g' : Array GenState}{t' : Nat}{d' : Drawn}{ch:List Addr} (I:Inv X pins σ H s) (u:Un (frs X.stack) ch H H' s.heap h') (hok:HOk X.prog X.w H' h') (hg:AllBare g')
  (hch:∀b∈ch,(b∈X.ex\/X.s₀.heap.objs.size<=b)/\b≠X.env.locals/\(∀x c,X.env.cells.lookup x=some c->c≠b)/\∀p∈X.pn++pins,p.1≠b) :
  Inv X pins σ H' { s with heap:=h',gens:=g',drawn:=d',toks:=t' }:=by
 obtain ⟨m,⟨o,es,ep,ho,r⟩,_⟩:=id I.loc;obtain ⟨sl,hL⟩:=u.any ho I.free fun z=>(hch _ z).2.1 rfl;exact I.step (ch:=ch) hch (fun b o hL hb hc e n=>u.keep b o e n (fun z=>(List.mem_cons.mp (I.stkSub b z)).elim hL hb) hc) (fun b o _ _ hc e n=>u.any e n hc) (fun b o hc e n=>u.free b o e n hc) (fun b o hc e=>u.there b o e hc) u.tups u.frzs u.tbls (fun m' hm=>by
  obtain ⟨o',es',ep',ho',r'⟩:=hm;rw [ho] at ho';obtain rfl:=sI ho';exact ⟨_,es',ep',hL,r'⟩) hok hg
theorem Inv.turned {t' : Nat}{it:Addr} (I:Inv X pins σ H s) (k:∀b o,b≠it->s.heap.get? b=some o->h'.get? b=some o) (hn:H it=none) (hL:it≠X.env.locals)
  (h1:it∈X.ex\/X.s₀.heap.objs.size<=it) (h2:∀x c,X.env.cells.lookup x=some c->c≠it) (h3:∀p∈X.pn++pins,p.1≠it):Inv X pins σ H { s with heap:=h',toks:=t' }:=by
 have nit:∀b u,H b=some u->b≠it:=fun b u e z=>by rw [z,hn] at e;cases e
 refine I.step (g':=s.gens) (d':=s.drawn) (ch:=[it]) (fun b hb=>?_) (fun b o _ _ hc e _=>k b o (fun z=>hc (by simp [z])) e) (fun b o _ _ hc e _=>⟨o.slots,k b o (fun z=>hc (by simp [z])) e⟩) (fun _ _ _ _ n=>n)
  (fun b o hc e=>⟨o,k b o (fun z=>hc (by simp [z])) e⟩) (fun _ _ e=>e) (fun _ _ _ e=>e) (fun b ps e=>⟨#[],by rw [e];simp⟩) (fun m hm=>?_) (fun b u e=>?_) I.bare
 ·have e : b = it := by simpa using hb
  subst e;exact ⟨h1,hL,h2,h3⟩
 ·obtain ⟨o, es, ep, ho, r⟩ := hm;exact ⟨o,es,ep,k _ o (Ne.symm hL) ho,r⟩
 ·refine (I.hok b u e).stay (fun c v hc q => k c v ?_ q) (fun _ q => q) fun _ _ q => q;rcases hc with z | z
  ·rw [z];exact nit b u e
  ·exact nit c _ z
theorem Inv.tok (I:Inv X pins σ H s) (t:Nat):Inv X pins σ H { s with toks:=t }:=I.un (h':=s.heap) (t':=t) Un.refl I.hok
theorem Inv.kept {t' : Nat} (I:Inv X pins σ H s) (k:∀b u,s.heap.get? b=some u->h'.get? b=some u):Inv X pins σ H { s with heap:=h',toks:=t' }:=I.un (Un.kept k) (I.hok.kept k)
theorem Inv.laid {a:Addr}{o:HO}{t' : Nat} (I:Inv X pins σ H s) (k:∀b u,s.heap.get? b=some u->h'.get? b=some u) (hp:s.heap.objs.size<=a) (new:zbn X.prog X.w (upd H a o) h' a o) :
  Inv X pins σ (upd H a o) { s with heap:=h',toks:=t' }:=I.un (Un.laid k hp (I.hok.fresh hp)) (I.hok.laid k hp new)
theorem Inv.write {x e:Addr}{o:HO}{t' : Nat} (I:Inv X pins σ H s) (mu:Mut (H x)) (he:e=x\/H e=some (.own x)) (k:∀b u,b≠e->s.heap.get? b=some u->h'.get? b=some u) (heo:∃u,h'.get? e=some u)
  (new:zbn X.prog X.w (upd H x o) h' x o):Inv X pins σ (upd H x o) { s with heap:=h',toks:=t' }:=I.un (Un.write mu he k heo) (I.hok.write mu he k heo new)
theorem Inv.pins_of {pins' : List (Addr × Obj)} (I:Inv X pins σ H s) (h:∀p∈pins',s.heap.get? p.1=some p.2/\H p.1=none/\p.1≠X.env.locals/\p.1 ∉ X.fs/\∀v,p.2.data≠.cell v):Inv X pins' σ H s :=
 ⟨I.ok,I.os,I.bare,I.base,I.loc,I.cell,I.free,I.freeC,fun p hp=>(List.mem_append.mp hp).elim (fun z=>I.pin p (List.mem_append_left _ z)) (h p),I.hok,I.len⟩
theorem zj0 {N:List Str} (hN:N.Nodup) {i j:Nat}{x:Str} (a:N[i]?=some x) (b:N[j]?=some x):i=j:=by
 obtain ⟨h1,e1⟩:=List.getElem?_eq_some_iff.mp a;obtain ⟨h2,e2⟩:=List.getElem?_eq_some_iff.mp b;exact (List.getElem_inj hN).mp (e1.trans e2.symm)
theorem zhm {M:Model}{A:Around}{E:Value->Shared->Prop}{i:Nat}{x:Str}{v:V}{u:Value}{Q:Unit->Shared->Prop} (I:Inv X pins σ H s) (hN:X.N.Nodup) (hi:X.N[i]?=some x) (hx:Loc X.env.scope x) (r:RelV v u)
  (h:∀s',Inv X pins (σ.set i (some v)) H s'->(∃a,Heap.SameBut a s.heap s'.heap/\(a=X.env.locals\/X.env.cells.lookup x=some a))->Q () s') (hf:X.fn x=true\/X.env.scope.names.lookup x=some .local:=by first | exact .inl rfl | exact .inr rfl | assumption):wpAny M A (storeName X.env x u) Q E s:=by
 obtain ⟨m,hn,hl⟩:=id I.loc;have hcls:(X.env.scope.kind == .class || (X.env.scope.kind == .module && X.env.locals != X.env.globals))=false:=by rw [I.ok.kind];rfl
 have hiσ:i < σ.length:=by rw [I.len];exact (List.getElem?_eq_some_iff.mp hi).1
 have cne:=I.cne;have tracked:∀{a:Addr}{h' : Heap},(∃o,s.heap.get? a=some o/\H a=none)->Heap.SameBut a s.heap h'->HOk X.prog X.w H h':=fun {a h'} ha hs b ob e=>by
  obtain ⟨_,_,hfree⟩:=ha;refine (I.hok b ob e).stay (fun c w' hc q=>(hs.2 c ?_).trans q) (fun _ q=>q) fun _ _ q=>q;rintro rfl;rcases hc with rfl | hc
  ·rw [hfree] at e;cases e
  ·rw [hfree] at hc;cases hc
 rcases hx with hk | hk
 ·refine wpAny_storeName_local hk hn (fun h' hn' hs => ?_) hcls;obtain ⟨oL,_,_,hoL,_⟩:=id hn;refine h _ ⟨I.ok,I.os,I.bare,⟨fun b o e n hb hx=>?_,fun b o e n hb hx=>?_,I.base.free,fun b o e hx=>?_,I.base.tups,I.base.frzs,I.base.tbls⟩,⟨_,hn',fun j y v' e1 e2 e3=>?_⟩,fun y c e=>?_,I.free,I.freeC,fun p hp=>?_,tracked ⟨oL,hoL,I.free⟩ hs,by simpa using I.len⟩ ⟨_,hs,.inl rfl⟩
  ·exact (hs.2 b (Nat.ne_of_lt (Nat.lt_of_lt_of_le (Heap.lt_size e) I.ok.above))).trans (I.base.keep b o e n hb hx)
  ·obtain ⟨sl, e1⟩ := I.base.slot b o e n hb hx;exact ⟨sl,(hs.2 b (Nat.ne_of_lt (Nat.lt_of_lt_of_le (Heap.lt_size e) I.ok.above))).trans e1⟩
  ·obtain ⟨o', e1⟩ := I.base.there b o e hx;exact ⟨o',(hs.2 b (Nat.ne_of_lt (Nat.lt_of_lt_of_le (Heap.lt_size e) I.ok.above))).trans e1⟩
  ·by_cases hj : j = i
   ·subst hj;rw [hi] at e1;obtain rfl:=sI e1;rw [List.getElem?_set_self hiσ] at e2;cases e2;exact ⟨u,r,.inl ⟨hk,by simp⟩⟩
   ·rw [List.getElem?_set_ne (Ne.symm hj)] at e2;obtain ⟨u',r',q⟩:=hl j y v' e1 e2 e3;refine ⟨u',r',?_⟩;rcases q with ⟨k,e⟩ | ⟨k,c,e,z⟩
    ·refine .inl ⟨k, ?_⟩;have:y≠x:=fun e=>hj (zj0 hN e1 (e ▸ hi));simp [this,e]
    ·exact .inr ⟨k,c,e,z.sameBut hs (cne y c e)⟩
  ·obtain ⟨w', z⟩ := I.cell y c e;exact ⟨w',z.sameBut hs (cne y c e)⟩
  ·obtain ⟨e, n, ne, nf, d⟩ := I.pin p hp;exact ⟨(hs.2 p.1 ne).trans e,n,ne,nf,d⟩
 ·have hfn:X.fn x=true:=by
   rcases hf with z | z
   ·exact z
   ·rw [z] at hk;cases hk
  obtain ⟨c,hc⟩:=I.ok.has x (.inl hk);obtain ⟨w',z⟩:=I.cell x c hc;refine wpAny_storeName_cell I.ok.kind hk hc z (fun h' hc' hs=>?_);obtain ⟨oc,hoc,hocd⟩:=id z;refine h { s with heap:=h' } ⟨I.ok,I.os,I.bare,⟨fun b o e n hb hx=>?_,fun b o e n hb hx=>?_,I.base.free,fun b o e hx=>?_,I.base.tups,I.base.frzs,I.base.tbls⟩,⟨m,hn.sameBut hs (Ne.symm (cne x c hc)),fun j y v' e1 e2 e3=>?_⟩,fun y c' e=>?_,I.free,I.freeC,fun p hp=>?_,tracked ⟨oc,hoc,I.freeC x c hc⟩ hs,by simpa using I.len⟩ ⟨c,hs,.inr hc⟩
  ·exact (hs.2 b (Nat.ne_of_lt (Nat.lt_of_lt_of_le (Heap.lt_size e) (I.ok.cab x c hfn hc)))).trans (I.base.keep b o e n hb hx)
  ·obtain ⟨sl, e1⟩ := I.base.slot b o e n hb hx;exact ⟨sl,(hs.2 b (Nat.ne_of_lt (Nat.lt_of_lt_of_le (Heap.lt_size e) (I.ok.cab x c hfn hc)))).trans e1⟩
  ·obtain ⟨o', e1⟩ := I.base.there b o e hx;exact ⟨o',(hs.2 b (Nat.ne_of_lt (Nat.lt_of_lt_of_le (Heap.lt_size e) (I.ok.cab x c hfn hc)))).trans e1⟩
  ·by_cases hj : j = i
   ·subst hj;rw [hi] at e1;obtain rfl:=sI e1;rw [List.getElem?_set_self hiσ] at e2;cases e2;exact ⟨u,r,.inr ⟨.inl hk,c,hc,hc'⟩⟩
   ·rw [List.getElem?_set_ne (Ne.symm hj)] at e2;obtain ⟨u',r',q⟩:=hl j y v' e1 e2 e3;refine ⟨u',r',?_⟩;rcases q with q | ⟨k,c',e,z'⟩
    ·exact .inl q
    ·refine .inr ⟨k, c', e, z'.sameBut hs ?_⟩;rintro rfl;exact hj (zj0 hN e1 (I.ok.inj _ _ _ e hc ▸ hi))
  ·by_cases hcc : c' = c
   ·subst hcc;exact ⟨_,hc'⟩
   ·obtain ⟨w2, z2⟩ := I.cell y c' e;exact ⟨w2,z2.sameBut hs hcc⟩
  ·obtain ⟨e, n, ne, nf, d⟩ := I.pin p hp;refine ⟨(hs.2 p.1 ?_).trans e,n,ne,nf,d⟩;intro q;rw [q,hoc] at e;have q' : oc=p.2:=sI e;exact d w' (by rw [<-q'];exact hocd)
theorem zfy {M:Model}{A:Around}{E:Value->Shared->Prop}{i:Nat}{x:Str}{v:V}{u:Value}{Q:Unit->Shared->Prop} (I:Inv X pins σ H s) (hN:X.N.Nodup) (hi:X.N[i]?=some x) (hx:Loc X.env.scope x) (r:RelV v u)
  (h:∀s',Inv X pins (σ.set i (some v)) H s'->Q () s') (hf:X.fn x=true\/X.env.scope.names.lookup x=some .local:=by first | exact .inl rfl | exact .inr rfl | assumption):wpAny M A (storeName X.env x u) Q E s :=
 zhm I hN hi hx r (fun s' I' _=>h s' I') hf
theorem Inv.call' {s' : Shared}{ch:List Addr} (I:Inv X pins σ H s) (ho:s'.os=s.os) (u:Un (frs X.stack) ch H H' s.heap s'.heap) (hok:HOk X.prog X.w H' s'.heap) (hg:AllBare s'.gens)
  (hch:∀b∈ch,(b∈X.ex\/X.s₀.heap.objs.size<=b)/\b≠X.env.locals/\(∀x c,X.env.cells.lookup x=some c->c≠b)/\∀p∈X.pn++pins,p.1≠b):Inv X pins σ H' s':=by
 obtain ⟨h',g',d',t',o'⟩:=s';have e:o'=s.os:=ho;subst e;exact I.call (g':=g') (t':=t') (d':=d') u hok hg hch
end
noncomputable abbrev XK:=Value->Option Addr->Hp->Prop
noncomputable abbrev St:=List (Option V)
noncomputable abbrev VK:=V->Hp->Prop
noncomputable abbrev TE:=St->Hp->VK->Prop
noncomputable abbrev TT:=St->Hp->(Bool->Hp->Prop)->Prop
noncomputable abbrev TA:=St->Hp->(List V->Hp->Prop)->Prop
structure Ends where
 nx:St->Hp->Prop
 rt:VK
 bk:St->Hp->Prop:=fun _ _=>False
 ct:St->Hp->Prop:=fun _ _=>False
noncomputable abbrev TS:=Ends->St->Hp->Prop
noncomputable def EP (X:Cx) (pins:List (Addr × Obj)) (σ:St) (Q:VK) (u:Value) (s' : Shared):Prop:=∃v H',Inv X pins σ H' s'/\RelV v u/\Q v H'
noncomputable def TP (X:Cx) (pins:List (Addr × Obj)) (σ:St) (Q:Bool->Hp->Prop) (b:Bool) (s' : Shared):Prop:=∃H',Inv X pins σ H' s'/\Q b H'
noncomputable def AP (X:Cx) (pins:List (Addr × Obj)) (σ:St) (Q:List V->Hp->Prop) (us:List Value) (s' : Shared):Prop:=∃vs H',Inv X pins σ H' s'/\Vals vs us/\Q vs H'
noncomputable def SP (X:Cx) (pins:List (Addr × Obj)) (D:Ends) (f:Flow) (s' : Shared):Prop :=
 match f with
 | .next=>∃σ' H',Inv X pins σ' H' s'/\D.nx σ' H'
 | .brk=>∃σ' H',Inv X pins σ' H' s'/\D.bk σ' H'
 | .cont=>∃σ' H',Inv X pins σ' H' s'/\D.ct σ' H'
 | .ret u=>∃v σ' H',Inv X pins σ' H' s'/\RelV v u/\D.rt v H'
noncomputable def PE (X:Cx) (e:Expr) (t:TE):Prop :=
 ∀(pins:List (Addr × Obj)) (s:Shared) (σ:St) (H:Hp) (Q:VK),Inv X pins σ H s->t σ H Q->wpAny (model X.prog X.w) X.A (eval e X.env) (EP X pins σ Q) X.xe s
noncomputable def PT (X:Cx) (e:Expr) (t:TT):Prop :=
 ∀(pins:List (Addr × Obj)) (s:Shared) (σ:St) (H:Hp) (Q:Bool->Hp->Prop),Inv X pins σ H s->t σ H Q->wpAny (model X.prog X.w) X.A (isTrue e X.env (eval e X.env)) (TP X pins σ Q) X.xe s
noncomputable def PW (X:Cx) (e:Expr) (t:TT):Prop :=
 ∀(whole:Sem Value) (pins:List (Addr × Obj)) (s:Shared) (σ:St) (H:Hp) (Q:Bool->Hp->Prop),Inv X pins σ H s->t σ H Q->wpAny (model X.prog X.w) X.A (isTrue e X.env whole) (TP X pins σ Q) X.xe s
theorem PW.pt {X:Cx}{e:Expr}{t:TT} (h:PW X e t):PT X e t:=h _
noncomputable def PA (X:Cx) (es:List Expr) (t:TA):Prop :=
 ∀(pos:Pos) (pins:List (Addr × Obj)) (s:Shared) (σ:St) (H:Hp) (Q:List V->Hp->Prop),Inv X pins σ H s->t σ H Q->wpAny (model X.prog X.w) X.A (spliced (backTo pos (starEach es X.env))) (AP X pins σ Q) X.xe s
noncomputable def PS (X:Cx) (st:Stmt) (t:TS):Prop :=
 ∀(pins:List (Addr × Obj)) (s:Shared) (σ:St) (H:Hp) (D:Ends),Inv X pins σ H s->t D σ H->wpAny (model X.prog X.w) X.A (exec st X.env) (SP X pins D) X.xe s
noncomputable def PSs (X:Cx) (st:List Stmt) (t:TS):Prop :=
 ∀(pins:List (Addr × Obj)) (s:Shared) (σ:St) (H:Hp) (D:Ends),Inv X pins σ H s->t D σ H->wpAny (model X.prog X.w) X.A (execs st X.env) (SP X pins D) X.xe s
theorem thn {α:Type}{t:Sem α}{Q Q' : α->Shared->Prop}{M:Model}{A:Around}{E:Value->Shared->Prop}{s:Shared} (h:wpAny M A t Q E s) (hQ:∀a s,Q a s->Q' a s):wpAny M A t Q' E s:=wpAny_mono h hQ fun _ _ x=>x
end L2
namespace L2
open PySem PySem.Spec PyProof.Rows
section
variable {X:Cx}
theorem bin {a b:Expr}{ta tb:TE} (ha:PE X a ta) (hb:PE X b tb) {pins:List (Addr × Obj)}{s:Shared}{σ:St}{H:Hp}{R:V->V->Hp->Prop} (I:Inv X pins σ H s) (h:ta σ H fun x H1=>tb σ H1 fun y H2=>R x y H2)
  {α:Type}{Q:α->Shared->Prop}{f:Value->Value->Sem α}
  (hf:∀v u s2 x y H2,Inv X pins σ H2 s2->RelV x v->RelV y u->R x y H2->wpAny (model X.prog X.w) X.A (f v u) Q X.xe s2) :
  wpAny (model X.prog X.w) X.A (eval a X.env) (fun v s₁=>wpAny (model X.prog X.w) X.A (eval b X.env) (fun u s₂=>wpAny (model X.prog X.w) X.A (f v u) Q X.xe s₂) X.xe s₁) X.xe s:=by
 refine thn (ha pins s σ H _ I h) fun v s1 ⟨x,H1,I1,r1,q1⟩=>?_;refine thn (hb pins s1 σ H1 _ I1 q1) fun u s2 ⟨y,H2,I2,r2,q2⟩=>?_;exact hf v u s2 x y H2 I2 r1 r2 q2
noncomputable def tVar (i:Nat):TE:=fun σ H Q=>∃v,σ[i]?=some (some v)/\Q v H
noncomputable def tC (v:V):TE:=fun _ H Q=>Q v H
theorem zou {i:Nat}{x:Str}{pos:Pos} (hN:X.N[i]?=some x) (hv:Vis X.env.scope x) (hd:(x == ("__debug__" : Str))=false:=by decide) (hcd:(x == ("__classdict__" : Str))=false:=by decide):PE X (.Name x pos) (tVar i):=by
 intro pins s σ H Q I h;refine aG fun _ qG=>?_;obtain ⟨v,e,h⟩:=h;obtain ⟨m,hn,hl⟩:=I.loc;obtain ⟨u,r,l⟩:=hl i x v hN e hv;refine qG ?_;clear qG;have fin:EP X pins σ Q u s:=⟨v,H,I,r,h⟩;rcases l with ⟨hk,hm⟩ | ⟨hk,c,hc,hcell⟩
 ·exact wpAny_Name (wpAny_loadName_local I.ok.kind hk hn hm fin) hd
 ·rcases hk with hk | hk
  ·exact wpAny_Name (wpAny_loadName_cell I.ok.kind hk hc hcell fin) hd
  ·exact wpAny_Name (wpAny_loadName_free I.ok.kind hk hc hcell fin hcd) hd
theorem zxx {i j pos}:PE X (.Constant (.int i) j pos) (tC (.int i)):=fun _ _ _ H _ I h=>wpAny_Constant_int ⟨.int i,H,I.tok _,⟨_,rfl⟩,h⟩
theorem zyv {b j pos}:PE X (.Constant (.bool b) j pos) (tC (.bl b)):=fun _ _ _ H _ I h=>Constant_bool ⟨.bl b,H,I,rfl,h⟩
theorem zwq {j pos}:PE X (.Constant .none j pos) (tC .non):=fun _ _ _ H _ I h=>Constant_none ⟨.non,H,I,rfl,h⟩
theorem zrl {x j pos}:PE X (.Constant (.str x) j pos) (tC (.str x)):=fun _ _ _ H _ I h=>Calls.Constant_str ⟨.str x,H,I.tok _,⟨_,rfl⟩,h⟩
noncomputable def Gl (X:Cx) (x:Str):Prop:=X.env.kindOf x=some .globalImplicit
theorem zvd {E:Value->Shared->Prop}{pins:List (Addr × Obj)}{s:Shared}{σ:St}{H:Hp}{x:Str}{u:Value}{pos:Pos}{Q:Value->Shared->Prop} (I:Inv X pins σ H s) (hg:Gl X x) (hm:X.mg x=some u) (h:Q u s)
  (hd:(x == ("__debug__" : Str))=false:=by decide):wpAny (model X.prog X.w) X.A (eval (.Name x pos) X.env) Q E s :=
 Calls.Name_function_global I.ok.kind hg (Calls.loadGlobal_global (by rw [I.ok.glob];exact I.mod.glob.keeps I.bk) hm h) hd
theorem zed {E:Value->Shared->Prop}{pins:List (Addr × Obj)}{s:Shared}{σ:St}{H:Hp}{x:Str}{u:Value}{pos:Pos}{Q:Value->Shared->Prop} (I:Inv X pins σ H s) (hg:Gl X x) (hm:X.mg x=none) (hv:bootBuiltins x=some u) (h:Q u s)
  (hn:x≠"__name__" := by decide) (hd:(x == ("__debug__" : Str))=false:=by decide):wpAny (model X.prog X.w) X.A (eval (.Name x pos) X.env) Q E s:=by
 obtain ⟨mb,h1,h2⟩:=I.mod.blt;exact Calls.Name_function_global I.ok.kind hg (Calls.loadGlobal_builtin (by rw [I.ok.glob];exact I.mod.glob.keeps I.bk) hm (by rw [I.ok.blt];exact h1.keeps I.bk) ((h2 x hn).trans hv) h) hd
theorem zsp {x:Str}{v:V}{u:Value}{pos:Pos} (hg:Gl X x) (hm:X.mg x=none) (hv:bootBuiltins x=some u) (r:RelV v u) (hn:x≠"__name__" := by decide) (hd:(x == ("__debug__" : Str))=false:=by decide):PE X (.Name x pos) (tC v) :=
 fun _ _ _ H _ I h=>zed I hg hm hv ⟨v,H,I,r,h⟩ hn hd
variable {a b:Expr}{ta tb:TE}{pos:Pos}
noncomputable def PC (X:Cx) (op:CmpOp) (a b:Expr) (t:TE):Prop :=
  ∀(pins:List (Addr × Obj)) (s:Shared) (σ:St) (H:Hp) (Q:VK),Inv X pins σ H s->t σ H Q ->
    wpAny (model X.prog X.w) X.A (eval a X.env) (fun v s₁=>wpAny (model X.prog X.w) X.A (eval b X.env) (fun u s₂=>wpAny (model X.prog X.w) X.A (compareOp op v u) (EP X pins σ Q) X.xe s₂) X.xe s₁) X.xe s
theorem zo7 (b:Expr) {op:CmpOp} (h:op≠.In) (h2:op≠.NotIn):behindInMarks op b=false:=by
 have e1:(op == CmpOp.In)=false:=by cases op<;>first | rfl | exact absurd rfl h
 have e2:(op == CmpOp.NotIn)=false:=by cases op<;>first | rfl | exact absurd rfl h2
 cases b<;>simp [behindInMarks,e1,e2]
noncomputable def tB (t:TE):TT:=fun σ H Q=>t σ H fun x H1=>∃c,x=.bl c/\Q c H1
theorem zzs {op:CmpOp}{t:TE} (h:PC X op a b t) (h1:behindInMarks op b=false:=by first | exact zo7 _ (by decide) (by decide) | rfl):PT X (.Compare a [op] [b] pos) (tB t):=by
 intro pins s σ H Q I hw;refine wpAny_isTrue_Compare1 (thn (h pins s σ H _ I hw) fun v s1 h1=>thn h1 fun u s2 h2=>thn h2 fun c s3 ⟨x,H1,I1,r1,q1⟩=>?_) h1;obtain ⟨d,rfl,q⟩:=q1;cases r1;exact wpAny_truthy_bool ⟨H1,I1,q⟩
theorem zxi {e:Expr}{t:TE} (h:PE X e t) (he:∀whole,isTrue e X.env whole=(do let v <- whole;standAt e.pos;holding [v] (truthy v)):=by intro _;rfl):PT X e (tB t):=by
 intro pins s σ H Q I hw;refine isTrue_plain (thn (h pins s σ H _ I hw) fun v s1 ⟨x,H1,I1,r1,q1⟩=>?_) (he _);obtain ⟨d,rfl,q⟩:=q1;cases r1;exact wpAny_truthy_bool ⟨H1,I1,q⟩
variable {tA tB' : TT}{rest:List Expr}
noncomputable def tAnd (t u:TT):TT:=fun σ H Q=>t σ H fun c H1=>if c=true then u σ H1 Q else Q false H1
noncomputable def tOr (t u:TT):TT:=fun σ H Q=>t σ H fun c H1=>if c=true then Q true H1 else u σ H1 Q
noncomputable def tNot (t:TT):TT:=fun σ H Q=>t σ H fun c H1=>Q (!c) H1
theorem zuy (ha:PT X a tA):PW X (.BoolOp .And [a] pos) tA:=by
 intro wh pins s σ H Q I h;refine isTrue_and (thn (ha pins s σ H Q I h) fun c s1 e=>?_);cases c with
 | true=>exact isTrue_and_nil e
 | false=>exact e
theorem zwd (ha:PT X a tA):PW X (.BoolOp .Or [a] pos) tA:=by
 intro wh pins s σ H Q I h;refine isTrue_or (thn (ha pins s σ H Q I h) fun c s1 e=>?_);cases c with
 | false=>exact isTrue_or_nil e
 | true=>exact e
theorem zx3 (ha:PT X a tA) (hb:PW X (.BoolOp .And (b::rest) pos) tB'):PW X (.BoolOp .And (a::b::rest) pos) (tAnd tA tB'):=by
 intro wh pins s σ H Q I h;refine isTrue_and (thn (ha pins s σ H _ I h) fun c s1 ⟨H1,I1,q1⟩=>?_);cases c with
 | true=>exact hb wh pins s1 σ H1 Q I1 q1
 | false=>exact ⟨H1,I1,q1⟩
theorem zy1 (ha:PT X a tA) (hb:PW X (.BoolOp .Or (b::rest) pos) tB'):PW X (.BoolOp .Or (a::b::rest) pos) (tOr tA tB'):=by
 intro wh pins s σ H Q I h;refine isTrue_or (thn (ha pins s σ H _ I h) fun c s1 ⟨H1,I1,q1⟩=>?_);cases c with
 | true=>exact ⟨H1,I1,q1⟩
 | false=>exact hb wh pins s1 σ H1 Q I1 q1
theorem zvi (ha:PT X a tA):PT X (.UnaryOp .Not a pos) (tNot tA):=by
 intro pins s σ H Q I h;exact isTrue_not (ha pins s σ H (fun c H1=>Q (!c) H1) I h)
noncomputable def zv3 (ta tb:TE):TE:=fun σ H Q=>ta σ H fun x H1=>∃c,x=.bl c/\if c=true then tb σ H1 Q else Q (.bl false) H1
theorem zw6 {op}{t:TE} (h:PE X a t):PE X (.BoolOp op [a] pos) t:=fun pins s σ H Q I hw=>BoolOp_one (h pins s σ H Q I hw)
theorem zw1 (ha:PE X a ta) (hb:PE X (.BoolOp .And (b::rest) pos) tb):PE X (.BoolOp .And (a::b::rest) pos) (zv3 ta tb):=by
 intro pins s σ H Q I h;refine BoolOp_and (thn (ha pins s σ H _ I h) fun v s1 ⟨x,H1,I1,r1,q1⟩=>?_);obtain ⟨c,rfl,q1⟩:=q1;cases r1;refine wpAny_truthy_bool ?_;cases c with
 | true=>exact hb pins s1 σ H1 Q I1 q1
 | false=>exact ⟨.bl false,H1,I1,rfl,q1⟩
noncomputable def tIf (t:TT) (ta tb:TE):TE:=fun σ H Q=>t σ H fun c H1=>if c=true then ta σ H1 Q else tb σ H1 Q
theorem zp6 {c:Expr} (hc:PT X c tA) (ha:PE X a ta) (hb:PE X b tb):PE X (.IfExp c a b pos) (tIf tA ta tb):=by
 intro pins s σ H Q I h;refine wpAny_IfExp (thn (hc pins s σ H _ I h) fun d s1 ⟨H1,I1,q1⟩=>?_);cases d with
 | true=>exact ha pins s1 σ H1 Q I1 q1
 | false=>exact hb pins s1 σ H1 Q I1 q1
end
end L2
namespace L2
open PySem PySem.Spec PyProof.Rows
noncomputable def SqL (K:PySem.W.Frag) (H:Hp) (a:Addr) (xs:List V):Prop :=
 Rd H a (.lst xs) \/
  ∃(o:Obj) (its:Array Value) (n:Nat),K.lookup a=some o/\o.cls=.type "list"/\o.dict=none/\o.data=.seq its n/\its.size<=sizeLine/\Vals xs its.toList
noncomputable def SqT (K:PySem.W.Frag) (H:Hp) (a:Addr) (xs:List V):Prop :=
 Rd H a (.tup xs) \/
  ∃(o:Obj) (its:Array Value) (n:Nat),K.lookup a=some o/\o.cls=.type "tuple"/\o.data=.seq its n/\its.size<=sizeLine/\Vals xs its.toList
noncomputable def absV:Value->Option V
 | .none=>some .non
 | .bool b=>some (.bl b)
 | .int i _=>some (.int i)
 | .str x _=>some (.str x)
 | .bytes b _=>some (.byt b)
 | .float b _=>some (.flt b)
 | .ref a=>some (.ref a)
 | .type n=>some (.ty n)
 | _=>none
theorem RelV.abs {x:V}{u:Value} (r:RelV x u):absV u=some x:=by
 cases x with
 | non=>cases r;rfl
 | bl _=>cases r;rfl
 | int _=>obtain ⟨t,rfl⟩:=r;rfl
 | str _=>obtain ⟨t,rfl⟩:=r;rfl
 | byt _=>obtain ⟨t,rfl⟩:=r;rfl
 | flt _=>obtain ⟨t,rfl⟩:=r;rfl
 | ref _=>cases r;rfl
 | ty _=>cases r;rfl
theorem RelV.inj {x y:V}{u:Value} (r:RelV x u) (q:RelV y u):x=y:=sI (r.abs.symm.trans q.abs)
theorem Vals.inj:∀{xs ys:List V}{us:List Value},Vals xs us->Vals ys us->xs=ys
 | _,_,_,.nil,.nil=>rfl
 | _,_,_,.cons r t,.cons r' t'=>by rw [r.inj r',Vals.inj t t']
section
variable {X:Cx}{pins:List (Addr × Obj)}{σ:St}{H:Hp}{s:Shared}{a:Addr}{xs ys:List V}
theorem Inv.list (I:Inv X pins σ H s) (h:SqL X.K H a xs):∃its:List Value,Vals xs its/\PlainL s.heap a its.toArray/\xs.length<=sizeLine:=by
 rcases h with h | ⟨o,its,n,hk,hc,hd,hs,hz,r⟩
 ·obtain ⟨z, its, n, r, e⟩ := h.ok I.hok;exact ⟨its,r,⟨_,n,e,rfl,rfl,rfl⟩,z⟩
 ·refine ⟨its.toList, r, ⟨o, n, I.kIn a o hk, hc, hd, by simpa using hs⟩, ?_⟩;have e:=r.length;simp only [Array.length_toList] at e;omega
theorem Inv.tuple (I:Inv X pins σ H s) (h:SqT X.K H a xs):∃its:List Value,Vals xs its/\IsTup s.heap a its.toArray/\xs.length<=sizeLine:=by
 rcases h with h | ⟨o,its,n,hk,hc,hs,hz,r⟩
 ·obtain ⟨z, its, r, p⟩ := h.ok I.hok;exact ⟨its,r,p,z⟩
 ·refine ⟨its.toList, r, ⟨o, I.kIn a o hk, hc, n, by simpa using hs⟩, ?_⟩;have e:=r.length;simp only [Array.length_toList] at e;omega
theorem Inv.list_inj (I:Inv X pins σ H s) (h:SqL X.K H a xs) (h' : SqL X.K H a ys):xs=ys:=by
 obtain ⟨its,r,⟨o,n,e,_,_,d⟩,_⟩:=I.list h;obtain ⟨its',r',⟨o',n',e',_,_,d'⟩,_⟩:=I.list h';rw [e] at e';obtain rfl:=sI e';rw [d] at d';injection d' with d1 _;have:its=its':=by simpa using congrArg Array.toList d1
 subst this;exact r.inj r'
theorem Inv.tuple_inj (I:Inv X pins σ H s) (h:SqT X.K H a xs) (h' : SqT X.K H a ys):xs=ys:=by
 obtain ⟨its,r,⟨o,e,_,n,d⟩,_⟩:=I.tuple h;obtain ⟨its',r',⟨o',e',_,n',d'⟩,_⟩:=I.tuple h';rw [e] at e';obtain rfl:=sI e';rw [d] at d';injection d' with d1 _;have:its=its':=by simpa using congrArg Array.toList d1
 subst this;exact r.inj r'
end
noncomputable abbrev Cx.wish (X:Cx) (E:Value->Shared->Prop):Cx:={ X with xe:=E }
noncomputable abbrev Cx.nox (X:Cx):Cx:=X.wish fun _ _=>False
theorem Cx.Ok.wish {X:Cx} (ok:X.Ok) (E:Value->Shared->Prop):(X.wish E).Ok :=
 ⟨ok.mod,ok.kind,ok.glob,ok.blt,ok.above,ok.inj,ok.has,ok.cab,ok.hd,ok.frames,ok.stk,ok.exf,ok.bs,ok.bsz,ok.noex,ok.exfs,ok.funs,ok.frf⟩
theorem Cx.Ok.unwish {X:Cx}{E:Value->Shared->Prop} (ok:(X.wish E).Ok):X.Ok :=
 ⟨ok.mod,ok.kind,ok.glob,ok.blt,ok.above,ok.inj,ok.has,ok.cab,ok.hd,ok.frames,ok.stk,ok.exf,ok.bs,ok.bsz,ok.noex,ok.exfs,ok.funs,ok.frf⟩
section
variable {X:Cx}{pins:List (Addr × Obj)}{σ:St}{H:Hp}{s:Shared}{E:Value->Shared->Prop}
theorem Inv.wish (I:Inv X pins σ H s) (E:Value->Shared->Prop):Inv (X.wish E) pins σ H s:=⟨I.ok.wish E,I.os,I.bare,I.base,I.loc,I.cell,I.free,I.freeC,I.pin,I.hok,I.len⟩
theorem Inv.unwish (I:Inv (X.wish E) pins σ H s):Inv X pins σ H s:=⟨I.ok.unwish,I.os,I.bare,I.base,I.loc,I.cell,I.free,I.freeC,I.pin,I.hok,I.len⟩
theorem SP.unwish {D:Ends}{f:Flow}{s' : Shared} (h:SP (X.wish E) pins D f s'):SP X pins D f s':=by
 cases f with
 | next=>obtain ⟨σ',H',I,q⟩:=h;exact ⟨σ',H',I.unwish,q⟩
 | brk=>obtain ⟨σ',H',I,q⟩:=h;exact ⟨σ',H',I.unwish,q⟩
 | cont=>obtain ⟨σ',H',I,q⟩:=h;exact ⟨σ',H',I.unwish,q⟩
 | ret u=>obtain ⟨v,σ',H',I,r,q⟩:=h;exact ⟨v,σ',H',I.unwish,r,q⟩
theorem PSs.nox {st:List Stmt}{t:TS} (h:PSs X.nox st t):PSs X st t:=fun pins s σ H D I hw =>
 wpAny_mono (h pins s σ H D (I.wish _) hw) (fun _ _ q=>q.unwish) fun _ _ z=>False.elim z
end
section
variable {X:Cx}{st:Stmt}{rest:List Stmt}{t u:TS}{e:Expr}{te:TE}{pos:Pos}
noncomputable def zun:TS:=fun D σ H=>D.nx σ H
noncomputable def tSeq (t u:TS):TS:=fun D σ H=>t { D with nx:=u D } σ H
theorem zsy:PSs X [] zun:=fun _ _ σ H _ I h=>wpAny_execs_nil ⟨σ,H,I,h⟩
theorem zpd (h1:PS X st t) (h2:PSs X rest u):PSs X (st::rest) (tSeq t u):=by
  intro pins s σ H D I h;refine wpAny_execs_cons (thn (h1 pins s σ H { D with nx:=u D } I h) fun f s1 q=>?_);cases f with
  | next =>
    obtain ⟨σ',H',I',q⟩:=q;exact h2 pins s1 σ' H' D I' q
  | ret v=>exact q
  | brk=>exact q
  | cont=>exact q
theorem ztn (h1:PS X st t):PSs X [st] t:=by
 intro pins s σ H D I h;refine wpAny_execs_cons (thn (h1 pins s σ H D I h) fun f s1 q=>?_);cases f with
 | next=>exact wpAny_execs_nil q
 | ret v=>exact q
 | brk=>exact q
 | cont=>exact q
theorem zu0:PS X (.Pass pos) zun:=fun _ _ σ H _ I h=>wpAny_Pass ⟨σ,H,I,h⟩
theorem Inv.quiet {pins:List (Addr × Obj)}{σ:St}{H:Hp}{s:Shared} (I:Inv X pins σ H s):interactive X.env=false:=by simp [interactive,I.ok.kind]
noncomputable def zvm (te:TE):TS:=fun D σ H=>te σ H fun _ H1=>D.nx σ H1
theorem ztr (he:PE X e te) (hs:swapsWith e none pos.line X.env=pure false:=by rfl):PS X (.Expr e pos) (zvm te):=by
 intro pins s σ H D I h;exact wpAny_Expr_any (thn (he pins s σ H _ I h) fun v s1 ⟨x,H1,I1,r1,q1⟩=>⟨σ,H1,I1,q1⟩) I.quiet hs
noncomputable def tRet (te:TE):TS:=fun D σ H=>te σ H D.rt
theorem zro (he:PE X e te):PS X (.Return (some e) pos) (tRet te):=by
 intro pins s σ H D I h;exact wpAny_Return_some (thn (he pins s σ H _ I h) fun v s1 ⟨x,H1,I1,r1,q1⟩=>⟨x,σ,H1,I1,r1,q1⟩)
noncomputable def tIfS (c:TT) (t u:TS):TS:=fun D σ H=>c σ H fun b H1=>if b=true then t D σ H1 else u D σ H1
theorem zyx {c:Expr}{a b:List Stmt}{tc:TT} (hc:PT X c tc) (ha:PSs X a t) (hb:PSs X b u):PS X (.If c a b pos) (tIfS tc t u):=by
 intro pins s σ H D I h;refine wpAny_If (thn (hc pins s σ H _ I h) fun d s1 ⟨H1,I1,q1⟩=>?_);cases d with
 | true=>exact ha pins s1 σ H1 D I1 q1
 | false=>exact hb pins s1 σ H1 D I1 q1
end
noncomputable abbrev TG:=V->St->Hp->(St->Hp->Prop)->Prop
noncomputable abbrev TGs:=List V->St->Hp->(St->Hp->Prop)->Prop
noncomputable def PG (X:Cx) (target:Expr) (t:TG):Prop :=
  ∀(pins:List (Addr × Obj)) (s:Shared) (σ:St) (H:Hp) (v:V) (u:Value) (Q:St->Hp->Prop),Inv X pins σ H s->RelV v u->t v σ H Q ->
    wpAny (model X.prog X.w) X.A (assign target X.env u) (fun _ s'=>∃σ' H',Inv X pins σ' H' s'/\Q σ' H') X.xe s
noncomputable def PGs (X:Cx) (ts:List Expr) (t:TGs):Prop :=
  ∀(pins:List (Addr × Obj)) (s:Shared) (σ:St) (H:Hp) (vs:List V) (us:List Value) (Q:St->Hp->Prop),Inv X pins σ H s->Vals vs us->t vs σ H Q ->
    wpAny (model X.prog X.w) X.A (assignInOrder ((assignEach ts X.env).map (·.2)) us) (fun _ s'=>∃σ' H',Inv X pins σ' H' s'/\Q σ' H') X.xe s
noncomputable abbrev TSet:=V->V->V->Hp->(Hp->Prop)->Prop
noncomputable def PSet (X:Cx) (t:TSet):Prop :=
  ∀(pins:List (Addr × Obj)) (s:Shared) (σ:St) (H:Hp) (o i v:V) (ov iv u:Value) (Q:Hp->Prop),Inv X pins σ H s->RelV o ov->RelV i iv->RelV v u->t o i v H Q ->
    wpAny (model X.prog X.w) X.A (setItem ov iv u) (fun _ s'=>∃H',Inv X pins σ H' s'/\Q H') X.xe s
noncomputable abbrev TIp:=V->V->Hp->VK->Prop
noncomputable def PIp (X:Cx) (op:Operator) (t:TIp):Prop :=
  ∀(pins:List (Addr × Obj)) (s:Shared) (σ:St) (H:Hp) (x y:V) (v u:Value) (Q:VK),Inv X pins σ H s->RelV x v->RelV y u->t x y H Q ->
    wpAny (model X.prog X.w) X.A (inplaceOp op v u) (EP X pins σ Q) X.xe s
section
variable {X:Cx}{pos:Pos}
noncomputable def zk6 (i:Nat):TG:=fun v σ H Q=>Q (σ.set i (some v)) H
theorem zon {i:Nat}{x:Str} (hN:X.N.Nodup) (hi:X.N[i]?=some x) (hx:Loc X.env.scope x) (hf:X.fn x=true\/X.env.scope.names.lookup x=some .local:=by first | exact .inl rfl | exact .inr rfl | assumption):PG X (.Name x pos) (zk6 i):=by
 intro pins s σ H v u Q I r h;exact wpAny_assign_Name (zfy I hN hi hx r (fun s' I'=>⟨_,H,I',h⟩) hf)
noncomputable def gNil:TGs:=fun vs σ H Q=>vs=[]/\Q σ H
noncomputable def zwu (t:TG) (u:TGs):TGs:=fun vs σ H Q=>∃v r,vs=v::r/\t v σ H fun σ' H'=>u r σ' H' Q
theorem ztj:PGs X [] gNil:=by
 intro pins s σ H vs us Q I r h;obtain ⟨e,h⟩:=h;subst e;cases r;exact assignInOrder_nil ⟨σ,H,I,h⟩
theorem zqj {e:Expr}{es:List Expr}{t:TG}{u:TGs} (h1:PG X e t) (h2:PGs X es u)
    (hs:(assignEach (e::es) X.env).map (·.2)=assign e X.env::(assignEach es X.env).map (·.2):=by rfl):PGs X (e::es) (zwu t u):=by
  intro pins s σ H vs us Q I r h;obtain ⟨v,vr,e1,h⟩:=h;subst e1;cases r with
  | cons r rr =>
    rw [hs];refine assignInOrder_cons (thn (h1 pins s σ H _ _ _ I r h) fun _ s1 ⟨σ1,H1,I1,q1⟩=>?_);exact h2 pins s1 σ1 H1 _ _ Q I1 rr q1
noncomputable def gTup (K:PySem.W.Frag) (n:Nat) (t:TGs):TG:=fun v σ H Q=>∃a xs,v=.ref a/\SqT K H a xs/\xs.length=n/\t xs σ H Q
theorem zwy {es:List Expr}{k:Nat}{t:TGs}{n:Nat} (hc:X.calm=true) (h:PGs X es t)
  (hn:(assignEach es X.env).length=n:=by rfl) (hst:(assignEach es X.env).findIdx? (·.1)=none:=by rfl):PG X (.Tuple es k pos) (gTup X.K n t):=by
 intro pins s σ H v u Q I r hw;refine aG fun _ qG=>?_;obtain ⟨a,xs,e1,hq,hl,hw⟩:=hw;refine qG ?_;clear qG;subst e1;cases r;refine aG fun _ qG=>?_;obtain ⟨its,rv,ht,hz⟩:=I.tuple hq;refine qG ?_;clear qG;refine assign_Tuple_tuple (I.ok.hd hc) ht (by simp [hn,<-hl,rv.length]) hst fun h' hx=>?_;have I1:Inv X pins σ H { s with heap:=h' }:=I.kept (t':=s.toks) fun b o e=>hx b o (Nat.ne_of_lt (Heap.lt_size e)) e;exact h pins _ σ H xs _ Q I1 (by simpa using rv) hw
noncomputable def gSub (to ti:TE) (t:TSet):TG:=fun v σ H Q=>to σ H fun o H1=>ti σ H1 fun i H2=>t o i v H2 fun H3=>Q σ H3
theorem zxv {o i:Expr}{to ti:TE}{t:TSet} (ho:PE X o to) (hi:PE X i ti) (hs:PSet X t)
  (ha:∀v,assign (.Subscript o i pos) X.env v=(do
   let ov <- holding [v] (eval o X.env)
   let iv <- holding [v,ov] (eval i X.env)
   standAt pos
   holding [v,ov,iv] (setItem ov iv v)
   release [v,ov,iv] []):=by intro _;rfl):PG X (.Subscript o i pos) (gSub to ti t):=by
 intro pins s σ H v u Q I r h;rw [ha];refine wpAny_bind (wpAny_holding (thn (ho pins s σ H _ I h) fun ov s1 ⟨x,H1,I1,r1,q1⟩=>?_));refine wpAny_bind (wpAny_holding (thn (hi pins s1 σ H1 _ I1 q1) fun iv s2 ⟨y,H2,I2,r2,q2⟩=>?_));refine wpAny_bind (wpAny_standAt (wpAny_bind (wpAny_holding (thn (hs pins s2 σ H2 x y v ov iv u _ I2 r1 r2 r q2) fun _ s3 ⟨H3,I3,q3⟩=>?_))));exact wpAny_release ⟨σ,H3,I3,q3⟩
noncomputable def tAsg (te:TE) (g:TG):TS:=fun D σ H=>te σ H fun x H1=>g x σ H1 D.nx
theorem zvt {tg e:Expr}{te:TE}{g:TG} (he:PE X e te) (hg:PG X tg g) (hs:swapsWithSole [tg] e pos.line X.env=pure false:=by rfl) (hw:swappedStores [tg] e X.env=pure none:=by rfl)
  (h1:(assignEach [tg] X.env).map (·.2)=[assign tg X.env]:=by rfl):PS X (.Assign [tg] e pos) (tAsg te g):=by
 intro pins s σ H D I h;refine wpAny_Assign_stores (thn (he pins s σ H _ I h) fun v s1 ⟨x,H1,I1,r1,q1⟩=>?_) hs hw;rw [h1];exact thn (hg pins s1 σ H1 x v _ I1 r1 q1) fun _ s2 q=>q
theorem zrz {i:Nat}{x:Str}{e:Expr}{te:TE}{pos' : Pos} (hN:X.N.Nodup) (hi:X.N[i]?=some x) (hx:Loc X.env.scope x) (he:PE X e te) (hs:swapsWith e (some (.Name x pos')) pos.line X.env=pure false:=by rfl) (hf:X.fn x=true\/X.env.scope.names.lookup x=some .local:=by first | exact .inl rfl | exact .inr rfl | assumption) :
  PS X (.Assign [.Name x pos'] e pos) (tAsg te (zk6 i)):=by
 intro pins s σ H D I h;refine wpAny_Assign_Name (thn (he pins s σ H _ I h) fun v s1 ⟨y,H1,I1,r1,q1⟩=>?_) hs;exact zfy I1 hN hi hx r1 (fun s2 I2=>⟨_,H1,I2,q1⟩) hf
noncomputable def tAug (i:Nat) (te:TE) (ti:TIp):TS:=fun D σ H=>∃x,σ[i]?=some (some x)/\te σ H fun y H1=>ti x y H1 fun z H2=>D.nx (σ.set i (some z)) H2
theorem zwb {i:Nat}{x:Str}{e:Expr}{te:TE}{op:Operator}{ti:TIp}{pos' : Pos} (hN:X.N.Nodup) (hi:X.N[i]?=some x) (hx:Loc X.env.scope x) (he:PE X e te) (ho:PIp X op ti) (hf:X.fn x=true\/X.env.scope.names.lookup x=some .local:=by first | exact .inl rfl | exact .inr rfl | assumption) :
  PS X (.AugAssign (.Name x pos') op e pos) (tAug i te ti):=by
 intro pins s σ H D I h;obtain ⟨v,e1,h⟩:=h;obtain ⟨m,hn,hl⟩:=I.loc;have vis:Vis X.env.scope x:=by rcases hx with k | k;exact .inl k;exact .inr (.inl k)
 obtain ⟨u,r,l⟩:=hl i x v hi e1 vis;refine wpAny_AugAssign_Name ?_;have go:wpAny (model X.prog X.w) X.A (eval e X.env) (fun w s₂=>wpAny (model X.prog X.w) X.A (inplaceOp op u w) (fun r s₃=>wpAny (model X.prog X.w) X.A (storeName X.env x r) (fun _=>SP X pins D .next) X.xe s₃) X.xe s₂) X.xe s:=by
  refine thn (he pins s σ H _ I h) fun w s1 ⟨y,H1,I1,r1,q1⟩=>?_;refine thn (ho pins s1 σ H1 v y u w _ I1 r r1 q1) fun z s2 ⟨zv,H2,I2,r2,q2⟩=>?_;exact zfy I2 hN hi hx r2 (fun s3 I3=>⟨_,H2,I3,q2⟩) hf
 rcases l with ⟨hk,hm⟩ | ⟨hk,c,hc,hcell⟩
 ·exact wpAny_loadName_local I.ok.kind hk hn hm go
 ·rcases hk with hk | hk
  ·exact wpAny_loadName_cell I.ok.kind hk hc hcell go
  ·rcases hx with k | k
   ·have : X.env.scope.names.lookup x = some .free := hk;rw [k] at this;cases this
   ·have : X.env.scope.names.lookup x = some .free := hk;rw [k] at this;cases this
end
section
variable {X:Cx}{pos:Pos}
end
structure It where
 go:Nat->Hp->Prop
 yld:Nat->Hp->V->Hp->Prop
 stop:Nat->Hp->Prop
noncomputable def FpOk (X:Cx) (pins:List (Addr × Obj)) (H:Hp) (b:Addr):Prop :=
 H b=none/\b≠X.env.locals/\b ∉ X.fs/\(b∈X.ex\/X.s₀.heap.objs.size<=b)/\(∀x c,X.env.cells.lookup x=some c->c≠b)/\∀p∈X.pn++pins,p.1≠b
theorem Inv.fpOk {X:Cx}{pins:List (Addr × Obj)}{σ:St}{H H' : Hp}{s:Shared}{b:Addr} (I:Inv X pins σ H s) (hb:s.heap.objs.size<=b) (hn:H' b=none):FpOk X pins H' b:=by
 refine ⟨hn,Nat.ne_of_gt (Nat.lt_of_lt_of_le I.lt hb),I.nofs hb,.inr (Nat.le_trans I.sz hb),fun x c e z=>?_,fun p hp z=>?_⟩
 ·obtain ⟨v, q⟩ := I.cell x c e;exact absurd (Nat.lt_of_lt_of_le q.lt (by rw [z];exact hb)) (Nat.lt_irrefl _)
 ·exact absurd (Nat.lt_of_lt_of_le (Heap.lt_size (I.pin p hp).1) (by rw [z];exact hb)) (Nat.lt_irrefl _)
structure Turn (P:Program) (w:World) (K:PySem.W.Frag) (tg:Expr) (J:It) (fp:List Addr) (it:Addr) (tn:Nat->Heap->Prop):Prop where
 mem:it∈fp
 obj:∀i h,tn i h->∀b∈fp,∃o,h.get? b=some o/\∀v,o.data≠.cell v
 keep:∀i h h',tn i h->(∀b∈fp,∀o,h.get? b=some o->h'.get? b=some o)->tn i h'
 item:∀(X:Cx),X.prog=P->X.w=w->X.K=K->X.calm=true->∀(i:Nat) (pins:List (Addr × Obj)) (s:Shared) (σ:St) (H:Hp) (E:Value->Shared->Prop),Inv X pins σ H s->(∀b∈fp,FpOk X pins H b)->tn i s.heap->J.go i H ->
  wpAny (model P w) X.A (pyNext (.ref it)) (fun r s1=>∃u,r=some u /\
   wpAny (model P w) X.A (letOwnedTupleGo tg (.ref it) u) (fun _ s2=>∃x H',Inv X pins σ H' s2/\RelV x u/\J.yld i H x H'/\tn (i+1) s2.heap/\∀b∈fp,H' b=none) E s1) E s
 done:∀(X:Cx),X.prog=P->X.w=w->X.K=K->X.calm=true->∀(i:Nat) (pins:List (Addr × Obj)) (s:Shared) (σ:St) (H:Hp) (E:Value->Shared->Prop),Inv X pins σ H s->(∀b∈fp,FpOk X pins H b)->tn i s.heap->J.stop i H ->
  wpAny (model P w) X.A (pyNext (.ref it)) (fun r s1=>r=none/\Inv X pins σ H s1) E s
 self:∀(A:Around) (i:Nat) (s:Shared) (Q:Value->Shared->Prop) (E:Value->Shared->Prop),tn i s.heap->Q (.ref it) s->wpAny (model P w) A (pyIter (.ref it)) Q E s
noncomputable abbrev TI:=St->Hp->(It->Hp->Prop)->Prop
noncomputable def PIE (X:Cx) (pins:List (Addr × Obj)) (σ:St) (tg:Expr) (R:It->Hp->Prop) (itv:Value) (s2:Shared):Prop :=
 ∃(it:Addr) (fp:List Addr) (tn:Nat->Heap->Prop) (J:It) (H' : Hp),itv=.ref it/\Inv X pins σ H' s2/\Turn X.prog X.w X.K tg J fp it tn/\tn 0 s2.heap/\(∀b∈fp,FpOk X pins H' b)/\R J H'
noncomputable def PI (X:Cx) (tg iter:Expr) (wi:TI):Prop :=
  ∀(pins:List (Addr × Obj)) (s:Shared) (σ:St) (H:Hp) (R:It->Hp->Prop),Inv X pins σ H s->wi σ H R ->
    wpAny (model X.prog X.w) X.A (eval iter X.env) (fun v s1=>wpAny (model X.prog X.w) X.A (pyIter v) (PIE X pins σ tg R) X.xe s1) X.xe s
theorem zmo {M:Model}{A:Around}{E:Value->Shared->Prop}{s:Shared}{tg:Expr}{it:Addr}{u:Value}{o:Obj}{n:String}{vs:Array Value}{Q:Unit->Shared->Prop} (ho:s.heap.get? it=some o) (hc:o.cls=.type n) (hd:o.data=.fields vs)
    (hn:["enumerate","zip","dict_itemiterator","dict_reverseitemiterator","odict_iterator","itertools.zip_longest","itertools.pairwise"].contains n=false) (hQ:Q () s):wpAny M A (letOwnedTupleGo tg (.ref it) u) Q E s:=by
  unfold letOwnedTupleGo;cases tg<;>first
    | exact wpAny_pure hQ
    | (cases u<;>first
        | exact wpAny_pure hQ
        | (refine wpAny_bind (wpAny_load ho ?_)
           rw [hc,hd];show wpAny M A (if (["enumerate","zip","dict_itemiterator","dict_reverseitemiterator","odict_iterator","itertools.zip_longest","itertools.pairwise"].contains n && vs[0]? == some (rawInt _))=true then _ else _) Q E s;rw [if_neg (by intro h;rw [hn,Bool.false_and] at h;cases h)];exact wpAny_pure hQ))
noncomputable def Itl (K:PySem.W.Frag) (a:Addr):It :=
 ⟨fun i H=>∃xs x,SqL K H a xs/\xs[i]?=some x,fun i H x H'=>H'=H/\∀xs,SqL K H a xs->xs[i]?=some x,fun i H=>∃xs,SqL K H a xs/\xs.length<=i⟩
noncomputable def Itt (K:PySem.W.Frag) (a:Addr):It :=
 ⟨fun i H=>∃xs x,SqT K H a xs/\xs[i]?=some x,fun i H x H'=>H'=H/\∀xs,SqT K H a xs->xs[i]?=some x,fun i H=>∃xs,SqT K H a xs/\xs.length<=i⟩
noncomputable def Itr (lo:Int) (n:Nat):It:=⟨fun i _=>i < n,fun i H x H'=>H'=H/\x=.int (lo+i),fun i _=>n<=i⟩
theorem zgs {P:Program}{w:World}{K:PySem.W.Frag}{tg:Expr} (a it:Addr):Turn P w K tg (Itl K a) [it] it (fun i h=>h.IsListIter it a i) where
 mem:=by simp
 obj:=fun i h st b hb=>by
  have e:b=it:=by simpa using hb
  subst e;refine aG fun _ qG=>?_;obtain ⟨o,e,c,d⟩:=st;refine qG ?_;clear qG;exact ⟨o,e,fun v z=>by rw [d] at z;cases z⟩
 keep:=fun i h h' st k=>st.at fun o e=>k it (by simp) o e
 item:=by
  intro X hP hw hK hc i pins s σ H E I hf st hg;subst hP hw hK;refine aG fun _ qG=>?_;obtain ⟨xs,x,hq,hx⟩:=hg;obtain ⟨its,rv,p,hz⟩:=I.list hq;obtain ⟨u,hu,ru⟩:=rv.get hx;obtain ⟨f0,f1,f2,f3,f4,f5⟩:=hf it (by simp);refine qG ?_;clear qG;refine wpAny_pyNext_list_item st p.isList (x:=u) (by simpa using hu) fun h' st' sb=>?_;have I1:Inv X pins σ H { s with heap:=h' }:=I.turned (t':=s.toks) (fun b o hb e=>(sb.2 b hb).trans e) f0 f1 f3 f4 f5;refine aG fun _ qG=>?_;obtain ⟨o,e,c,d⟩:=id st';refine qG ?_;clear qG;exact ⟨u,rfl,zmo (s:={ s with heap:=h' }) e c d (by decide) ⟨x,H,I1,ru,⟨rfl,fun ys hy=>by rw [I.list_inj hy hq];exact hx⟩,st',fun b hb=>(hf b hb).1⟩⟩
 done:=by
  intro X hP hw hK hc i pins s σ H E I hf st hg;subst hP hw hK;refine aG fun _ qG=>?_;obtain ⟨xs,hq,hx⟩:=hg;obtain ⟨its,rv,p,hz⟩:=I.list hq;obtain ⟨f0,f1,f2,f3,f4,f5⟩:=hf it (by simp);refine qG ?_;clear qG;have hl:=rv.length;exact wpAny_pyNext_list_end (I.ok.hd hc) st p.isList (by simp;omega) fun h' eb=>⟨rfl,I.turned (t':=s.toks) (fun b o hb e=>eb b o hb e) f0 f1 f3 f4 f5⟩
 self:=fun _ _ _ _ _ st h=>wpAny_pyIter_listiter st h
theorem ze8 {P:Program}{w:World}{K:PySem.W.Frag}{tg:Expr} (a it:Addr):Turn P w K tg (Itt K a) [it] it (fun i h=>h.IsTupleIter it a i) where
 mem:=by simp
 obj:=fun i h st b hb=>by
  have e:b=it:=by simpa using hb
  subst e;refine aG fun _ qG=>?_;obtain ⟨o,e,c,d⟩:=st;refine qG ?_;clear qG;exact ⟨o,e,fun v z=>by rw [d] at z;cases z⟩
 keep:=fun i h h' st k=>st.at fun o e=>k it (by simp) o e
 item:=by
  intro X hP hw hK hc i pins s σ H E I hf st hg;subst hP hw hK;refine aG fun _ qG=>?_;obtain ⟨xs,x,hq,hx⟩:=hg;obtain ⟨its,rv,p,hz⟩:=I.tuple hq;obtain ⟨u,hu,ru⟩:=rv.get hx;obtain ⟨f0,f1,f2,f3,f4,f5⟩:=hf it (by simp);refine qG ?_;clear qG;refine wpAny_pyNext_tuple_item st (show s.heap.IsTuple a its.toArray from p) (x:=u) (by simpa using hu) fun h' st' sb=>?_;have I1:Inv X pins σ H { s with heap:=h' }:=I.turned (t':=s.toks) (fun b o hb e=>(sb.2 b hb).trans e) f0 f1 f3 f4 f5;refine aG fun _ qG=>?_;obtain ⟨o,e,c,d⟩:=id st';refine qG ?_;clear qG;exact ⟨u,rfl,zmo (s:={ s with heap:=h' }) e c d (by decide) ⟨x,H,I1,ru,⟨rfl,fun ys hy=>by rw [I.tuple_inj hy hq];exact hx⟩,st',fun b hb=>(hf b hb).1⟩⟩
 done:=by
  intro X hP hw hK hc i pins s σ H E I hf st hg;subst hP hw hK;refine aG fun _ qG=>?_;obtain ⟨xs,hq,hx⟩:=hg;obtain ⟨its,rv,p,hz⟩:=I.tuple hq;obtain ⟨f0,f1,f2,f3,f4,f5⟩:=hf it (by simp);refine qG ?_;clear qG;have hl:=rv.length;exact wpAny_pyNext_tuple_end (I.ok.hd hc) st (show s.heap.IsTuple a its.toArray from p) (by simp;omega) fun h' eb=>⟨rfl,I.turned (t':=s.toks) (fun b o hb e=>eb b o hb e) f0 f1 f3 f4 f5⟩
 self:=fun _ _ _ _ _ st h=>wpAny_pyIter_tupleiter st h
theorem zlj {P:Program}{w:World}{K:PySem.W.Frag}{tg:Expr} (it:Addr) (lo:Int) (n:Nat):Turn P w K tg (Itr lo n) [it] it (fun i h=>IsRangeIter h it (lo+(i:Nat) * 1) ((n:Int) - (i:Nat)) 1) where
 mem:=by simp
 obj:=fun i h st b hb=>by
  have e:b=it:=by simpa using hb
  subst e;exact ⟨_,st,fun v z=>by
   have z' : Data.fields _=Data.cell v:=z;cases z'⟩
 keep:=fun i h h' st k=>k it (by simp) _ st
 item:=by
  intro X hP hw hK hc i pins s σ H E I hf st hg;subst hP hw hK;refine aG fun _ qG=>?_;obtain ⟨f0,f1,f2,f3,f4,f5⟩:=hf it (by simp);refine qG ?_;clear qG;have W:=Walks.range (prog:=X.prog) (w:=X.w) (I.ok.hd hc) it lo 1 n;refine W.item i s _ _ hg st fun v h' tk hv st' kk=>?_;obtain ⟨t,rfl⟩:=hv;have I1:Inv X pins σ H { s with heap:=h',toks:=tk }:=I.turned (fun b o hb e=>kk b o (by simpa using hb) e) f0 f1 f3 f4 f5;refine ⟨_,rfl,zmo (s:={ s with heap:=h',toks:=tk }) (n := "range_iterator") st' rfl rfl (by decide) ⟨.int (lo+i),H,I1,⟨t,?_⟩,⟨rfl,rfl⟩,st',fun b hb=>(hf b hb).1⟩⟩;rw [Int.mul_one]
 done:=by
  intro X hP hw hK hc i pins s σ H E I hf st hg;subst hP hw hK;refine aG fun _ qG=>?_;obtain ⟨f0,f1,f2,f3,f4,f5⟩:=hf it (by simp);refine qG ?_;clear qG;exact wpAny_pyNext_range_end (I.ok.hd hc) st (by have:n<=i:=hg;omega) fun h' eb=>⟨rfl,I.turned (t':=s.toks) (fun b o hb e=>eb b o hb e) f0 f1 f3 f4 f5⟩
 self:=fun _ _ _ _ _ st h=>wpAny_pyIter_rangeiter st h
end L2
namespace L2
open PySem PySem.Spec PyProof.Rows
section
variable {X:Cx}{tg:Expr}
theorem zqa {pins:List (Addr × Obj)}{σ:St}{H:Hp}{s:Shared}{R:It->Hp->Prop}{E:Value->Shared->Prop}{lo hi:Int}{t u v:Tok}{tk:Nat} (I:Inv X pins σ H s) (h1:-(2 ^ 62)<=lo) (h2:lo < 2 ^ 62) (h3:-(2 ^ 62)<=hi) (h4:hi < 2 ^ 62)
  (q:R (Itr lo (hi - lo).toNat) H):wpAny (model X.prog X.w) X.A (pyIter (.ref s.heap.objs.size)) (PIE X pins σ tg R) E { s with heap:=s.heap.push { cls:=.type "range",data:=.fields #[.int lo t,.int hi u,.int 1 v] },toks:=tk }:=by
 refine wpAny_pyIter_range (IsRange.new ..) (small_one h1 h2 h3 h4) ?_;have I1:Inv X pins σ H { s with heap:=s.heap.push { cls:=.type "range",data:=.fields #[.int lo t,.int hi u,.int 1 v] },toks:=tk }:=I.kept fun b o e=>Heap.get?_push_of_some _ e;refine ⟨(s.heap.push { cls:=.type "range",data:=.fields #[.int lo t,.int hi u,.int 1 v] }).objs.size,[(s.heap.push { cls:=.type "range",data:=.fields #[.int lo t,.int hi u,.int 1 v] }).objs.size],_,_,H,rfl,
  I1.kept (t':=tk) fun b o e=>Heap.get?_push_of_some _ e,zlj _ lo (hi - lo).toNat,?_,fun b hb=>?_,q⟩
 ·have e1 : lo + ((0 : Nat) : Int) * 1 = lo := by simp
  have e2:(((hi - lo).toNat:Nat):Int) - ((0:Nat):Int)=Builtin.Range.rangeSize lo hi 1:=by rw [rangeSize_one];split<;>omega
  show IsRangeIter _ _ (lo+((0:Nat):Int) * 1) ((((hi - lo).toNat:Nat):Int) - ((0:Nat):Int)) 1;rw [e1,e2];exact Heap.get?_push_size _ rfl
 ·have e : b = (s.heap.push { cls := .type "range", data := .fields #[.int lo t, .int hi u, .int 1 v] }).objs.size := by simpa using hb
  subst e;exact I1.fpOk (Nat.le_refl _) (I1.hok.fresh (Nat.le_refl _))
noncomputable def zya (ta:TA):TI:=fun σ H R=>ta σ H fun vs H1=>∃j:Int,vs=[.int j]/\-(2 ^ 62)<=j/\j < 2 ^ 62/\R (Itr 0 j.toNat) H1
theorem zm7 {a:Expr}{ta:TA}{p pos:Pos} (hg:Gl X "range") (hm:X.mg "range" = none) (ha:PA X [a] ta) (hs:starEach [a] X.env=[(false,eval a X.env)]:=by rfl):PI X tg (.Call (.Name "range" p) [a] [] pos) (zya ta):=by
  intro pins s σ H R I h;refine Call_ (zed I hg hm boot_range (PyProof.Rows.callWith_type1 (thn (ha pos pins s σ H _ I h) fun us s1 ⟨vs,H1,I1,r1,q1⟩=>?_) hs rfl));refine aG fun _ qG=>?_;obtain ⟨j,e,q1,q2,q⟩:=q1;refine qG ?_;clear qG;subst e;cases r1 with
  | cons r rr =>
    cases rr;obtain ⟨t,rfl⟩:=r;exact call_range_1 (zqa I1 (by omega) (by omega) q1 q2 (by simpa using q))
noncomputable def tFor (wi:TI) (g:TG) (tb:TS):TS:=fun D σ H=>wi σ H fun J H1=>∃W:Nat->Nat->St->Hp->Prop,(∃m,W 0 m σ H1)/\∀i m σ H,W i m σ H ->
 (J.stop i H/\D.nx σ H)\/(J.go i H/\∃N:St->Hp->Prop,(∀σ' H',N σ' H'->∃m',m' < m/\W (i+1) m' σ' H')/\∀x H',J.yld i H x H'->g x σ H' fun σ2 H2=>tb { D with nx:=N,ct:=N,bk:=D.nx } σ2 H2)
noncomputable def zf7 (fp:List Addr) (h:Heap):List (Addr × Obj):=fp.filterMap fun b=>(h.get? b).map fun o=>(b,o)
theorem zcm {fp:List Addr}{h:Heap}{b:Addr}{o:Obj} (hb:b∈fp) (e:h.get? b=some o):(b,o)∈zf7 fp h:=List.mem_filterMap.mpr ⟨b,hb,by rw [e];rfl⟩
theorem znr {fp:List Addr}{h:Heap}{p:Addr × Obj} (hp:p∈zf7 fp h):p.1∈fp/\h.get? p.1=some p.2:=by
  obtain ⟨b,hb,e⟩:=List.mem_filterMap.mp hp;cases q:h.get? b with
  | none=>rw [q] at e;cases e
  | some o =>
    rw [q] at e;have e' : (b,o)=p:=sI e;subst e';exact ⟨hb,q⟩
theorem Inv.pinned {pins:List (Addr × Obj)}{σ:St}{H:Hp}{s:Shared}{fp:List Addr} (I:Inv X pins σ H s) (hf:∀b∈fp,FpOk X pins H b) (ho:∀b∈fp,∃o,s.heap.get? b=some o/\∀v,o.data≠.cell v):Inv X (pins++zf7 fp s.heap) σ H s :=
 I.pins_of fun p hp=>(List.mem_append.mp hp).elim (fun z=>I.pin p (List.mem_append_right _ z)) fun z=>by
  refine aG fun _ qG=>?_;obtain ⟨hb,e⟩:=znr z;obtain ⟨f0,f1,f2,_⟩:=hf p.1 hb;obtain ⟨o,e',d⟩:=ho p.1 hb;refine qG ?_;clear qG;rw [e] at e';obtain rfl:=sI e';exact ⟨e,f0,f1,f2,d⟩
theorem Inv.unpinned {pins pl:List (Addr × Obj)}{σ:St}{H:Hp}{s:Shared} (I:Inv X (pins++pl) σ H s):Inv X pins σ H s:=I.pins_of fun p hp=>I.pin p (List.mem_append_right _ (List.mem_append_left _ hp))
theorem zyf {iter:Expr}{body:List Stmt}{wi:TI}{g:TG}{tb:TS}{pos:Pos} (hp:PassesOwn (model X.prog X.w) X.A X.env X.xe) (hc:X.calm=true) (hi:PI X tg iter wi) (hg:PG X tg g) (hb:PSs X body tb)
  (hs:∀x,foldedSetIterable iter X.env x=pure x:=by intro _;rfl):PS X (.For tg iter body [] pos) (tFor wi g tb):=by
 intro pins s σ H D I h;refine wpAny_For (thn (hi pins s σ H _ I h) fun v s1 h1=>thn h1 fun itv s2 h2=>?_) hs;refine aG fun _ qG=>?_;obtain ⟨it,fp,tn,J,H2,e,I2,T,st2,f2,W,⟨m0,w0⟩,turn⟩:=h2;refine qG ?_;clear qG;subst e;have stat:∀{H' : Hp},(∀b∈fp,H' b=none)->∀b∈fp,FpOk X pins H' b:=fun hn b hb=>⟨hn b hb,(f2 b hb).2⟩;refine codeAny_forLoop_any (fun n s'=>∃i σ' H',Inv X pins σ' H' s'/\tn i s'.heap/\(∀b∈fp,H' b=none)/\W i n σ' H') ?_ m0 ⟨0,σ,H2,I2,st2,fun b hb=>(f2 b hb).1,w0⟩;rintro n s3 ⟨i,σ3,H3,I3,st3,fr3,w3⟩;rcases turn i n σ3 H3 w3 with ⟨stop,qn⟩ | ⟨go,N,hN,step⟩
 ·refine wpAny_passesOwn hp (thn (T.done X rfl rfl rfl hc i pins s3 σ3 H3 X.xe I3 (stat fr3) st3 stop) fun r s4 ⟨hr, I4⟩ => ?_);subst hr;exact wpAny_execs_nil ⟨σ3,H3,I4,qn⟩
 ·refine wpAny_passesOwn hp (thn (T.item X rfl rfl rfl hc i pins s3 σ3 H3 X.xe I3 (stat fr3) st3 go) fun r s4 ⟨u, hr, h4⟩ => ?_);subst hr;refine wpAny_passesOwn hp (thn h4 fun _ s5 ⟨x,H5,I5,r5,y5,st5,fr5⟩=>?_);have I5':=I5.pinned (stat fr5) (T.obj _ _ st5);refine wpAny_passesOwn hp (thn (hg _ s5 σ3 H5 x u _ I5' r5 (step x H5 y5)) fun _ s6 ⟨σ6,H6,I6,q6⟩=>?_);refine wpAny_passesOwn hp (thn (hb _ s6 σ6 H6 _ I6 q6) fun f s7 q7=>?_);have again:∀{σ7:St}{H7:Hp},Inv X (pins++zf7 fp s5.heap) σ7 H7 s7->N σ7 H7->∃m,m < n/\∃i σ' H',Inv X pins σ' H' s7/\tn i s7.heap/\(∀b∈fp,H' b=none)/\W i m σ' H':=fun {σ7 H7} I7 n7=>by
   obtain ⟨m',hm,w7⟩:=hN σ7 H7 n7;refine ⟨m',hm,i+1,σ7,H7,I7.unpinned,T.keep _ _ _ st5 fun b hb o e=>(I7.pin (b,o) (List.mem_append_right _ (List.mem_append_right _ (zcm hb e)))).1,fun b hb=>?_,w7⟩;obtain ⟨o,e,d⟩:=T.obj _ _ st5 b hb;exact (I7.pin (b,o) (List.mem_append_right _ (List.mem_append_right _ (zcm hb e)))).2.1
  cases f with
  | next=>obtain ⟨σ7,H7,I7,n7⟩:=q7;exact again I7 n7
  | cont=>obtain ⟨σ7,H7,I7,n7⟩:=q7;exact again I7 n7
  | brk=>obtain ⟨σ7,H7,I7,q7⟩:=q7;exact ⟨σ7,H7,I7.unpinned,q7⟩
  | ret v=>obtain ⟨x7,σ7,H7,I7,r7,q7⟩:=q7;exact ⟨x7,σ7,H7,I7.unpinned,r7,q7⟩
end
end L2
namespace L2
open PySem PySem.Spec PyProof.Rows
noncomputable abbrev R2:=V->V->Hp->VK->Prop
noncomputable def OpR (X:Cx) (f:Value->Value->Sem Value) (r:R2):Prop :=
  ∀(pins:List (Addr × Obj)) (s:Shared) (σ:St) (H:Hp) (x y:V) (v u:Value) (Q:VK),Inv X pins σ H s->RelV x v->RelV y u->r x y H Q ->
    wpAny (model X.prog X.w) X.A (f v u) (EP X pins σ Q) X.xe s
noncomputable def UnR (X:Cx) (f:Value->Sem Value) (r:V->Hp->VK->Prop):Prop :=
  ∀(pins:List (Addr × Obj)) (s:Shared) (σ:St) (H:Hp) (x:V) (v:Value) (Q:VK),Inv X pins σ H s->RelV x v->r x H Q ->
    wpAny (model X.prog X.w) X.A (f v) (EP X pins σ Q) X.xe s
noncomputable def zbc (X:Cx) (f:Value) (r:List V->Hp->VK->Prop):Prop :=
  ∀(pins:List (Addr × Obj)) (s:Shared) (σ:St) (H:Hp) (xs:List V) (us:List Value) (Q:VK),Inv X pins σ H s->Vals xs us->r xs H Q ->
    wpAny (model X.prog X.w) X.A (call f us) (EP X pins σ Q) X.xe s
noncomputable def tOp (r:R2) (ta tb:TE):TE:=fun σ H Q=>ta σ H fun x H1=>tb σ H1 fun y H2=>r x y H2 Q
noncomputable def tUn (r:V->Hp->VK->Prop) (ta:TE):TE:=fun σ H Q=>ta σ H fun x H1=>r x H1 Q
noncomputable def rI (C:Int->Int->Prop) (g:Int->Int->V):R2:=fun x y H Q=>∃i j,x=.int i/\y=.int j/\C i j/\Q (g i j) H
noncomputable def rI0 (g:Int->Int->V):R2:=fun x y H Q=>∃i j,x=.int i/\y=.int j/\Q (g i j) H
noncomputable def rU (g:Int->V):V->Hp->VK->Prop:=fun x H Q=>∃i,x=.int i/\Q (g i) H
section
variable {X:Cx}{a b c:Expr}{ta tb tc:TE}{pos:Pos}
theorem binT (ha:PE X a ta) (hb:PE X b tb) {pins:List (Addr × Obj)}{s:Shared}{σ:St}{H:Hp}{R:V->V->Hp->Prop} (I:Inv X pins σ H s)
  (h:ta σ H fun x H1=>tb σ H1 fun y H2=>R x y H2) {Q:Value->Shared->Prop}{f:Value->Value->Sem Value}
  (hf:∀v u s2 x y H2,Inv X pins σ H2 s2->RelV x v->RelV y u->R x y H2->wpAny (model X.prog X.w) X.A (f v u) Q X.xe s2) :
  wpAny (model X.prog X.w) X.A (eval a X.env) (fun v s₁=>wpAny (model X.prog X.w) X.A (eval b X.env) (fun u s₂=>wpAny (model X.prog X.w) X.A (f v u) Q X.xe s₂) X.xe s₁) X.xe s:=by
 refine thn (ha pins s σ H _ I h) fun v s1 ⟨x,H1,I1,r1,q1⟩=>?_;refine thn (hb pins s1 σ H1 _ I1 q1) fun u s2 ⟨y,H2,I2,r2,q2⟩=>?_;exact hf v u s2 x y H2 I2 r1 r2 q2
theorem zy5 {op:Operator}{r:R2} (ho:OpR X (binaryOp op) r) (ha:PE X a ta) (hb:PE X b tb):PE X (.BinOp a op b pos) (tOp r ta tb):=by
 intro pins s σ H Q I h;exact wpAny_BinOp (binT ha hb I h fun v u s2 x y H2 I2 rx ry q=>ho pins s2 σ H2 x y v u Q I2 rx ry q)
theorem zzc {op:UnaryOp}{r:V->Hp->VK->Prop} (ho:UnR X (unaryOp op) r) (ha:PE X a ta):PE X (.UnaryOp op a pos) (tUn r ta):=by
 intro pins s σ H Q I h;exact UnaryOp_ (thn (ha pins s σ H _ I h) fun v s1 ⟨x,H1,I1,r1,q1⟩=>ho pins s1 σ H1 x v Q I1 r1 q1)
theorem opI {f:Value->Value->Sem Value}{C:Int->Int->Prop}{g:Int->Int->Int}
  (rule:∀(i j:Int) (t u:Tok) (s:Shared) (Q:Value->Shared->Prop) (E:Value->Shared->Prop),C i j->Q (.int (g i j) s.toks) { s with toks:=s.toks+1 }->wpAny (model X.prog X.w) X.A (f (.int i t) (.int j u)) Q E s) :
  OpR X f (rI C fun i j=>.int (g i j)):=by
 intro pins s σ H x y v u Q I rx ry h;obtain ⟨i,j,rfl,rfl,hc,q⟩:=h;obtain ⟨t,rfl⟩:=rx;obtain ⟨t',rfl⟩:=ry;exact rule i j t t' s _ _ hc ⟨.int (g i j),H,I.tok _,⟨_,rfl⟩,q⟩
theorem opI0 {f:Value->Value->Sem Value}{g:Int->Int->Int}
  (rule:∀(i j:Int) (t u:Tok) (s:Shared) (Q:Value->Shared->Prop) (E:Value->Shared->Prop),Q (.int (g i j) s.toks) { s with toks:=s.toks+1 }->wpAny (model X.prog X.w) X.A (f (.int i t) (.int j u)) Q E s) :
  OpR X f (rI0 fun i j=>.int (g i j)):=by
 intro pins s σ H x y v u Q I rx ry h;obtain ⟨i,j,rfl,rfl,q⟩:=h;obtain ⟨t,rfl⟩:=rx;obtain ⟨t',rfl⟩:=ry;exact rule i j t t' s _ _ ⟨.int (g i j),H,I.tok _,⟨_,rfl⟩,q⟩
theorem opB0 {f:Value->Value->Sem Value}{g:Int->Int->Bool}
  (rule:∀(i j:Int) (t u:Tok) (s:Shared) (Q:Value->Shared->Prop) (E:Value->Shared->Prop),Q (.bool (g i j)) s->wpAny (model X.prog X.w) X.A (f (.int i t) (.int j u)) Q E s) :
  OpR X f (rI0 fun i j=>.bl (g i j)):=by
 intro pins s σ H x y v u Q I rx ry h;obtain ⟨i,j,rfl,rfl,q⟩:=h;obtain ⟨t,rfl⟩:=rx;obtain ⟨t',rfl⟩:=ry;exact rule i j t t' s _ _ ⟨.bl (g i j),H,I,rfl,q⟩
noncomputable def CPow (i j:Int):Prop:=0<=j/\j<=1000000/\i.natAbs < 2 ^ 64
noncomputable def CMul (i j:Int):Prop:=(-(2 ^ 64) < i/\i < 2 ^ 64)\/(-(2 ^ 64) < j/\j < 2 ^ 64)
theorem CMul.ok {i j:Int} (h:CMul i j):IntMulOk i j:=by
 rcases h with ⟨h1,h2⟩ | ⟨h1,h2⟩
 ·exact .of_left (intBits_le_64 h1 h2)
 ·exact .of_right (intBits_le_64 h1 h2)
theorem zlh (k:Nat):(0:Int)<=2 ^ k:=by
 rw [two_pow_cast];exact Int.natCast_nonneg _
theorem zwo:OpR X (binaryOp .Add) (rI0 fun i j=>.int (i+j)):=opI0 fun _ _ _ _ _ _ _ q=>add_int q
theorem zxe:OpR X (binaryOp .Sub) (rI0 fun i j=>.int (i - j)):=opI0 fun _ _ _ _ _ _ _ q=>sub_int q
theorem zwt:OpR X (binaryOp .Mult) (rI CMul fun i j=>.int (i * j)):=opI fun _ _ _ _ _ _ _ hc q=>mul_int q hc.ok
theorem zvs:OpR X (binaryOp .Mod) (rI (fun _ j=>0 < j) fun i j=>.int (i % j)):=opI fun i j _ _ _ _ _ hc q=>by
 have h1:(0:Int) < j:=hc;exact mod_int' (by omega) (by rw [Int.fmod_eq_emod_of_nonneg i (by omega)];exact q)
theorem zyk:OpR X (binaryOp .Pow) (rI CPow fun i j=>.int (i ^ j.toNat)):=opI fun _ _ _ _ _ _ _ hc q=>pow_int_small hc.1 hc.2.1 hc.2.2 q
theorem zyb:OpR X (binaryOp .LShift) (rI CPow fun i j=>.int (i * 2 ^ j.toNat)):=opI fun _ _ _ _ _ _ _ hc q=>lshift_int_small hc.1 hc.2.1 hc.2.2 q
theorem zye:OpR X (binaryOp .RShift) (rI (fun _ j=>0<=j) fun i j=>.int (i / 2 ^ j.toNat)):=opI fun i j _ _ _ _ _ hc q =>
 rshift_int hc (by rw [Int.fdiv_eq_ediv_of_nonneg i (zlh _)];exact q)
theorem zwn:OpR X (binaryOp .BitAnd) (rI0 fun i j=>.int (Builtin.bitAnd i j)):=opI0 fun _ _ _ _ _ _ _ q=>and_int q
theorem zzo:OpR X (binaryOp .BitOr) (rI0 fun i j=>.int (Builtin.bitOr i j)):=opI0 fun _ _ _ _ _ _ _ q=>or_int q
theorem zvj:OpR X (binaryOp .BitXor) (rI0 fun i j=>.int (Builtin.bitXor i j)):=opI0 fun _ _ _ _ _ _ _ q=>xor_int q
theorem zs9:OpR X (inplaceOp .Add) (rI0 fun i j=>.int (i+j)):=opI0 fun _ _ _ _ _ _ _ q=>iadd_int q
theorem zue:OpR X (inplaceOp .Sub) (rI0 fun i j=>.int (i - j)):=opI0 fun _ _ _ _ _ _ _ q=>isub_int q
theorem zul:OpR X (inplaceOp .Mult) (rI CMul fun i j=>.int (i * j)):=opI fun _ _ _ _ _ _ _ hc q=>imul_int q hc.ok
theorem zuj:OpR X (inplaceOp .BitAnd) (rI0 fun i j=>.int (Builtin.bitAnd i j)):=opI0 fun _ _ _ _ _ _ _ q=>iand_int q
theorem zyj:OpR X (inplaceOp .BitOr) (rI0 fun i j=>.int (Builtin.bitOr i j)):=opI0 fun _ _ _ _ _ _ _ q=>ior_int q
theorem ztp:OpR X (inplaceOp .BitXor) (rI0 fun i j=>.int (Builtin.bitXor i j)):=opI0 fun _ _ _ _ _ _ _ q=>ixor_int q
theorem unI {f:Value->Sem Value}{g:Int->Int}
  (rule:∀(i:Int) (t:Tok) (s:Shared) (Q:Value->Shared->Prop) (E:Value->Shared->Prop),Q (.int (g i) s.toks) { s with toks:=s.toks+1 }->wpAny (model X.prog X.w) X.A (f (.int i t)) Q E s) :
  UnR X f (rU fun i=>.int (g i)):=by
 intro pins s σ H x v Q I rx h;obtain ⟨i,rfl,q⟩:=h;obtain ⟨t,rfl⟩:=rx;exact rule i t s _ _ ⟨.int (g i),H,I.tok _,⟨_,rfl⟩,q⟩
theorem zxz:UnR X (unaryOp .USub) (rU fun i=>.int (-i)):=unI fun _ _ _ _ _ q=>neg_int q
end
noncomputable def scal:V->V->Bool
 | .non,.non=>true | .non,.int _=>true | .int _,.non=>true | .non,.bl _=>true | .bl _,.non=>true | .non,.str _=>true | .str _,.non=>true
 | .int _,.int _=>true | .bl _,.bl _=>true | .str _,.str _=>true | .byt _,.byt _=>true
 | .int _,.str _=>true | .str _,.int _=>true | .bl _,.str _=>true | .str _,.bl _=>true
 | _,_=>false
noncomputable def rEq:R2:=fun x y H Q=>scal x y=true/\Q (.bl (decide (x=y))) H
noncomputable def rNe:R2:=fun x y H Q=>scal x y=true/\Q (.bl (!decide (x=y))) H
theorem zmp {i j:Int}:decide (V.int i=V.int j)=(i == j):=by
 rw [Bool.eq_iff_iff];simp
theorem zrq {i j:Bool}:decide (V.bl i=V.bl j)=(i == j):=by
 rw [Bool.eq_iff_iff];simp
theorem zn8 {i j:Str}:decide (V.str i=V.str j)=(i == j):=by
 rw [Bool.eq_iff_iff];simp
theorem zlv {i j:Array UInt8}:decide (V.byt i=V.byt j)=(i.toList == j.toList):=by
 rw [Bool.eq_iff_iff];cases i;cases j;simp
section
variable {X:Cx}{a b c:Expr}{ta tb tc:TE}{pos:Pos}
theorem zaf {pins:List (Addr × Obj)}{σ:St}{H:Hp}{s:Shared}{Q:VK}{k k' : Bool} (I:Inv X pins σ H s) (q:Q (.bl k) H) (e:k=k'):EP X pins σ Q (.bool k') s:=by
 subst e;exact ⟨.bl k,H,I,rfl,q⟩
theorem zzh:OpR X (compareOp .Eq) rEq:=by
  intro pins s σ H x y v u Q I rx ry h;obtain ⟨hs,q⟩:=h;cases x with
  | non =>
    cases rx;cases y with
    | non=>cases ry;exact PySem.EqNone.eq_none_none (zaf I q (by simp))
    | bl j=>cases ry;exact PySem.EqNone.eq_none_bool (zaf I q (by simp))
    | int j=>obtain ⟨t',rfl⟩:=ry;exact PySem.EqNone.eq_none_int (zaf I q (by simp))
    | str j=>obtain ⟨t',rfl⟩:=ry;exact PySem.EqNone.eq_none_str (zaf I q (by simp))
    | _=>exact absurd (show false=true from hs) Bool.false_ne_true
  | bl i =>
    cases rx;cases y with
    | non=>cases ry;exact PySem.EqNone.eq_bool_none (zaf I q (by simp))
    | bl j=>cases ry;exact eq_bool (zaf I q zrq)
    | str j=>obtain ⟨t',rfl⟩:=ry;exact PySem.EqMixed.eq_bool_str (zaf I q (by simp))
    | _=>exact absurd (show false=true from hs) Bool.false_ne_true
  | int i =>
    obtain ⟨t,rfl⟩:=rx;cases y with
    | non=>cases ry;exact PySem.EqNone.eq_int_none (zaf I q (by simp))
    | int j=>obtain ⟨t',rfl⟩:=ry;exact eq_int (zaf I q zmp)
    | str j=>obtain ⟨t',rfl⟩:=ry;exact PySem.EqMixed.eq_int_str (zaf I q (by simp))
    | _=>exact absurd (show false=true from hs) Bool.false_ne_true
  | str i =>
    obtain ⟨t,rfl⟩:=rx;cases y with
    | non=>cases ry;exact PySem.EqNone.eq_str_none (zaf I q (by simp))
    | bl j=>cases ry;exact PySem.EqMixed.eq_str_bool (zaf I q (by simp))
    | int j=>obtain ⟨t',rfl⟩:=ry;exact PySem.EqMixed.eq_str_int (zaf I q (by simp))
    | str j=>obtain ⟨t',rfl⟩:=ry;exact eq_str (zaf I q zn8)
    | _=>exact absurd (show false=true from hs) Bool.false_ne_true
  | byt i =>
    obtain ⟨t,rfl⟩:=rx;cases y with
    | byt j=>obtain ⟨t',rfl⟩:=ry;exact PySem.W.eq_bytes (zaf I q zlv)
    | _=>exact absurd (show false=true from hs) Bool.false_ne_true
  | _=>cases y<;>exact absurd (show false=true from hs) Bool.false_ne_true
theorem zyw:OpR X (compareOp .NotEq) rNe:=by
  intro pins s σ H x y v u Q I rx ry h;obtain ⟨hs,q⟩:=h;cases x with
  | non =>
    cases rx;cases y with
    | non=>cases ry;exact PySem.EqNone.ne_none_none (zaf I q (by simp))
    | bl j=>cases ry;exact PySem.EqNone.ne_none_bool (zaf I q (by simp))
    | int j=>obtain ⟨t',rfl⟩:=ry;exact PySem.EqNone.ne_none_int (zaf I q (by simp))
    | str j=>obtain ⟨t',rfl⟩:=ry;exact PySem.EqNone.ne_none_str (zaf I q (by simp))
    | _=>exact absurd (show false=true from hs) Bool.false_ne_true
  | bl i =>
    cases rx;cases y with
    | non=>cases ry;exact PySem.EqNone.ne_bool_none (zaf I q (by simp))
    | bl j=>cases ry;exact ne_bool (zaf I q (congrArg not zrq))
    | str j=>obtain ⟨t',rfl⟩:=ry;exact PySem.EqMixed.ne_bool_str (zaf I q (by simp))
    | _=>exact absurd (show false=true from hs) Bool.false_ne_true
  | int i =>
    obtain ⟨t,rfl⟩:=rx;cases y with
    | non=>cases ry;exact PySem.EqNone.ne_int_none (zaf I q (by simp))
    | int j=>obtain ⟨t',rfl⟩:=ry;exact ne_int (zaf I q (congrArg not zmp))
    | str j=>obtain ⟨t',rfl⟩:=ry;exact PySem.EqMixed.ne_int_str (zaf I q (by simp))
    | _=>exact absurd (show false=true from hs) Bool.false_ne_true
  | str i =>
    obtain ⟨t,rfl⟩:=rx;cases y with
    | non=>cases ry;exact PySem.EqNone.ne_str_none (zaf I q (by simp))
    | bl j=>cases ry;exact PySem.EqMixed.ne_str_bool (zaf I q (by simp))
    | int j=>obtain ⟨t',rfl⟩:=ry;exact PySem.EqMixed.ne_str_int (zaf I q (by simp))
    | str j=>obtain ⟨t',rfl⟩:=ry;exact ne_str (zaf I q (congrArg not zn8))
    | _=>exact absurd (show false=true from hs) Bool.false_ne_true
  | byt i =>
    obtain ⟨t,rfl⟩:=rx;cases y with
    | byt j=>obtain ⟨t',rfl⟩:=ry;exact PySem.W.ne_bytes (zaf I q (congrArg not zlv))
    | _=>exact absurd (show false=true from hs) Bool.false_ne_true
  | _=>cases y<;>exact absurd (show false=true from hs) Bool.false_ne_true
theorem zzk:OpR X (compareOp .Lt) (rI0 fun i j=>.bl (decide (i < j))):=opB0 fun _ _ _ _ _ _ _ q=>lt_int q
theorem zys:OpR X (compareOp .LtE) (rI0 fun i j=>.bl (decide (i<=j))):=opB0 fun _ _ _ _ _ _ _ q=>le_int q
theorem zzl:OpR X (compareOp .Gt) (rI0 fun i j=>.bl (decide (j < i))):=opB0 fun _ _ _ _ _ _ _ q=>gt_int q
theorem zzi:OpR X (compareOp .GtE) (rI0 fun i j=>.bl (decide (j<=i))):=opB0 fun _ _ _ _ _ _ _ q=>ge_int q
theorem zo1:OpR X (compareOp .In) (fun x y H Q=>∃i j,x=.str i/\y=.str j/\Q (.bl (!(Builtin.Str.occurrences j i 0 j.length 1).isEmpty)) H):=by
 intro pins s σ H x y v u Q I rx ry h;obtain ⟨i,j,rfl,rfl,q⟩:=h;obtain ⟨t,rfl⟩:=rx;obtain ⟨t',rfl⟩:=ry;exact in_str (zaf I q rfl)
theorem zge:OpR X (compareOp .NotIn) (fun x y H Q=>∃i j,x=.str i/\y=.str j/\Q (.bl (!(!(Builtin.Str.occurrences j i 0 j.length 1).isEmpty))) H):=by
 intro pins s σ H x y v u Q I rx ry h;obtain ⟨i,j,rfl,rfl,q⟩:=h;obtain ⟨t,rfl⟩:=rx;obtain ⟨t',rfl⟩:=ry;exact notIn_str (zaf I q rfl)
theorem OpR.or {f:Value->Value->Sem Value}{r r' : R2} (h:OpR X f r) (h' : OpR X f r'):OpR X f (fun x y H Q=>r x y H Q\/r' x y H Q):=by
 intro pins s σ H x y v u Q I rx ry q;rcases q with q | q
 ·exact h pins s σ H x y v u Q I rx ry q
 ·exact h' pins s σ H x y v u Q I rx ry q
theorem znj {op:CmpOp}{r:R2} (ho:OpR X (compareOp op) r) (ha:PE X a ta) (hb:PE X b tb) (hm:behindInMarks op b=false):PE X (.Compare a [op] [b] pos) (tOp r ta tb):=by
 intro pins s σ H Q I h;exact wpAny_Compare1 (binT ha hb I h fun v u s2 x y H2 I2 rx ry q=>ho pins s2 σ H2 x y v u Q I2 rx ry q) hm
noncomputable def zws (t:TE):TT:=fun σ H Q=>t σ H fun x H'=>∃k,x=.bl k/\Q k H'
theorem zow {op:CmpOp}{r:R2} (ho:OpR X (compareOp op) r) (ha:PE X a ta) (hb:PE X b tb) (hm:behindInMarks op b=false):PT X (.Compare a [op] [b] pos) (zws (tOp r ta tb)):=by
 intro pins s σ H Q I h;refine wpAny_isTrue_Compare1 (thn (ha pins s σ H _ I h) fun v s1 ⟨x,H1,I1,r1,q1⟩=>thn (hb pins s1 σ H1 _ I1 q1) fun u s2 ⟨y,H2,I2,r2,q2⟩ =>
  thn (ho pins s2 σ H2 x y v u _ I2 r1 r2 q2) fun c s3 ⟨z,H3,I3,r3,k,e,q3⟩=>?_) hm
 subst e;cases r3;exact wpAny_truthy_bool ⟨H3,I3,q3⟩
theorem ze3:(sizeLine:Nat) < 2 ^ 63:=by rw [sizeLine_eq];decide
theorem zkq:OpR X (binaryOp .Add) (fun x y H Q=>∃i j,x=.str i/\y=.str j/\i.length+j.length<=sizeLine/\Q (.str (i++j)) H):=by
 intro pins s σ H x y v u Q I rx ry h;obtain ⟨i,j,rfl,rfl,hz,q⟩:=h;obtain ⟨t,rfl⟩:=rx;obtain ⟨t',rfl⟩:=ry;exact add_str (fun t' tk=>⟨.str (i++j),H,I.tok _,⟨_,rfl⟩,q⟩) hz
theorem vals1 {x:V}{us:List Value} (r:Vals [x] us):∃u,us=[u]/\RelV x u:=by
 cases r with
 | cons r1 r2=>cases r2;exact ⟨_,rfl,r1⟩
theorem zvq {x y:V}{us:List Value} (r:Vals [x,y] us):∃u w',us=[u,w']/\RelV x u/\RelV y w':=by
  cases r with
  | cons r1 r2 =>
    cases r2 with
    | cons r3 r4=>cases r4;exact ⟨_,_,rfl,r1,r3⟩
theorem zqd:zbc X (.builtin "abs") (fun xs H Q=>∃i,xs=[.int i]/\Q (.int (if i < 0 then -i else i)) H):=by
 intro pins s σ H xs us Q I r h;obtain ⟨i,rfl,q⟩:=h;obtain ⟨u,rfl,t,rfl⟩:=vals1 r;exact call_abs_int fun u tk=>⟨.int (if i < 0 then -i else i),H,I.tok _,⟨_,rfl⟩,q⟩
theorem zmx (hc:X.calm=true):zbc X (.builtin "max") (fun xs H Q=>∃i j,xs=[.int i,.int j]/\Q (.int (if j > i then j else i)) H):=by
 intro pins s σ H xs us Q I r h;refine aG fun _ qG=>?_;obtain ⟨i,j,rfl,q⟩:=h;obtain ⟨u,w',rfl,⟨t,rfl⟩,⟨t',rfl⟩⟩:=zvq r;refine qG ?_;clear qG;refine max_two_ints (I.ok.hd hc) fun h' tk k=>⟨_,H,I.kept k,?_,q⟩;by_cases hj:j > i
 ·rw [if_pos hj,if_pos hj];exact ⟨_,rfl⟩
 ·rw [if_neg hj,if_neg hj];exact ⟨_,rfl⟩
theorem zn7 (hc:X.calm=true):zbc X (.builtin "min") (fun xs H Q=>∃i j,xs=[.int i,.int j]/\Q (.int (if j < i then j else i)) H):=by
 intro pins s σ H xs us Q I r h;obtain ⟨i,j,rfl,q⟩:=h;obtain ⟨u,w',rfl,⟨t,rfl⟩,⟨t',rfl⟩⟩:=zvq r;refine min_two_ints (I.ok.hd hc) fun h' tk k=>⟨_,H,I.kept k,?_,q⟩;by_cases hj:j < i
 ·rw [if_pos hj,if_pos hj];exact ⟨_,rfl⟩
 ·rw [if_neg hj,if_neg hj];exact ⟨_,rfl⟩
theorem zol:zbc X (.type "int") (fun xs H Q=>(∃i,xs=[.int i]/\Q (.int i) H)\/∃k,xs=[.bl k]/\Q (.int (if k then 1 else 0)) H):=by
 intro pins s σ H xs us Q I r h;rcases h with ⟨i,rfl,q⟩ | ⟨k,rfl,q⟩
 ·obtain ⟨u, rfl, t, rfl⟩ := vals1 r;exact call_int_int ⟨.int i,H,I,⟨_,rfl⟩,q⟩
 ·obtain ⟨u, rfl, r1⟩ := vals1 r;cases r1;exact call_int_bool ⟨.int (if k then 1 else 0),H,I.tok _,⟨_,rfl⟩,q⟩
theorem zhs:zbc X (.type "str") (fun xs H Q=>∃i,xs=[.int i]/\i.natAbs.log2 < 1920/\Q (.str (toString i)) H):=by
 intro pins s σ H xs us Q I r h;obtain ⟨i,rfl,hz,q⟩:=h;obtain ⟨u,rfl,t,rfl⟩:=vals1 r;exact PySem.P.str_of_int hz ⟨.str _,H,I.tok _,⟨_,rfl⟩,q⟩
end
end L2
namespace L2
open PySem PySem.Spec PyProof.Rows
structure ObjM (h:Heap) (x dx C:Addr) (mA:Str->Option Value):Prop where
 obj:h.get? x=some (PySem.W.instObj C dx)
 ns:h.Ns1 dx mA
 ne:dx≠x
theorem zok {h:Heap}{dx:Addr}{mA:Str->Option Value} (n:h.Ns1 dx mA):∃od,h.get? dx=some od/\∀name,PySem.W.lookIn name od=some (mA name):=by
 refine aG fun _ qG=>?_;obtain ⟨o,es,ep,ho,hd,hk,_,hm⟩:=n;refine qG ?_;clear qG;refine ⟨o,ho,fun name=>?_⟩;have e:=hm name;unfold nsFind findBy at e;rw [<-Array.find?_toList] at e;unfold PySem.W.lookIn;rw [hd];dsimp only;split
 ·rename_i y q;rw [q] at e;exact congrArg some e
 ·rename_i q;rw [q] at e;have a:es.toList.any (·.refKey)=false:=by
   rw [List.any_eq_false];intro y hy;obtain ⟨z,t,hkey⟩:=hk y (Array.mem_toList_iff.mp hy);simp [DictEntry.refKey,hkey]
  have a' : ¬ es.toList.any (·.refKey)=true:=by rw [a];exact Bool.false_ne_true
  rw [if_neg a'];exact congrArg some e
theorem ObjM.look {h:Heap}{x dx C:Addr}{mA:Str->Option Value} (I:ObjM h x dx C mA):∃od,PySem.W.InstAt h x (PySem.W.instObj C dx) C (some od)/\∀name,PySem.W.lookIn name od=some (mA name) :=
 let ⟨od,ho,hl⟩:=zok I.ns
 ⟨od,⟨I.obj,rfl,rfl,ho⟩,hl⟩
section
variable {prog:Program}{w:World}{A:Around}{E:Value->Shared->Prop}{s:Shared}{K:PySem.W.Frag}{x dx C f:Addr}{mA:Str->Option Value}{name:Str}{v:Value}
end
section
variable {P:Program}{w:World}{H H' : Hp}{h h' : Heap}{a C dx:Addr}{fs fs' : List (Str × V)}
theorem zss (hok:HOk P w H h) (e:H a=some (.ins C dx fs)):∃mA,ObjM h a dx C mA/\(∀f,RelO (fs.lookup f) (mA f))/\PySem.Within mA (fs.map (·.1))/\fs.length<=1000/\H dx=some (.own a):=by
 refine aG fun _ qG=>?_;obtain ⟨d,z,ne,ob,mA,n,r,q⟩:=(show zbn P w H h a (.ins C dx fs) from hok a _ e);refine qG ?_;clear qG;exact ⟨mA,⟨ob,n,ne⟩,r,q,z,d⟩
end
structure Cls (K:PySem.W.Frag) (C:Addr):Prop where
 pg:PySem.W.plainGet K C Str.empty=true
 hd:PySem.W.hasDictIn K C=true
 po:PySem.W.plainOver K C=true
 sa:PySem.W.findIn K (.ref C) "__setattr__" = some (some (.builtin "object.__setattr__"))
theorem Cls.get {K:PySem.W.Frag}{C:Addr} (c:Cls K C) (f:Str):PySem.W.plainGet K C f=true:=c.pg
section
variable {X:Cx}{pins:List (Addr × Obj)}{σ:St}{H:Hp}{s:Shared}{a C dx:Addr}{fs:List (Str × V)}{f:Str}{v:V}{A:Around}{E:Value->Shared->Prop}
end
section
variable {X:Cx}{o e value:Expr}{f:Str}{pos pos' tpos:Pos}{ta tv:TE}
end
section
variable {X:Cx}{pins:List (Addr × Obj)}{σ:St}{H:Hp}{s:Shared}{A:Around}{E:Value->Shared->Prop}{Q:Value->Shared->Prop}{c:Value}{b:Bool}
inductive TyOf (K:PySem.W.Frag) (H:Hp):V->Value->Prop where
 | non:TyOf K H .non (.type "NoneType")
 | bl (x:Bool):TyOf K H (.bl x) (.type "bool")
 | int (i:Int):TyOf K H (.int i) (.type "int")
 | str (x:Str):TyOf K H (.str x) (.type "str")
 | flt (x:UInt64):TyOf K H (.flt x) (.type "float")
 | lst {a:Addr}{xs:List V} (e:H a=some (.lst xs)):TyOf K H (.ref a) (.type "list")
 | frz {a:Addr}{o:Obj}{xs:List V} (e:H a=some (.frz o (.lst xs))):TyOf K H (.ref a) (.type "list")
 | tup {a:Addr}{xs:List V} (e:H a=some (.tup xs)):TyOf K H (.ref a) (.type "tuple")
 | dK {a:Addr}{kvs:List (Key × V)} (e:H a=some (.dK kvs)):TyOf K H (.ref a) (.type "dict")
 | dT {a:Addr}{kvs:List (List Key × V)} (e:H a=some (.dT kvs)):TyOf K H (.ref a) (.type "dict")
 | ins {a C dx:Addr}{fs:List (Str × V)} (e:H a=some (.ins C dx fs)) (cl:Cls K C) (ha:PySem.W.findIn K (.ref C) "__class__" = some (some (.builtin "object.__class__")))
   (hn:PySem.W.specialIn K (.builtin "object.__class__") "__get__" = some (some (.builtin "getset_descriptor.__get__"))) (htk:PySem.W.takesIn K (.builtin "object.__class__")=some true)
   (hm:PySem.W.mroIn K C (.type "object")=some true):TyOf K H (.ref a) (.ref C)
theorem zmg {x:V}{u t:Value} (I:Inv X pins σ H s) (rx:RelV x u) (ty:TyOf X.K H x t) (e:PySem.W.kitOne X.K t c=some b) (h:∀tk,Q (.bool b) { s with toks:=tk }) :
    wpAny (model X.prog X.w) A (call (.builtin "isinstance") [u,c]) Q E s:=by
  cases ty with
  | non=>cases (show u=Value.none from rx);exact PySem.W.kia_one PySem.W.kitx_none I.kIn True.intro e (fun z=>nomatch z) h
  | bl y=>cases (show u=Value.bool y from rx);exact PySem.W.kia_one PySem.W.kitx_bool I.kIn True.intro e (fun z=>nomatch z) h
  | int i=>obtain ⟨t,q⟩:=(show ∃t,u=Value.int i t from rx);cases q;exact PySem.W.kia_one PySem.W.kitx_int I.kIn True.intro e (fun z=>nomatch z) h
  | str y=>obtain ⟨t,q⟩:=(show ∃t,u=Value.str y t from rx);cases q;exact PySem.W.kia_one PySem.W.kitx_str I.kIn True.intro e (fun z=>nomatch z) h
  | flt y=>obtain ⟨t,q⟩:=(show ∃t,u=Value.float y t from rx);cases q;exact PySem.W.kia_one PySem.W.kitx_float I.kIn True.intro e (fun z=>nomatch z) h
  | @lst a xs ea =>
    cases (show u=Value.ref a from rx);obtain ⟨_,_,n,_,h1⟩:=(show zbn X.prog X.w H s.heap a (.lst xs) from I.hok a _ ea);exact PySem.W.kia_one PySem.W.kitx_list I.kIn ⟨_,h1,rfl⟩ e (fun z=>nomatch z) h
  | @frz a ob xs ea =>
    cases (show u=Value.ref a from rx);obtain ⟨_,_,_,n,_,h1⟩:=(show zbn X.prog X.w H s.heap a (.frz ob (.lst xs)) from I.hok a _ ea);exact PySem.W.kia_one PySem.W.kitx_list I.kIn ⟨_,h1,rfl⟩ e (fun z=>nomatch z) h
  | @tup a xs ea =>
    cases (show u=Value.ref a from rx);obtain ⟨_,_,_,p⟩:=(show zbn X.prog X.w H s.heap a (.tup xs) from I.hok a _ ea);obtain ⟨o,h1,h2,_⟩:=p;exact PySem.W.kia_one PySem.W.kitx_tuple I.kIn ⟨o,h1,h2⟩ e (fun z=>nomatch z) h
  | @dK a kvs ea =>
    cases (show u=Value.ref a from rx);obtain ⟨_,_,vs,_,p⟩:=(show zbn X.prog X.w H s.heap a (.dK kvs) from I.hok a _ ea);obtain ⟨o,es,ep,h1,h2,_⟩:=p;exact PySem.W.kia_one PySem.W.kitx_dict I.kIn ⟨o,h1,h2.1⟩ e (fun z=>nomatch z) h
  | @dT a kvs ea =>
    cases (show u=Value.ref a from rx);obtain ⟨_,_,xs,_,o,es,ep,h1,h2,_⟩:=(show zbn X.prog X.w H s.heap a (.dT kvs) from I.hok a _ ea);exact PySem.W.kia_one PySem.W.kitx_dict I.kIn ⟨o,h1,h2.1⟩ e (fun z=>nomatch z) h
  | @ins a C dx fs ea cl ha hn htk hm =>
    cases (show u=Value.ref a from rx);obtain ⟨mA,O,_⟩:=zss I.hok ea;obtain ⟨od,J,_⟩:=O.look;exact PySem.W.kia_one (PySem.W.kitx_own (cl.get _) cl.hd ha hn htk hm) I.kIn J e (fun z=>nomatch z) h
end
end L2
namespace L2
open PySem PySem.Spec PyProof.Rows
structure Room (k:Nat) (A:Around):Prop where
 hd:A.handled=none
 dp:A.depth+3 * k+5 < recursionLimit
 un:A.units+16 * k+200 < cLine
 gd:A.guards=some []
theorem Room.mono {j k:Nat}{A:Around} (r:Room k A) (h:j<=k):Room j A:=⟨r.hd,by have:=r.dp;omega,by have:=r.un;omega,r.gd⟩
theorem Room.deeper {k:Nat}{A:Around} (r:Room (k+1) A) (env:Env):Room k (A.deeper env) :=
 ⟨r.hd,by have:=r.dp;show A.depth+1+3 * k+5 < _;omega,by have:=r.un;show A.units+3+16 * k+200 < _;omega,r.gd⟩
theorem Room.depth {k:Nat}{A:Around} (r:Room k A):A.depth < recursionLimit:=by have:=r.dp;omega
noncomputable def tNil:TA:=fun _ H Q=>Q [] H
noncomputable def zdn (ta:TE) (tr:TA):TA:=fun σ H Q=>ta σ H fun x H1=>tr σ H1 fun xs H2=>Q (x::xs) H2
section
variable {X:Cx}{e:Expr}{es:List Expr}{te:TE}{t:TA}{pos:Pos}
theorem zdl:PA X [] tNil:=fun _ _ _ _ H Q I h=>Calls.spliced_nil ⟨[],H,I,.nil,h⟩
theorem zst (ha:PE X e te) (hr:PA X es t) (hs:starEach (e::es) X.env=(false,eval e X.env)::starEach es X.env:=by rfl):PA X (e::es) (zdn te t):=by
 intro pos pins s σ H Q I h;rw [hs];show wpAny _ _ (spliced ((false,eval e X.env)::backTo pos (starEach es X.env))) _ _ s;refine Calls.spliced_cons (thn (ha pins s σ H _ I h) fun u s1 ⟨x,H1,I1,r1,q1⟩=>?_);exact thn (hr pos pins s1 σ H1 _ I1 q1) fun us s2 ⟨xs,H2,I2,r2,q2⟩=>⟨x::xs,H2,I2,.cons r1 r2,q2⟩
noncomputable def tTup (t:TA):TE:=fun σ H Q=>t σ H fun xs H1=>xs.length<=sizeLine/\∀p,H1 p=none->Q (.ref p) (upd H1 p (.tup xs))
noncomputable def tLst (t:TA):TE:=fun σ H Q=>t σ H fun xs H1=>xs.length<=sizeLine/\∀p,H1 p=none->Q (.ref p) (upd H1 p (.lst xs))
theorem zvk {x1} (h:PA X es t):PE X (.Tuple es x1 pos) (tTup t):=by
 intro pins s σ H Q I hq;refine wpAny_Tuple_spliced (thn (h pos pins s σ H _ I hq) fun us s1 ⟨xs,H1,I1,r,z,q⟩=>⟨by rw [<-r.length];exact z,?_⟩);have hf:H1 s1.heap.objs.size=none:=I1.hok.fresh (Nat.le_refl _);refine ⟨.ref s1.heap.objs.size,upd H1 s1.heap.objs.size (.tup xs),I1.laid (t':=s1.toks) (fun b u e=>Heap.get?_push_of_some _ e) (Nat.le_refl _) ?_,rfl,q _ hf⟩;exact ⟨z,us,r,⟨_,Heap.get?_push_size _ rfl,rfl,_,rfl⟩⟩
theorem zxw (h:PA X es t):PE X (.List es pos) (tLst t):=by
 intro pins s σ H Q I hq;refine wpAny_List_spliced (thn (h pos pins s σ H _ I hq) fun us s1 ⟨xs,H1,I1,r,z,q⟩=>⟨by rw [<-r.length];exact z,?_⟩);have hf:H1 s1.heap.objs.size=none:=I1.hok.fresh (Nat.le_refl _);refine ⟨.ref s1.heap.objs.size,upd H1 s1.heap.objs.size (.lst xs),I1.laid (t':=s1.toks) (fun b u e=>Heap.get?_push_of_some _ e) (Nat.le_refl _) ?_,rfl,q _ hf⟩;exact ⟨z,us,0,r,Heap.get?_push_size _ rfl⟩
end
noncomputable abbrev Sp:=List V->Hp->VK->XK->Prop
noncomputable abbrev CXT:=List Env->Hp->Shared->XK->Value->Shared->Prop
structure Env0 (P:Program) (w:World) (K:PySem.W.Frag) (mg:Str->Option Value) (base:Heap) (A:Around) (outer:List Env) (s:Shared) (H:Hp):Prop where
 frames:A.frames=some outer
 mod:Mod K mg base
 bs:∀b o,base.get? b=some o->s.heap.get? b=some o/\H b=none
 bsz:base.objs.size<=s.heap.objs.size
 funs:s.heap.FunFrames base outer
 frf:∀b∈frs outer,H b=none
 hok:HOk P w H s.heap
 bare:AllBare s.gens
noncomputable def CE (outer:List Env) (P:Program) (w:World) (H:Hp) (s:Shared) (Q:VK) (u:Value) (s' : Shared):Prop :=
 ∃v H',s'.os=s.os/\AllBare s'.gens/\Un (frs outer) [] H H' s.heap s'.heap/\HOk P w H' s'.heap/\RelV v u/\Q v H'
noncomputable def CR (CX:CXT) (outer:List Env) (P:Program) (w:World) (H:Hp) (s:Shared) (Q:VK) (E:XK) (r:Result) (s' : Shared):Prop :=
 match r with
 | .ok (.ret u)=>CE outer P w H s Q u s'
 | .ok _=>False
 | .error e=>CX outer H s E e s'
structure FnOk (P:Program) (w:World) (K:PySem.W.Frag) (mg:Str->Option Value) (base:Heap) (CX:CXT) (k:Nat) (f:Addr) (fd:FuncData) (ps:List Str) (sp:Sp):Prop where
 len:∀vs H Q E,sp vs H Q E->vs.length=ps.length
 run:∀(A:Around) (outer:List Env) (s:Shared) (H:Hp) (args:Args) (us:List Value) (vs:List V) (Q:VK) (E:XK),Room k A->Env0 P w K mg base A outer s H->BindsTo s fd args (ps.zip us)->Vals vs us->sp vs H Q E ->
  codeAny (model P w) A (.call (.ref f) args) (CR CX outer P w H s Q E) s
section
variable {X:Cx}{pins:List (Addr × Obj)}{σ:St}{H:Hp}{s s' : Shared}
theorem Inv.env0 (I:Inv X pins σ H s):Env0 X.prog X.w X.K X.mg X.base X.A X.stack s H :=
 ⟨I.ok.frames,I.ok.mod,I.bs,Nat.le_trans I.ok.bsz I.sz,I.stack,I.stkFree,I.hok,I.bare⟩
theorem Inv.after {Q:VK}{u:Value} (I:Inv X pins σ H s) (h:CE X.stack X.prog X.w H s Q u s'):EP X pins σ Q u s':=by
 refine aG fun _ qG=>?_;obtain ⟨v,H',os,bare,un,hok,r,q⟩:=h;obtain ⟨hh,g,d,t,os'⟩:=s';refine qG ?_;clear qG;obtain rfl:os'=s.os:=os;exact ⟨v,H',I.call (h':=hh) (g':=g) (d':=d) (t':=t) (ch:=[]) un hok bare (fun b z=>absurd z (by simp)),r,q⟩
end
noncomputable def zs1 (sp:Sp) (dvs:List V) (E:XK) (t:TA):TE:=fun σ H Q=>t σ H fun vs H1=>sp (vs++dvs) H1 Q E
noncomputable def zil (K:PySem.W.Frag) (fd:FuncData) (ps:List Str) (ds:List Value):Prop :=
 ∀(s:Shared) (us:List Value),K.In s.heap->(us++ds).length=ps.length->BindsTo s fd ⟨us,[]⟩ (ps.zip (us++ds))
theorem zil.all {K:PySem.W.Frag}{fd:FuncData}{ps:List Str} (h:∀us:List Value,us.length=ps.length->bindArgs fd ⟨us,[]⟩=pure (ps.zip us)):zil K fd ps []:=fun s us _ hl=>by
 rw [List.append_nil] at hl ⊢;exact .of_eq (h us hl)
noncomputable def znc (CX:CXT) (X:Cx) (E:XK):Prop:=∀(pins:List (Addr × Obj)) (σ:St) (H:Hp) (s:Shared) (e:Value) (s' : Shared),Inv X pins σ H s->CX X.stack H s E e s'->X.xe e s'
section
variable {X:Cx}{CX:CXT}{k:Nat}{f C:Addr}{fd:FuncData}{ps:List Str}{sp:Sp}{dvs:List V}{ds:List Value}{E:XK}{x m:Str}{p pos apos:Pos}{e o:Expr}{es:List Expr}{ta:TE}{t:TA}
theorem zv9 {pins:List (Addr × Obj)}{σ:St}{H:Hp}{s:Shared}{Q:VK}{us:List Value}{vs:List V} (F:FnOk X.prog X.w X.K X.mg X.base CX k f fd ps sp) (hr:Room k X.A) (hb:zil X.K fd ps ds) (hd:Vals dvs ds) (hx:znc CX X E)
    (I:Inv X pins σ H s) (r:Vals vs us) (h:sp (vs++dvs) H Q E):wpAny (model X.prog X.w) X.A (call (.ref f) us) (EP X pins σ Q) X.xe s:=by
  have r2:Vals (vs++dvs) (us++ds):=r.append hd;have hl:(us++ds).length=ps.length:=by rw [<-r2.length];exact F.len _ _ _ _ h
  refine wpAny_call (codeAny_mono (F.run X.A X.stack s H ⟨us,[]⟩ (us++ds) (vs++dvs) Q E hr I.env0 (hb s us I.kIn hl) r2 h) fun r s' hq=>?_);cases r with
  | error e=>exact hx pins σ H s e s' I hq
  | ok fl =>
    cases fl with
    | ret u=>exact I.after hq
    | next=>exact False.elim hq
    | brk=>exact False.elim hq
    | cont=>exact False.elim hq
theorem ztq (F:FnOk X.prog X.w X.K X.mg X.base CX k f fd ps sp) (hr:Room k X.A) (hg:Gl X x) (hm:X.mg x=some (.ref f)) (hk:PySem.W.keepIn X.K (.ref f)=true) (hb:zil X.K fd ps ds) (hd:Vals dvs ds) (hx:znc CX X E)
  (ha:PA X (e::es) t) (hdb:(x == ("__debug__" : Str))=false:=by decide) (he:starEach (e::es) X.env=(false,eval e X.env)::starEach es X.env:=by rfl) (hpl:(backTo pos (starEach es X.env)).any (·.1)=false:=by rfl) :
  PE X (.Call (.Name x p) (e::es) [] pos) (zs1 sp dvs E t):=by
 intro pins s σ H Q I h;refine wpAny_Call_Name_kw (zvd I hg hm ?_ hdb);refine PySem.W.callWith_K (h₀:=X.base) I.ok.mod.kin hk (thn (ha pos pins s σ H _ I h) fun us s1 ⟨vs,H1,I1,r,q⟩=>⟨I1.kIn,?_⟩) he hpl;exact zv9 F hr hb hd hx I1 r q
end
section
variable {X:Cx}{CX:CXT}{k:Nat}{f C:Addr}{fd:FuncData}{ps ks:List Str}{sp:Sp}{E:XK}{x m:Str}{p pos apos kpos:Pos}{e o:Expr}{es:List Expr}{kws:List Keyword}{te ta:TE}{t tk:TA}{nm:Option Str}
variable {g:List Value->List Value->List Value}{gV:List V->List V->List V}
end
structure FnScope (N P:List Str) (sc:Scope):Prop where
 kind:sc.kind=.function
 co:sc.isCoroutine=false
 gen:sc.isGenerator=false
 nd:N.Nodup
 pre:N.take P.length=P
 par:∀x∈P,sc.names.lookup x=some .local\/sc.names.lookup x=some .cell
 nofree:∀y∈sc.names,y.2≠.free
theorem zgo {kindOf:Str->Option NameKind}{x:Str}:∀{binds:List (Str × Value)}{m:Str->Option Value},(∀v,(x,v) ∉ binds)->bindL kindOf binds m x=m x
  | [],_,_=>rfl
  | (n,v)::r,m,h=>by
    unfold bindL;rw [zgo fun w hw=>h w (List.mem_cons_of_mem _ hw)];split
    · have : x ≠ n := by rintro rfl; exact h v List.mem_cons_self
      simp [this]
    · rfl
theorem zhb {kindOf:Str->Option NameKind}{x:Str}:∀{binds:List (Str × Value)}{m:Str->Option Value},(∀v,(x,v) ∉ binds)->bindC kindOf binds m x=m x
  | [],_,_=>rfl
  | (n,v)::r,m,h=>by
    unfold bindC;rw [zhb fun w hw=>h w (List.mem_cons_of_mem _ hw)];split
    · rfl
    · have : x ≠ n := by rintro rfl; exact h v List.mem_cons_self
      simp [this]
theorem zhr {kindOf:Str->Option NameKind}{x:Str}{v:Value}:∀{P:List Str}{vs:List Value}{i:Nat}{m:Str->Option Value},P.Nodup->P[i]?=some x->vs[i]?=some v->kindOf x=some .local ->
    bindL kindOf (P.zip vs) m x=some v
  | [],_,_,_,_,h,_,_=>by simp at h
  | _::_,[],_,_,_,_,h,_=>by simp at h
  | p::P,w::vs,0,m,nd,h1,h2,hk=>by
    simp at h1 h2;subst h1;subst h2;show bindL kindOf ((p,w)::P.zip vs) m p=_;unfold bindL;rw [zgo fun v hv=>(List.nodup_cons.mp nd).1 (List.of_mem_zip hv).1,if_pos hk];simp
  | p::P,w::vs,i+1,m,nd,h1,h2,hk=>by
    show bindL kindOf ((p,w)::P.zip vs) m x=_;unfold bindL;exact zhr (i:=i) (List.nodup_cons.mp nd).2 (by simpa using h1) (by simpa using h2) hk
theorem zhi {kindOf:Str->Option NameKind}{x:Str}{v:Value}:∀{P:List Str}{vs:List Value}{i:Nat}{m:Str->Option Value},P.Nodup->P[i]?=some x->vs[i]?=some v->kindOf x≠some .local ->
    bindC kindOf (P.zip vs) m x=some v
  | [],_,_,_,_,h,_,_=>by simp at h
  | _::_,[],_,_,_,_,h,_=>by simp at h
  | p::P,w::vs,0,m,nd,h1,h2,hk=>by
    simp at h1 h2;subst h1;subst h2;show bindC kindOf ((p,w)::P.zip vs) m p=_;unfold bindC;rw [zhb fun v hv=>(List.nodup_cons.mp nd).1 (List.of_mem_zip hv).1,if_neg hk];simp
  | p::P,w::vs,i+1,m,nd,h1,h2,hk=>by
    show bindC kindOf ((p,w)::P.zip vs) m x=_;unfold bindC;exact zhi (i:=i) (List.nodup_cons.mp nd).2 (by simpa using h1) (by simpa using h2) hk
noncomputable def start (N:List Str) (vs:List V):St:=vs.map some++List.replicate (N.length - vs.length) none
noncomputable def cxOf (CX:CXT) (P:Program) (w:World) (K:PySem.W.Frag) (mg:Str->Option Value) (base:Heap) (N:List Str) (qual:Str) (scope:Scope) (f:Addr) (cd:Value) (A:Around) (outer:List Env) (s:Shared) (H:Hp) (E:XK):Cx where
 prog:=P
 w:=w
 K:=K
 mg:=mg
 base:=base
 A:=A.deeper (envOfC qual scope s.heap.objs.size f cd)
 N:=N
 s₀:=s
 H₀:=H
 env:=envOfC qual scope s.heap.objs.size f cd
 outer:=outer
 stack:=envOfC qual scope s.heap.objs.size f cd::outer
 ex:=[]
 calm:=true
 fn:=fun _=>true
 pn:=[]
 xe:=fun e s'=>wpAny (model P w) (A.deeper (envOfC qual scope s.heap.objs.size f cd)) (leaving (envOfC qual scope s.heap.objs.size f cd) e) (fun _ s''=>CX outer H s E e s'') (fun e' s''=>CX outer H s E e' s'') s'
theorem cell_has {sc:Scope}{n:Nat}{x:Str} (h:sc.names.lookup x=some .cell):∃c,(cellsFrom n sc.names []).lookup x=some c:=by
 have q:=PySem.W.cellsFrom_some sc.names n [] (.inl h);exact Option.isSome_iff_exists.mp q
theorem zlz {CX:CXT}{P:Program}{w:World}{K:PySem.W.Frag}{mg:Str->Option Value}{base:Heap}{N ps:List Str}{qual:Str}{scope:Scope}{f:Addr}{cd:Value}{A:Around}{outer:List Env}{s s1:Shared}{H:Hp}{E:XK}{us:List Value}{vs:List V}
  (S:FnScope N ps scope) (hd:A.handled=none) (e0:Env0 P w K mg base A outer s H) (hl:vs.length=ps.length) (r:Vals vs us)
  (x:InCallC s s.heap.objs.size (bindL (envOfC qual scope s.heap.objs.size f cd).kindOf (ps.zip us) fun _=>none) (cellsFrom (s.heap.objs.size+1) scope.names []) (bindC (envOfC qual scope s.heap.objs.size f cd).kindOf (ps.zip us) fun _=>none) s1) :
  Inv (cxOf CX P w K mg base N qual scope f cd A outer s H E) [] (start N vs) H s1:=by
 have hpl:ps.length<=N.length:=by have:=congrArg List.length S.pre;rw [List.length_take] at this;omega
 obtain ⟨h1,tk,rfl,hk⟩:=x.done;have noA:∀b:Addr,b ∉ (cxOf CX P w K mg base N qual scope f cd A outer s H E).ex:=fun b z=>absurd (show b∈([]:List Addr) from z) (by simp);refine ⟨⟨e0.mod,S.kind,rfl,rfl,Nat.le_refl _,fun y z c h1 h2=>?_,fun y hy=>?_,fun y c _ h=>?_,fun _=>hd,Around.frames_deeper e0.frames,.inr ⟨rfl,rfl⟩,fun b z=>absurd z (noA b),e0.bs,e0.bsz,fun b _ _=>noA b,fun b z=>absurd z (noA b),e0.funs,e0.frf⟩,
  rfl,e0.bare,Un.kept hk,⟨_,x.toInCall.ns,fun i y v h1 h2 h3=>?_⟩,fun y c h=>⟨_,x.cell y c h⟩,e0.hok.fresh (Nat.le_refl _),fun y c h=>?_,fun p hp=>absurd (show p∈([]:List (Addr × Obj)) from hp) (by simp),e0.hok.kept hk,?_⟩
 ·exact name_of_addr x.apart (PySem.mem_of_lookup h1) (PySem.mem_of_lookup h2)
 ·have hy : scope.names.lookup y = some .cell \/ scope.names.lookup y = some .free := hy;rcases hy with hy | hy
  ·exact cell_has hy
  ·exact absurd rfl (S.nofree _ (PySem.mem_of_lookup hy))
 ·exact Nat.le_of_lt (x.above y c (PySem.mem_of_lookup h))
 ·have hi:i < vs.length:=by
   unfold start at h2;by_cases hi:i < vs.length
   ·exact hi
   ·rw [List.getElem?_append_right (by simpa using hi)] at h2;rw [List.getElem?_replicate] at h2;split at h2<;>cases h2
  have ha:vs[i]?=some v:=by
   unfold start at h2;rw [List.getElem?_append_left (by simpa using hi),List.getElem?_map] at h2;cases e:vs[i]? with
   | none=>rw [e] at h2;cases h2
   | some a=>rw [e] at h2;cases h2;rfl
  obtain ⟨u,hu,rv⟩:=r.get ha;have hp:ps[i]?=some y:=by
   rw [<-S.pre,List.getElem?_take_of_lt (by omega)];exact h1
  have ndP:ps.Nodup:=by rw [<-S.pre];exact S.nd.sublist (List.take_sublist _ _)
  refine ⟨u,rv,?_⟩;rcases S.par y (List.mem_of_getElem? hp) with k | k
  ·exact .inl ⟨k,zhr ndP hp hu k⟩
  ·obtain ⟨c, e⟩ := cell_has (n := s.heap.objs.size + 1) k;refine .inr ⟨.inl k,c,e,?_⟩;have q:=x.cell y c e;rw [zhi ndP hp hu (by show scope.names.lookup y≠_;rw [k];decide)] at q;exact q
 ·exact e0.hok.fresh (Nat.le_of_lt (x.above y c (PySem.mem_of_lookup h)))
 ·unfold start;show _=N.length;rw [List.length_append,List.length_map,List.length_replicate];omega
theorem zyy {CX:CXT}{P:Program}{w:World}{K:PySem.W.Frag}{mg:Str->Option Value}{base:Heap}{k:Nat}{f:Addr}{name qual:Str}{params:Arguments}{body:List Stmt}{scope:Scope}{dV kV doc pm cdv ct oc:Value}{an od:Option Addr}
    {osl:Array (Option Value)}{N ps:List Str}{sp:Sp} (lk:K.lookup f=some ⟨oc,od,.func (PySem.W.fnOf name qual params body scope dV kV doc pm an cdv ct),osl⟩) (hcd:PySem.W.codeIn K cdv qual=true) (S:FnScope N ps scope)
    (len:∀vs H Q E,sp vs H Q E->vs.length=ps.length)
    (hbody:∀(A:Around) (outer:List Env) (s:Shared) (H:Hp) (vs:List V) (Q:VK) (E:XK),(Room k (A.deeper (envOfC qual scope s.heap.objs.size f cdv))/\Room (k+1) A)->sp vs H Q E ->
      ∃t,PSs (cxOf CX P w K mg base N qual scope f cdv A outer s H E) body t/\t { nx:=fun _ H'=>Q .non H',rt:=Q } (start N vs) H) :
    FnOk P w K mg base CX (k+1) f (PySem.W.fnOf name qual params body scope dV kV doc pm an cdv ct) ps sp:=by
  refine ⟨len,fun A outer s H args us vs Q E hr e0 hb r hsp=>?_⟩;have hl:=len _ _ _ _ hsp;have KX:K.In s.heap:=e0.mod.kin.keeps fun b o e=>(e0.bs b o e).1;have lim:s.heap.NoLimit:=e0.mod.nolimit.keeps fun b o e=>(e0.bs b o e).1;have hkind:∀y∈ps.zip us,scope.names.lookup y.1=some .local\/(scope.names.lookup y.1=some .cell/\((cellsFrom (s.heap.objs.size+1) scope.names []).lookup y.1).isSome=true):=fun ⟨n,v⟩ hy=>by
    rcases S.par n (List.of_mem_zip hy).1 with q | q
    · exact .inl q
    · exact .inr ⟨q,PySem.W.cellsFrom_some _ _ _ (.inl q)⟩
  refine codeAny_call_function hr.depth (KX _ _ lk) rfl S.co S.gen rfl (PySem.W.codeRec_of KX hcd) (hb _ _ _ _ ?_);refine wpAny_newFunctionEnv_cells S.kind hkind fun env he s1 x=>?_;subst he;refine ⟨lim.keeps x.toInCall.keep,codeAny_func ?_⟩;obtain ⟨t,ht,hq⟩:=hbody A outer s H vs Q E ⟨hr.deeper _,hr⟩ hsp;have I:Inv (cxOf CX P w K mg base N qual scope f cdv A outer s H E) [] (start N vs) H s1:=zlz S hr.hd e0 hl r x;refine wpAny_mono (ht [] s1 (start N vs) H _ I hq) (fun fl s' hs=>?_) fun e s' hs=>hs;have fin:∀{σ' : St}{H' : Hp}{v:V}{u:Value},Inv (cxOf CX P w K mg base N qual scope f cdv A outer s H E) [] σ' H' s'->RelV v u->Q v H'->CE outer P w H s Q u s' :=
    fun {σ' H' v u} J rv q=>⟨v,H',J.os,J.bare,J.base,J.hok,rv,q⟩
  cases fl with
  | ret u =>
    obtain ⟨v,σ',H',J,rv,q⟩:=hs;exact fin J rv q
  | next =>
    obtain ⟨σ',H',J,q⟩:=hs;exact fin (v:=V.non) (u:=Value.none) J rfl q
  | brk =>
    obtain ⟨_,_,_,q⟩:=hs;exact False.elim q
  | cont =>
    obtain ⟨_,_,_,q⟩:=hs;exact False.elim q
end L2
namespace L2
open PySem PySem.Spec PyProof.Rows
section
variable {X:Cx}{x:Str}{p pos:Pos}{e:Expr}{es:List Expr}{t:TA}{id T:String}{r:List V->Hp->VK->Prop}
noncomputable def tCB (r:List V->Hp->VK->Prop) (t:TA):TE:=fun σ H Q=>t σ H fun vs H1=>r vs H1 Q
theorem za3 (hc:zbc X (.builtin id) r) (hg:Gl X x) (hm:X.mg x=none) (hv:bootBuiltins x=some (.builtin id)) (ha:PA X (e::es) t) (hn:x≠"__name__" := by decide) (hdb:(x == ("__debug__" : Str))=false:=by decide)
  (he:starEach (e::es) X.env=(false,eval e X.env)::starEach es X.env:=by rfl) (hpl:(backTo pos (starEach es X.env)).any (·.1)=false:=by rfl):PE X (.Call (.Name x p) (e::es) [] pos) (tCB r t):=by
 intro pins s σ H Q I h;refine wpAny_Call_Name_kw (zed I hg hm hv ?_ hn hdb);exact PyProof.Rows.callWith_builtin1 (thn (ha pos pins s σ H _ I h) fun us s1 ⟨vs,H1,I1,r1,q1⟩=>hc pins s1 σ H1 vs us Q I1 r1 q1) he hpl
theorem zd4 (hc:zbc X (.type T) r) (hg:Gl X x) (hm:X.mg x=none) (hv:bootBuiltins x=some (.type T)) (ha:PA X (e::es) t) (hn:x≠"__name__" := by decide) (hdb:(x == ("__debug__" : Str))=false:=by decide)
  (he:starEach (e::es) X.env=(false,eval e X.env)::starEach es X.env:=by rfl) (hpl:(backTo pos (starEach es X.env)).any (·.1)=false:=by rfl):PE X (.Call (.Name x p) (e::es) [] pos) (tCB r t):=by
 intro pins s σ H Q I h;refine wpAny_Call_Name_kw (zed I hg hm hv ?_ hn hdb);exact PyProof.Rows.callWith_type1 (thn (ha pos pins s σ H _ I h) fun us s1 ⟨vs,H1,I1,r1,q1⟩=>hc pins s1 σ H1 vs us Q I1 r1 q1) he hpl
end
end L2
namespace HT
open PySem PyProof.Rows
section
open PySem.SeqAt
open PySem.AutoSeq1 (wpAny_loadPart')
open PySem.MeetsSeq PySem.MeetsSeq2 PySem.MeetsSeq3
end
section
variable {prog:Program}{w:World}{A:Around}{E:Value->Shared->Prop}{s:Shared}
theorem cat_tup {t b:Addr}{vs ws:List Value}{Q:Value->Shared->Prop} (ht:IsTup s.heap t vs.toArray) (hb:IsTup s.heap b ws.toArray) (hv:vs≠[])
  (h1:ws=[]->Q (.ref t) s) (h2:ws≠[]->Q (.ref s.heap.objs.size) { s with heap:=s.heap.push { cls:=.type "tuple",data:=.seq (vs++ws).toArray } })
  (hsz:vs.length+ws.length<=sizeLine):wpAny (model prog w) A (binaryOp .Add (.ref t) (.ref b)) Q E s:=by
 obtain ⟨⟨cls,dd,data,sl⟩,ho,hc,n,hd⟩:=id ht;obtain ⟨⟨cls2,dd2,data2,sl2⟩,ho2,hc2,n2,hd2⟩:=id hb;simp only at hc hd hc2 hd2;subst hc hd hc2 hd2;have e:vs.toArray++ws.toArray=(vs++ws).toArray:=by simp
 by_cases hw:ws=[]
 ·exact concat_meets ⟨_,ho,rfl⟩ ⟨_,ho2,rfl⟩ noFill_tuple_add seq_tuple_add PySem.F.slot_tuple_add PySem.F.entry_tuple_add (PySem.F.args_tuple_add_2 _ _)
   (tuple_addW1 t b vs.toArray ws.toArray n n2 dd dd2 sl sl2 (by simpa using hv) (by simp [hw])) ⟨ho,ho2,h1 hw⟩
 ·refine concat_meets ⟨_,ho,rfl⟩ ⟨_,ho2,rfl⟩ noFill_tuple_add seq_tuple_add PySem.F.slot_tuple_add PySem.F.entry_tuple_add (PySem.F.args_tuple_add_2 _ _)
   (tuple_addW2 t b vs.toArray ws.toArray n n2 dd dd2 sl sl2 (by simpa using hv) (by simpa using hw) (by rw [List.size_toArray,List.size_toArray];exact hsz)) ⟨ho,ho2,?_⟩
  rw [e];exact h2 hw
noncomputable def sIx (n d:Nat):Option Int->Nat
 | none=>d
 | some v=>if v < 0 then (v+(n:Int)).toNat else min v.toNat n
theorem sIx_nat (n d k:Nat):sIx n d (some (k:Int))=min k n:=by
 show (if (k:Int) < 0 then ((k:Int)+(n:Int)).toNat else min (k:Int).toNat n)=min k n;rw [if_neg (by omega),Int.toNat_natCast]
theorem zx9 (n d:Nat) (hd:d<=n) (o:Option Int):sIx n d o<=n:=by
  cases o with
  | none=>exact hd
  | some v =>
    show (if v < 0 then (v+(n:Int)).toNat else min v.toNat n)<=n;by_cases hv:v < 0
    · rw [if_pos hv];omega
    · rw [if_neg hv];exact Nat.min_le_right _ _
theorem znd (v:Int) (n d:Nat):(if v < 0 then max (v+(n:Int)) 0 else min v (n:Int))=((sIx n d (some v):Nat):Int):=by
 show (if v < 0 then max (v+(n:Int)) 0 else min v (n:Int))=(((if v < 0 then (v+(n:Int)).toNat else min v.toNat n):Nat):Int);by_cases hv:v < 0
 ·simp only [if_pos hv];omega
 ·simp only [if_neg hv];omega
theorem zkt (lo hi:Option Int) (n:Nat):Builtin.Slice.sliceAdjust lo hi 1 (n:Int)=(((sIx n 0 lo:Nat):Int),((sIx n n hi:Nat):Int)):=by
 have h1:¬ ((1:Int) < 0):=by omega
 unfold Builtin.Slice.sliceAdjust;simp only [h1,if_false];refine Prod.ext ?_ ?_
 ·cases lo with
  | none=>rfl
  | some v=>exact znd v n 0
 ·cases hi with
  | none=>rfl
  | some v=>exact znd v n n
theorem zkm (i j:Nat):Builtin.Slice.slicePlaces (i:Int) (j:Int) 1=j - i:=by
 unfold Builtin.Slice.slicePlaces;have h1:(1:Int) > 0:=by omega
 simp only [h1,if_true,Int.ediv_one];split<;>omega
theorem ze4 {v:Value}{o:Option Int}{Q:Option Int->Shared->Prop} (p:IsPart v o) (h:Q o s):wpAny (model prog w) A (Builtin.Slice.slicePartIndex v) Q E s:=by
 cases p with
 | none=>exact slicePart_none h
 | int i t=>exact slicePart_int h
theorem zb7 {sl:Addr}{vl vu:Value}{lo hi:Option Int}{n:Nat}{Q:Int × Int × Nat->Shared->Prop} (hs:s.heap.IsSliceOf sl vl vu .none) (pl:IsPart vl lo) (pu:IsPart vu hi)
  (h:Q (((sIx n 0 lo:Nat):Int),1,sIx n n hi - sIx n 0 lo) s):wpAny (model prog w) A (Builtin.Slice.sliceApplied (.ref sl) (pure (n:Int))) Q E s:=by
 obtain ⟨os,hos,hcs,hds⟩:=id hs;unfold Builtin.Slice.sliceApplied Builtin.Slice.sliceFields;refine wpAny_bind (wpAny_bind (wpAny_field hos hds (x:=vl) rfl (wpAny_bind (wpAny_field hos hds (x:=vu) rfl (wpAny_bind (wpAny_field hos hds (x:=.none) rfl (wpAny_pure ?_)))))));refine wpAny_bind (slicePart_none ?_);show wpAny _ _ (if ((1:Int) == 0)=true then _ else _) _ _ s;rw [if_neg (by decide)];refine wpAny_bind (ze4 pl (wpAny_bind (ze4 pu (wpAny_bind (wpAny_pure ?_)))));show wpAny _ _ (match Builtin.Slice.sliceAdjust lo hi 1 (n:Int) with | (lo,hi)=>pure (lo,(1:Int),Builtin.Slice.slicePlaces lo hi 1)) _ _ s;rw [zkt lo hi n];show wpAny _ _ (pure (((sIx n 0 lo:Nat):Int),(1:Int),Builtin.Slice.slicePlaces ((sIx n 0 lo:Nat):Int) ((sIx n n hi:Nat):Int) 1)) _ _ s;rw [zkm];exact wpAny_pure h
theorem zq2 (xs:Array Value) (i k:Nat):((List.range k).filterMap fun (m:Nat)=>xs[((i:Int)+(m:Int) * 1).toNat]?).toArray=((xs.toList.drop i).take k).toArray:=by
 have e:(fun (m:Nat)=>xs[((i:Int)+(m:Int) * 1).toNat]?)=fun m=>xs[i+m]?:=by
  funext m
  have:((i:Int)+(m:Int) * 1).toNat=i+m:=by omega
  rw [this]
 rw [e];have:=pick_run xs i k;rw [List.filterMap_map] at this;have e2:((fun x=>xs[x]?) ∘ fun x=>i+x)=fun m=>xs[i+m]?:=rfl;rw [e2] at this;rw [this]
theorem getItem_tuple_cut {t sl:Addr}{items:Array Value}{vl vu:Value}{lo hi:Option Int}{Q:Value->Shared->Prop} (ht:IsTup s.heap t items) (hs:s.heap.IsSliceOf sl vl vu .none) (pl:IsPart vl lo) (pu:IsPart vu hi)
  (hw:¬ (sIx items.size 0 lo=0/\sIx items.size items.size hi=items.size))
  (h:Q (.ref s.heap.objs.size) { s with heap:=s.heap.push { cls:=.type "tuple",data:=.seq ((items.toList.drop (sIx items.size 0 lo)).take (sIx items.size items.size hi - sIx items.size 0 lo)).toArray } })
  (hsz:items.size<=sizeLine):wpAny (model prog w) A (getItem (.ref t) (.ref sl)) Q E s:=by
 have htake:sizeOk (.seq ((items.toList.drop (sIx items.size 0 lo)).take (sIx items.size items.size hi - sIx items.size 0 lo)).toArray):=by
  show ((items.toList.drop (sIx items.size 0 lo)).take (sIx items.size items.size hi - sIx items.size 0 lo)).toArray.size<=sizeLine;rw [List.size_toArray,List.length_take,List.length_drop,Array.length_toList];omega
 have hj:sIx items.size items.size hi<=items.size:=zx9 _ _ (Nat.le_refl _) hi;obtain ⟨os,hos,hcs,hds⟩:=id hs;have hTs:s.TypeIs (.ref sl) "slice" := ⟨os,hos,hcs⟩;unfold getItem
 try with_reducible refine wpAny_holding ?_
 first | refine wpAny_bind (wpAny_pure ?_) | skip
 refine wpAny_bind (wpAny_sequenceKey ht.typeIs (by decide) ?_);refine wpAny_bind (wpAny_callSpecial?_slot (name:=Str.ofString "__getitem__") ht.typeIs PyProof.Rows.slot_tuple_getitem
  (wpAny_call_entry PyProof.Rows.slot_tuple_getitem ht.typeIs entry_tuple_getitem ?_ (args_tuple_getitem _ _)))
 show wpAny _ _ (Builtin.Tuple.tupleItemsOf (.ref t) >>= _) _ _ s;refine wpAny_bind (tupleItemsOf_ ht ?_);refine wpAny_bind (wpAny_typeOf hTs ?_);rw [if_pos (by decide)];refine wpAny_bind (zb7 hs pl pu ?_);have hno:¬ ((((sIx items.size 0 lo:Nat):Int) == 0 && (1:Int) == 1 && (sIx items.size items.size hi - sIx items.size 0 lo) == items.size)=true):=by
  intro q;rw [Bool.and_eq_true,Bool.and_eq_true] at q;have q1:((sIx items.size 0 lo:Nat):Int)=0:=eq_of_beq q.1.1;have q2:sIx items.size items.size hi - sIx items.size 0 lo=items.size:=eq_of_beq q.2;exact hw ⟨by omega,by omega⟩
 show wpAny _ _ (if (((sIx items.size 0 lo:Nat):Int) == 0 && (1:Int) == 1 && (sIx items.size items.size hi - sIx items.size 0 lo) == items.size)=true then _ else _) _ _ s;rw [if_neg hno,zq2]
 first
  | exact wpAny_bind (m:=Builtin.Tuple.tupleExact _) (wpAny_newObj_type (wpAny_pure ⟨_,rfl,wpAny_pure h⟩) htake)
  | exact wpAny_bind (m:=Builtin.Tuple.tupleExact _) (wpAny_newObj_type (wpAny_bind (wpAny_pure (wpAny_pure ⟨_,rfl,wpAny_pure h⟩))) htake)
  | exact wpAny_bind (wpAny_bind (m:=Builtin.Tuple.tupleExact _) (wpAny_newObj_type (wpAny_pure (wpAny_pure ⟨_,rfl,wpAny_pure h⟩)) htake))
  | exact wpAny_bind (wpAny_bind (m:=Builtin.Tuple.tupleExact _) (wpAny_newObj_type (wpAny_pure ⟨_,rfl,wpAny_pure h⟩) htake))
end
end HT
namespace L2
open PySem PySem.Spec PyProof.Rows
noncomputable abbrev TO:=St->Hp->(Option Int->Hp->Prop)->Prop
noncomputable def PO (X:Cx) (e:Option Expr) (t:TO):Prop :=
  ∀(pins:List (Addr × Obj)) (s:Shared) (σ:St) (H:Hp) (Q:Option Int->Hp->Prop),Inv X pins σ H s->t σ H Q ->
    wpAny (model X.prog X.w) X.A (evalPart e X.env) (fun u s'=>∃o H',Inv X pins σ H' s'/\IsPart u o/\Q o H') X.xe s
noncomputable def zoc:TO:=fun _ H Q=>Q none H
noncomputable def zvu (t:TE):TO:=fun σ H Q=>t σ H fun x H1=>∃i,x=.int i/\Q (some i) H1
section
variable {X:Cx}{e:Expr}{te:TE}{lo hi:Option Expr}{tl th:TO}{pos p2:Pos}
theorem zsx:PO X none zoc:=by
 intro pins s σ H Q I h;rw [evalPart_none];exact wpAny_pure ⟨none,H,I,.none,h⟩
theorem zu9 (h:PE X e te):PO X (some e) (zvu te):=by
 intro pins s σ H Q I hw;rw [evalPart_some];refine thn (h pins s σ H _ I hw) fun u s1 ⟨x,H1,I1,r1,q1⟩=>?_;obtain ⟨i,rfl,q⟩:=q1;obtain ⟨t,rfl⟩:=r1;exact ⟨some i,H1,I1,.int i t,q⟩
noncomputable def SlR (X:Cx) (r:V->Option Int->Option Int->Hp->VK->Prop):Prop :=
  ∀(pins:List (Addr × Obj)) (s:Shared) (σ:St) (H:Hp) (x:V) (v vl vu:Value) (lo hi:Option Int) (sl:Addr) (Q:VK),Inv X pins σ H s->RelV x v->s.heap.IsSliceOf sl vl vu .none->IsPart vl lo->IsPart vu hi->r x lo hi H Q ->
    ∃T id,typeLookup (.type T) "__getitem__" = pure (some (.builtin id))/\s.TypeIs v T/\wpAny (model X.prog X.w) X.A (getItem v (.ref sl)) (EP X pins σ Q) X.xe s
theorem SlR.or {r r' : V->Option Int->Option Int->Hp->VK->Prop} (h:SlR X r) (h' : SlR X r'):SlR X (fun x lo hi H Q=>r x lo hi H Q\/r' x lo hi H Q):=by
 intro pins s σ H x v vl vu lo hi sl Q I rx hs pl pu q;rcases q with q | q
 ·exact h pins s σ H x v vl vu lo hi sl Q I rx hs pl pu q
 ·exact h' pins s σ H x v vl vu lo hi sl Q I rx hs pl pu q
noncomputable def tSl (r:V->Option Int->Option Int->Hp->VK->Prop) (te:TE) (tl th:TO):TE:=fun σ H Q=>te σ H fun x H1=>tl σ H1 fun l H2=>th σ H2 fun u H3=>r x l u H3 Q
theorem zpg {r:V->Option Int->Option Int->Hp->VK->Prop} (hr:SlR X r) (he:PE X e te) (hl:PO X lo tl) (hu:PO X hi th):PE X (.Subscript e (.Slice lo hi none p2) pos) (tSl r te tl th):=by
 intro pins s σ H Q I h;refine Subscript_ (thn (he pins s σ H _ I h) fun v s1 ⟨x,H1,I1,r1,q1⟩=>?_);refine wpAny_Slice (thn (hl pins s1 σ H1 _ I1 q1) fun vl s2 ⟨l,H2,I2,pl,q2⟩=>thn (hu pins s2 σ H2 _ I2 q2) fun vu s3 ⟨u,H3,I3,pu,q3⟩=>?_);rw [evalPart_none];refine wpAny_pure ?_;have I4:Inv X pins σ H3 { s3 with heap:=s3.heap.push { cls:=.type "slice",data:=.fields #[vl,vu,.none] } }:=I3.kept (t':=s3.toks) fun b ob q=>Heap.get?_push_of_some _ q;obtain ⟨T,id,hT,ht,hg⟩:=hr pins { s3 with heap:=s3.heap.push { cls:=.type "slice",data:=.fields #[vl,vu,.none] } } σ H3 x v vl vu l u s3.heap.objs.size Q I4 r1 (Heap.IsSliceOf.new ..) pl pu q3;show wpAny (model X.prog X.w) X.A (subscriptTail e (.Slice lo hi none p2) v (.ref s3.heap.objs.size)) (EP X pins σ Q) X.xe { s3 with heap:=s3.heap.push { cls:=.type "slice",data:=.fields #[vl,vu,.none] } };exact tail_any (ops:=[.ref s3.heap.objs.size,v]) ht hT hg (by with_unfolding_all rfl)
noncomputable def cutV (xs:List V) (lo hi:Option Int):List V:=(xs.drop (HT.sIx xs.length 0 lo)).take (HT.sIx xs.length xs.length hi - HT.sIx xs.length 0 lo)
theorem zec (xs:List V) (lo hi:Option Int):(cutV xs lo hi).length<=xs.length:=by
 unfold cutV;rw [List.length_take,List.length_drop];omega
noncomputable def rSlT (K:PySem.W.Frag):V->Option Int->Option Int->Hp->VK->Prop:=fun x lo hi H Q=>∃a xs,x=.ref a/\SqT K H a xs /\
 ¬ (HT.sIx xs.length 0 lo=0/\HT.sIx xs.length xs.length hi=xs.length)/\∀p,H p=none->Q (.ref p) (upd H p (.tup (cutV xs lo hi)))
theorem zyo:SlR X (rSlT X.K):=by
 intro pins s σ H x v vl vu lo hi sl Q I rx hs pl pu h;obtain ⟨a,xs,rfl,hx,hw,q⟩:=h;cases rx;obtain ⟨its,r,ht,hz⟩:=I.tuple hx;have hlen:its.toArray.size=xs.length:=by rw [List.size_toArray];exact r.length.symm
 refine ⟨"tuple",_,PyProof.Rows.slot_tuple_getitem.lookup,ht.typeIs,?_⟩;refine HT.getItem_tuple_cut ht hs pl pu (by rw [hlen];exact hw) ?_ (by rw [hlen];exact hz);rw [hlen];refine ⟨.ref s.heap.objs.size,_,I.laid (t':=s.toks) (o:=.tup (cutV xs lo hi)) (fun b ob q=>Heap.get?_push_of_some _ q) (Nat.le_refl _) ?_,rfl,q _ (I.hok.fresh (Nat.le_refl _))⟩;exact ⟨Nat.le_trans (zec xs lo hi) hz,_,(r.drop (HT.sIx xs.length 0 lo)).take (HT.sIx xs.length xs.length hi - HT.sIx xs.length 0 lo),IsTup.new _ _⟩
noncomputable def zv8 (K:PySem.W.Frag):R2:=fun x y H Q=>∃a b xs ys,x=.ref a/\y=.ref b/\SqT K H a xs/\SqT K H b ys/\xs≠[]/\xs.length+ys.length<=sizeLine /\
 (ys=[]->Q (.ref a) H)/\(ys≠[]->∀p,H p=none->Q (.ref p) (upd H p (.tup (xs++ys))))
theorem Vals.nil_iff {xs:List V}{us:List Value} (r:Vals xs us):us=[]↔xs=[]:=by
 cases r with
 | nil=>simp
 | cons _ _=>simp
theorem zt2:OpR X (binaryOp .Add) (zv8 X.K):=by
 intro pins s σ H x y v u Q I rx ry h;obtain ⟨a,b,xs,ys,rfl,rfl,ha,hb,hx,hz,q1,q2⟩:=h;cases rx;cases ry;obtain ⟨its,r1,p1,_⟩:=I.tuple ha;obtain ⟨its2,r2,p2,_⟩:=I.tuple hb;refine HT.cat_tup p1 p2 (fun z=>hx (r1.nil_iff.mp z)) (fun z=>⟨.ref a,H,I,rfl,q1 (r2.nil_iff.mp z)⟩) (fun z=>?_) (by rw [<-r1.length,<-r2.length];exact hz);refine ⟨.ref s.heap.objs.size,_,I.laid (t':=s.toks) (o:=.tup (xs++ys)) (fun b ob q=>Heap.get?_push_of_some _ q) (Nat.le_refl _) ?_,rfl,q2 (fun w=>z (r2.nil_iff.mpr w)) _ (I.hok.fresh (Nat.le_refl _))⟩;exact ⟨by rw [List.length_append];exact hz,_,r1.append r2,IsTup.new _ _⟩
end
end L2
namespace L2
open PySem PySem.Spec PyProof.Rows
noncomputable def ixN (n:Nat) (i:Int):Option Nat:=if 0<=i then (if i < n then some i.toNat else none) else if -(n:Int)<=i then some (i+n).toNat else none
noncomputable def atI {α:Type} (xs:List α) (i:Int):Option α:=(ixN xs.length i).bind fun j=>xs[j]?
theorem znn {n:Nat}{i:Int}{j:Nat} (h:ixN n i=some j):seqIndex? i n=some j/\j < n/\-(n:Int)<=i/\i < n:=by
 unfold ixN at h;by_cases h0:0<=i
 ·rw [if_pos h0] at h;by_cases h1:i < n
  ·rw [if_pos h1] at h;have e:i.toNat=j:=sI h;exact ⟨by rw [seqIndex_of h0 h1,e],by omega,by omega,h1⟩
  ·rw [if_neg h1] at h;cases h
 ·rw [if_neg h0] at h;by_cases h1:-(n:Int)<=i
  ·rw [if_pos h1] at h;have e:(i+n).toNat=j:=sI h;exact ⟨by rw [seqIndex_neg (by omega) h1,e],by omega,h1,by omega⟩
  ·rw [if_neg h1] at h;cases h
theorem zh8 {α:Type}{xs:List α}{i:Int}{v:α} (h:atI xs i=some v):∃j,seqIndex? i xs.length=some j/\xs[j]?=some v/\j < xs.length/\-(xs.length:Int)<=i/\i < xs.length:=by
  unfold atI at h;cases e:ixN xs.length i with
  | none=>rw [e] at h;cases h
  | some j =>
    rw [e] at h;obtain ⟨h1,h2,h3,h4⟩:=znn e;exact ⟨j,h1,h,h2,h3,h4⟩
theorem zsq {α:Type}{xs:List α}{j:Nat}{v:α} (h:xs[j]?=some v):atI xs (j:Int)=some v:=by
 have hj:j < xs.length:=(List.getElem?_eq_some_iff.mp h).1;have e:ixN xs.length (j:Int)=some j:=by
  unfold ixN;rw [if_pos (by omega),if_pos (by omega)];simp
 unfold atI;rw [e];exact h
noncomputable def zmy (b:Expr):Prop:=∀o i,subscripted b false o i=operate [o,i] (getItem o i)
noncomputable def IxR (X:Cx) (r:R2):Prop :=
  ∀(value slice:Expr) (pins:List (Addr × Obj)) (s:Shared) (σ:St) (H:Hp) (x y:V) (v u:Value) (Q:VK),Inv X pins σ H s->RelV x v->RelV y u->r x y H Q ->
    subscripted slice false v u=operate [v,u] (getItem v u)->wpAny (model X.prog X.w) X.A (subscriptTail value slice v u) (EP X pins σ Q) X.xe s
noncomputable def MtR (X:Cx) (id:String) (r:V->List V->Hp->VK->Prop):Prop :=
  ∀(pins:List (Addr × Obj)) (s:Shared) (σ:St) (H:Hp) (x:V) (xs:List V) (v:Value) (us:List Value) (Q:VK),Inv X pins σ H s->RelV x v->Vals xs us->r x xs H Q ->
    wpAny (model X.prog X.w) X.A (call (.builtin id) (v::us)) (EP X pins σ Q) X.xe s
section
variable {X:Cx}{a b:Expr}{ta tb:TE}{pos:Pos}
theorem IxR.or {r r' : R2} (h:IxR X r) (h' : IxR X r'):IxR X (fun x y H Q=>r x y H Q\/r' x y H Q):=by
 intro value slice pins s σ H x y v u Q I rx ry q hs;rcases q with q | q
 ·exact h value slice pins s σ H x y v u Q I rx ry q hs
 ·exact h' value slice pins s σ H x y v u Q I rx ry q hs
theorem zvw {r:R2} (hr:IxR X r) (ha:PE X a ta) (hb:PE X b tb) (hs:zmy b):PE X (.Subscript a b pos) (tOp r ta tb):=by
 intro pins s σ H Q I h;exact Subscript_ (binT ha hb I h fun v u s2 x y H2 I2 rx ry q=>hr a b pins s2 σ H2 x y v u Q I2 rx ry q (hs _ _))
noncomputable def rIxL (K:PySem.W.Frag):R2:=fun x y H Q=>∃p xs i v,x=.ref p/\y=.int i/\SqL K H p xs/\atI xs i=some v/\Q v H
noncomputable def rIxT (K:PySem.W.Frag):R2:=fun x y H Q=>∃p xs i v,x=.ref p/\y=.int i/\SqT K H p xs/\atI xs i=some v/\Q v H
noncomputable def rIxS:R2:=fun x y H Q=>∃z i c,x=.str z/\y=.int i/\z.length<=sizeLine/\atI z.cps.toList i=some c/\Q (.str ⟨#[c]⟩) H
theorem zs5:IxR X (rIxL X.K):=by
 intro value slice pins s σ H x y v u Q I rx ry h hs;refine aG fun _ qG=>?_;obtain ⟨p,xs,i,z,rfl,rfl,hq,he,q⟩:=h;refine qG ?_;clear qG;cases rx;refine aG fun _ qG=>?_;obtain ⟨t,rfl⟩:=ry;obtain ⟨its,r,pl,hz⟩:=I.list hq;obtain ⟨j,h1,h2,h3,h4,h5⟩:=zh8 he;obtain ⟨w,ew,rw'⟩:=r.get h2;refine qG ?_;clear qG;have hl:=r.length;have hn:=ze3;have fin:EP X pins σ Q w s:=⟨z,H,I,rw',q⟩;by_cases h0:0<=i
 ·have hj:i.toNat=j:=by
   rw [seqIndex_of h0 h5] at h1;exact sI h1
  exact item_listR pl.isList h0 (by omega) (by rw [hj];simpa using ew) fin hs
 ·have hj:(i+(its.toArray.size:Int)).toNat=j:=by
   rw [seqIndex_neg (by omega) h4] at h1;rw [List.size_toArray,<-hl];exact sI h1
  exact subscriptTail_builtinR (x:=w) pl.isList.typeIs slot_list_getitem.lookup
   (wpAny_getItem_list_neg (Q:=fun r s'=>r=w/\EP X pins σ Q r s') pl.isList (by omega) (by rw [List.size_toArray]<;>omega) (by omega) (by rw [hj];simpa using ew) ⟨rfl,fin⟩) hs
theorem zw2:IxR X (rIxT X.K):=by
 intro value slice pins s σ H x y v u Q I rx ry h hs;obtain ⟨p,xs,i,z,rfl,rfl,hq,he,q⟩:=h;cases rx;obtain ⟨t,rfl⟩:=ry;obtain ⟨its,r,pl,hz⟩:=I.tuple hq;obtain ⟨j,h1,h2,h3,h4,h5⟩:=zh8 he;obtain ⟨w,ew,rw'⟩:=r.get h2;have hl:=r.length;have hn:=ze3;have fin:EP X pins σ Q w s:=⟨z,H,I,rw',q⟩;exact subscriptTail_builtinR (x:=w) pl.typeIs slot_tuple_getitem.lookup
  (getItem_tuple (j:=j) (Q:=fun r s'=>r=w/\EP X pins σ Q r s') pl (by omega) (by omega) (by rw [List.size_toArray,<-hl];exact h1) (by simpa using ew) ⟨rfl,fin⟩) hs
theorem zxm:IxR X rIxS:=by
 intro value slice pins s σ H x y v u Q I rx ry h hs;refine aG fun _ qG=>?_;obtain ⟨z,i,c,rfl,rfl,hz,he,q⟩:=h;obtain ⟨t,rfl⟩:=rx;obtain ⟨t',rfl⟩:=ry;obtain ⟨j,h1,h2,h3,h4,h5⟩:=zh8 he;refine qG ?_;clear qG;have hl:z.cps.toList.length=z.length:=by simp [Str.length]
 rw [hl] at h1 h4 h5;have hn:=ze3;exact tail_any (typeIs_str s z t) slot_str_getitem.lookup (getItem_str (c:=c) (by
  have e1:decide (i < -(2 ^ 63:Int))=false:=decide_eq_false (by omega);have e2:decide (i ≥ 2 ^ 63)=false:=decide_eq_false (by omega);rw [e1,e2,Bool.or_false]) (by rw [h1];simpa using h2) ⟨.str ⟨#[c]⟩,H,I.tok _,⟨_,rfl⟩,q⟩) hs
theorem zku (its:List Value) (n j:Nat) (u:Value):Obj.mapSeq (·.setIfInBounds j u) { cls:=.type "list",data:=.seq its.toArray n }={ cls:=.type "list",data:=.seq (its.set j u).toArray n }:=by
 simp [Obj.mapSeq]
theorem Inv.lst {pins:List (Addr × Obj)}{σ:St}{H:Hp}{s:Shared}{p:Addr}{xs:List V} (I:Inv X pins σ H s) (h:H p=some (.lst xs)) :
  ∃(its:List Value) (n:Nat),Vals xs its/\s.heap.get? p=some { cls:=.type "list",data:=.seq its.toArray n }/\xs.length<=sizeLine:=by
 refine aG fun _ qG=>?_;obtain ⟨z,its,n,r,e⟩:=I.hok p _ h;refine qG ?_;clear qG;exact ⟨its,n,r,e,z⟩
theorem Inv.lstUpd {pins:List (Addr × Obj)}{σ:St}{H:Hp}{s:Shared}{p:Addr}{xs ys:List V}{its its' : List Value}{n n' : Nat}{f:Obj->Obj} (I:Inv X pins σ H s) (h:H p=some (.lst xs))
  (ho:s.heap.get? p=some { cls:=.type "list",data:=.seq its.toArray n }) (hf:f { cls:=.type "list",data:=.seq its.toArray n }={ cls:=.type "list",data:=.seq its'.toArray n' }) (r:Vals ys its') (hz:ys.length<=sizeLine) (t:Nat) :
  Inv X pins σ (upd H p (.lst ys)) { s with heap:=s.heap.update p f,toks:=t }:=by
 have e:(s.heap.update p f).get? p=some { cls:=.type "list",data:=.seq its'.toArray n' }:=by
  rw [Heap.get?_update_self f ho (by rw [hf]<;>rfl),hf]
 refine I.write (x:=p) (e:=p) (by rw [h];trivial) (.inl rfl) (fun b u hb q=>(Heap.get?_update_other _ _ (Ne.symm hb)).trans q) ⟨_,e⟩ ?_;exact ⟨hz,its',n',r,e⟩
noncomputable def zwv:V->V->V->Hp->(Hp->Prop)->Prop:=fun o i v H Q=>∃p xs k j,o=.ref p/\i=.int k/\H p=some (.lst xs)/\ixN xs.length k=some j/\Q (upd H p (.lst (xs.set j v)))
theorem zp4:PSet X zwv:=by
 intro pins s σ H o i v ov iv u Q I ro ri rv h;refine aG fun _ qG=>?_;obtain ⟨p,xs,k,j,rfl,rfl,hp,hj,q⟩:=h;refine qG ?_;clear qG;cases ro;refine aG fun _ qG=>?_;obtain ⟨t,rfl⟩:=ri;obtain ⟨its,n,r,ho,hz⟩:=I.lst hp;obtain ⟨h1,h2,h3,h4⟩:=znn hj;refine qG ?_;clear qG;have hl:=r.length;have hn:=ze3;have I' : Inv X pins σ (upd H p (.lst (xs.set j v))) { s with heap:=s.heap.update p (Obj.mapSeq (·.setIfInBounds j u)) } :=
  I.lstUpd hp ho (zku its n j u) (r.set rv j) (by rw [List.length_set];exact hz) s.toks
 by_cases h0:0<=k
 ·have hk:k.toNat=j:=by
   rw [seqIndex_of h0 h4] at h1;exact sI h1
  exact PySem.W.ki_setAt ho h0 (by omega) (by rw [List.size_toArray,<-hl];exact h4) (by rw [hk];exact ⟨_,I',q⟩)
 ·have hk:(k+(its.toArray.size:Int)).toNat=j:=by
   rw [seqIndex_neg (by omega) h3] at h1;rw [List.size_toArray,<-hl];exact sI h1
  exact PySem.W.ki_setBack ho (by omega) (by rw [List.size_toArray,<-hl];exact h3) (by omega) (by rw [hk];exact ⟨_,I',q⟩)
theorem zhh (lo hi:Option Int) (n:Nat):(sliceBounds lo hi none n).1=((HT.sIx n 0 lo:Nat):Int)/\(sliceBounds lo hi none n).2.1=((HT.sIx n n hi:Nat):Int)/\(sliceBounds lo hi none n).2.2=1:=by
  refine ⟨?_,?_,rfl⟩
  · cases lo with
    | none=>simp [sliceBounds,HT.sIx]
    | some i =>
      simp only [sliceBounds,HT.sIx,Option.getD_none,show (1:Int) > 0 by decide,if_true];by_cases h:i < 0
      · simp only [h,if_true]<;>omega
      · simp only [h,if_false]<;>omega
  · cases hi with
    | none=>simp [sliceBounds,HT.sIx]
    | some i =>
      simp only [sliceBounds,HT.sIx,Option.getD_none,show (1:Int) > 0 by decide,if_true];by_cases h:i < 0
      · simp only [h,if_true]<;>omega
      · simp only [h,if_false]<;>omega
theorem zfz (its:List Value) (lo hi:Option Int):slicePick its.toArray lo hi none=((its.drop (HT.sIx its.length 0 lo)).take (HT.sIx its.length its.length hi - HT.sIx its.length 0 lo)).toArray:=by
 obtain ⟨h1,h2,h3⟩:=zhh lo hi its.toArray.size;unfold slicePick;rw [h1,h2,h3];simp only [sliceRange_one,pick_run,List.size_toArray]<;>rfl
noncomputable def rSlL (K:PySem.W.Frag):V->Option Int->Option Int->Hp->VK->Prop:=fun x lo hi H Q=>∃a xs,x=.ref a/\SqL K H a xs/\∀p,H p=none->Q (.ref p) (upd H p (.lst (cutV xs lo hi)))
theorem zsc:SlR X (rSlL X.K):=by
 intro pins s σ H x v vl vu lo hi sl Q I rx hs pl pu h;obtain ⟨a,xs,rfl,hx,q⟩:=h;cases rx;obtain ⟨its,r,ht,hz⟩:=I.list hx;have hlen:=r.length;refine ⟨"list",_,slot_list_getitem.lookup,ht.isList.typeIs,?_⟩;refine wpAny_getItem_list_slice ht.isList hs pl pu .none (by simp) ?_ (by rw [List.size_toArray]<;>omega);rw [zfz,<-hlen];refine ⟨.ref s.heap.objs.size,_,I.laid (t':=s.toks) (o:=.lst (cutV xs lo hi)) (fun b ob q=>Heap.get?_push_of_some _ q) (Nat.le_refl _) ?_,rfl,q _ (I.hok.fresh (Nat.le_refl _))⟩;exact ⟨Nat.le_trans (zec xs lo hi) hz,_,0,(r.drop (HT.sIx xs.length 0 lo)).take (HT.sIx xs.length xs.length hi - HT.sIx xs.length 0 lo),Heap.get?_push_size _ rfl⟩
noncomputable def zew:V->Bool
 | .non=>true
 | .bl _=>true
 | .int _=>true
 | .str _=>true
 | _=>false
noncomputable def eqV:V->V->Bool
 | .non,.non=>true
 | .bl a,.bl b=>a == b
 | .bl a,.int b=>(if a then 1 else 0) == b
 | .int a,.bl b=>a == (if b then 1 else 0)
 | .int a,.int b=>a == b
 | .str a,.str b=>a == b
 | _,_=>false
theorem zxd {A:Around}{s:Shared}{y x:V}{u v:Value} (ry:RelV y u) (rx:RelV x v) (fy:zew y=true) (fx:zew x=true):SeqAt.EqAt A s u v (eqV y x):=by
  cases y with
  | non =>
    cases ry;cases x with
    | non=>cases rx;exact SeqAt.EqAt.same _
    | bl b=>cases rx;exact SeqAt.EqAt.none_bool b
    | int b=>obtain ⟨t,rfl⟩:=rx;exact SeqAt.EqAt.none_int b t
    | str b=>obtain ⟨t,rfl⟩:=rx;exact SeqAt.EqAt.none_str b t
    | _=>exact absurd (show false=true from fx) Bool.false_ne_true
  | bl a =>
    cases ry;cases x with
    | non=>cases rx;exact SeqAt.EqAt.bool_none a
    | bl b=>cases rx;exact SeqAt.EqAt.bool_bool a b
    | int b=>obtain ⟨t,rfl⟩:=rx;exact SeqAt.EqAt.bool_int a b t
    | str b=>obtain ⟨t,rfl⟩:=rx;exact SeqAt.EqAt.bool_str a b t
    | _=>exact absurd (show false=true from fx) Bool.false_ne_true
  | int a =>
    obtain ⟨t',rfl⟩:=ry;cases x with
    | non=>cases rx;exact SeqAt.EqAt.int_none a t'
    | bl b=>cases rx;exact SeqAt.EqAt.int_bool a t' b
    | int b=>obtain ⟨t,rfl⟩:=rx;exact SeqAt.EqAt.int_int a t' b t
    | str b=>obtain ⟨t,rfl⟩:=rx;exact SeqAt.EqAt.int_str a t' b t
    | _=>exact absurd (show false=true from fx) Bool.false_ne_true
  | str a =>
    obtain ⟨t',rfl⟩:=ry;cases x with
    | non=>cases rx;exact SeqAt.EqAt.str_none a t'
    | bl b=>cases rx;exact SeqAt.EqAt.str_bool a t' b
    | int b=>obtain ⟨t,rfl⟩:=rx;exact SeqAt.EqAt.str_int a t' b t
    | str b=>obtain ⟨t,rfl⟩:=rx;exact SeqAt.EqAt.str_str a t' b t
    | _=>exact absurd (show false=true from fx) Bool.false_ne_true
  | _=>exact absurd (show false=true from fy) Bool.false_ne_true
noncomputable def eqU (x:V) (u:Value):Bool:=match u with
 | .none=>eqV .non x
 | .bool b=>eqV (.bl b) x
 | .int i _=>eqV (.int i) x
 | .str z _=>eqV (.str z) x
 | _=>false
theorem zrk {x y:V}{u:Value} (r:RelV y u) (f:zew y=true):eqU x u=eqV y x:=by
 cases y with
 | non=>cases r;rfl
 | bl b=>cases r;rfl
 | int i=>obtain ⟨t,rfl⟩:=r;rfl
 | str z=>obtain ⟨t,rfl⟩:=r;rfl
 | _=>exact absurd (show false=true from f) Bool.false_ne_true
theorem zet {x:V}:∀{xs:List V}{us:List Value},Vals xs us->xs.all zew=true->us.any (eqU x)=xs.any fun y=>eqV y x
  | _,_,.nil,_=>rfl
  | y::xs,u::us,.cons r t,f=>by
    rw [List.all_cons,Bool.and_eq_true] at f;rw [List.any_cons,List.any_cons,zrk r f.1,zet t f.2]
theorem zcy {A:Around}{s:Shared}{x:V}{v:Value} (rx:RelV x v) (fx:zew x=true):∀{xs:List V}{us:List Value},Vals xs us->xs.all zew=true->∀u∈us,SeqAt.EqAt A s u v (eqU x u)
  | _,_,.nil,_=>fun u hu=>by cases hu
  | y::xs,u::us,.cons r t,f=>fun u' hu=>by
    rw [List.all_cons,Bool.and_eq_true] at f;rcases List.mem_cons.mp hu with rfl | hu
    · rw [zrk r f.1];exact zxd r rx f.1 fx
    · exact zcy rx fx t f.2 u' hu
noncomputable def inV (x:V) (xs:List V):Bool:=xs.any fun y=>eqV y x
noncomputable def rIn (K:PySem.W.Frag) (neg:Bool):R2:=fun x y H Q=>∃p xs,y=.ref p/\(SqL K H p xs\/SqT K H p xs)/\zew x=true/\xs.all zew=true/\Q (.bl (if neg then !inV x xs else inV x xs)) H
theorem zgf:OpR X (compareOp .In) (rIn X.K false):=by
 intro pins s σ H x y v u Q I rx ry h;obtain ⟨p,xs,rfl,hq,fx,fs,q⟩:=h;cases ry;rcases hq with hq | hq
 ·obtain ⟨its, r, pl, hz⟩ := I.list hq;refine SeqAt.in_listAt (eqU x) pl.isList (fun w hw=>zcy rx fx r fs w (by simpa using hw)) ⟨.bl _,H,I,rfl,?_⟩;rw [show its.toArray.any (eqU x)=its.any (eqU x) by simp,zet r fs];exact q
 ·obtain ⟨its, r, pl, hz⟩ := I.tuple hq;refine SeqAt.in_tupleAt (eqU x) pl (fun w hw=>zcy rx fx r fs w (by simpa using hw)) ⟨.bl _,H,I,rfl,?_⟩;rw [show its.toArray.any (eqU x)=its.any (eqU x) by simp,zet r fs];exact q
theorem zdh:OpR X (compareOp .NotIn) (rIn X.K true):=by
 intro pins s σ H x y v u Q I rx ry h;obtain ⟨p,xs,rfl,hq,fx,fs,q⟩:=h;cases ry;rcases hq with hq | hq
 ·obtain ⟨its, r, pl, hz⟩ := I.list hq;refine SeqAt.notIn_listAt (eqU x) pl.isList (fun w hw=>zcy rx fx r fs w (by simpa using hw)) ⟨.bl _,H,I,rfl,?_⟩;rw [show its.toArray.any (eqU x)=its.any (eqU x) by simp,zet r fs];exact q
 ·obtain ⟨its, r, pl, hz⟩ := I.tuple hq;refine SeqAt.notIn_tupleAt (eqU x) pl (fun w hw=>zcy rx fx r fs w (by simpa using hw)) ⟨.bl _,H,I,rfl,?_⟩;rw [show its.toArray.any (eqU x)=its.any (eqU x) by simp,zet r fs];exact q
theorem zdj:zbc X (.builtin "len") (fun xs H Q=>∃p ys,xs=[.ref p]/\(SqL X.K H p ys\/SqT X.K H p ys)/\Q (.int ys.length) H):=by
 intro pins s σ H xs us Q I r h;obtain ⟨p,ys,rfl,hq,q⟩:=h;obtain ⟨u,rfl,rx⟩:=vals1 r;cases rx;have hn:=ze3;rcases hq with hq | hq
 ·obtain ⟨its, r', pl, hz⟩ := I.list hq;have hlen:=r'.length;exact Calls.call_len_list pl.isList (by simp only [List.size_toArray]<;>omega) ⟨.int ys.length,H,I.tok _,⟨s.toks+1,by rw [List.size_toArray,hlen]⟩,q⟩
 ·obtain ⟨its, r', pl, hz⟩ := I.tuple hq;have hlen:=r'.length;exact len_tuple pl (by simp only [List.size_toArray]<;>omega) ⟨.int ys.length,H,I.tok _,⟨s.toks+1,by rw [List.size_toArray,hlen]⟩,q⟩
theorem zgz:zbc X (.builtin "len") (fun xs H Q=>∃z,xs=[.str z]/\z.length<=sizeLine/\Q (.int z.length) H):=by
 intro pins s σ H xs us Q I r h;obtain ⟨z,rfl,hz,q⟩:=h;obtain ⟨u,rfl,t,rfl⟩:=vals1 r;have hn:=ze3;exact len_str (by omega) ⟨.int z.length,H,I.tok _,⟨_,rfl⟩,q⟩
theorem zbc.or {f:Value}{r r' : List V->Hp->VK->Prop} (h:zbc X f r) (h' : zbc X f r'):zbc X f (fun xs H Q=>r xs H Q\/r' xs H Q):=by
 intro pins s σ H xs us Q I rs q;rcases q with q | q
 ·exact h pins s σ H xs us Q I rs q
 ·exact h' pins s σ H xs us Q I rs q
theorem zfd:zbc X (.type "tuple") (fun xs H Q=>∃p ys,xs=[.ref p]/\((SqL X.K H p ys/\∀l,H l=none->Q (.ref l) (upd H l (.tup ys)))\/(SqT X.K H p ys/\Q (.ref p) H))):=by
 intro pins s σ H xs us Q I r h;obtain ⟨p,ys,rfl,h⟩:=h;obtain ⟨u,rfl,rx⟩:=vals1 r;cases rx;rcases h with ⟨hq,q⟩ | ⟨hq,q⟩
 ·obtain ⟨its, r', pl, hz⟩ := I.list hq;have hlen:=r'.length;refine call_tuple_list pl.isList (fun h' kp=>?_) (by simp only [List.size_toArray]<;>omega);have I1:Inv X pins σ H { s with heap:=h' }:=I.kept (t':=s.toks) kp;have I2:Inv X pins σ (upd H h'.objs.size (.tup ys)) { s with heap:=h'.push { cls:=.type "tuple",data:=.seq its.toArray } } :=
   I1.laid (t':=s.toks) (fun b o e=>Heap.get?_push_of_some _ e) (Nat.le_refl _) (show zbn X.prog X.w _ _ _ (.tup ys) from ⟨hz,its,r',IsTup.new _ _⟩)
  exact ⟨.ref h'.objs.size,_,I2,rfl,q _ (I1.hok.fresh (Nat.le_refl _))⟩
 ·obtain ⟨its, r', pl, hz⟩ := I.tuple hq;exact call_tuple_same pl ⟨.ref p,H,I,rfl,q⟩
noncomputable def tyV (K:PySem.W.Frag) (T:String) (x:V) (H:Hp):Prop:=match x with
 | .str _=>T = "str"
 | .int _=>T = "int"
 | .ref p=>(T = "list"/\∃xs,SqL K H p xs)\/(T = "tuple"/\∃o,K.lookup p=some o/\o.cls=.type "tuple"/\o.dict=none) \/
   (T = "dict"/\((∃kvs,H p=some (.dK kvs))\/∃kvs,H p=some (.dT kvs)))\/(T = "set"/\∃S n,H p=some (.set S n))
 | _=>False
theorem zx5 {pins:List (Addr × Obj)}{σ:St}{H:Hp}{s:Shared}{T:String}{x:V}{v:Value} (I:Inv X pins σ H s) (r:RelV x v) (ty:tyV X.K T x H) :
    s.TypeIs v T/\∀a,v=.ref a->∃ob,s.heap.get? a=some ob/\ob.dict=none:=by
  cases x with
  | str z =>
    obtain ⟨t,rfl⟩:=r;cases (show T = "str" from ty);exact ⟨typeIs_str s z t,fun _ e=>nomatch e⟩
  | int i =>
    obtain ⟨t,rfl⟩:=r;cases (show T = "int" from ty);exact ⟨typeIs_int s i t,fun _ e=>nomatch e⟩
  | ref p =>
    cases r;rcases ty with ⟨rfl,xs,hq⟩ | ⟨rfl,o,hk,hc,hd⟩ | ⟨rfl,hk⟩ | ⟨rfl,S,n,hk⟩
    · obtain ⟨its, _, pl, _⟩ := I.list hq
      refine ⟨pl.isList.typeIs,fun a e=>?_⟩;cases e;obtain ⟨o,n,e,c,hd,_⟩:=pl;exact ⟨o,e,hd⟩
    · refine ⟨⟨o, I.kIn p o hk, hc⟩, fun a e => ?_⟩
      cases e;exact ⟨o,I.kIn _ o hk,hd⟩
    · have z:∃o,s.heap.get? p=some o/\o.ExactDict:=by
        rcases hk with ⟨kvs,hk⟩ | ⟨kvs,hk⟩
        · obtain ⟨_, _, _, _, o, _, _, e, ex, _⟩ := I.hok p _ hk
          exact ⟨o,e,ex⟩
        · obtain ⟨_, _, _, _, o, _, _, e, ex, _⟩ := I.hok p _ hk
          exact ⟨o,e,ex⟩
      obtain ⟨o,e,ex⟩:=z;refine ⟨⟨o,e,ex.1⟩,fun a e2=>?_⟩;cases e2;exact ⟨o,e,ex.2.1⟩
    · obtain ⟨o, _, _, _, e, ex, _⟩ := I.hok p _ hk
      refine ⟨⟨o,e,ex.1⟩,fun a e2=>?_⟩;cases e2;exact ⟨o,e,ex.2.1⟩
  | _=>exact False.elim ty
noncomputable def tBM (K:PySem.W.Frag) (T:String) (r:V->List V->Hp->VK->Prop) (to:TE) (t:TA):TE:=fun σ H Q=>to σ H fun x H1=>tyV K T x H1/\t σ H1 fun xs H2=>r x xs H2 Q
variable {o e:Expr}{es:List Expr}{to:TE}{t:TA}{name:Str}{apos cpos:Pos}{T id:String}{r:V->List V->Hp->VK->Prop}
theorem zv4 (pa:PlainAttrs T) (slot:Slot T name id) (hty:typeOf (.builtin id)=pure (.type "method_descriptor")) (hm:MtR X id r) (ho:PE X o to) (ha:PA X (e::es) t)
  (hbase:attributeBase o name X.env (eval o X.env)=eval o X.env:=by rfl)
  (hfew:((backTo cpos (starEach (e::es) X.env)).all (fun x=>!x.1) && (backToKw cpos (keywordEach [] X.env)).all (fun x=>x.1.isSome)
   && decide ((e::es).length+([]:List Keyword).length+(if ([]:List Keyword).isEmpty then 0 else 1) < 30))=true:=by rfl)
  (hline:(apos.endLine == cpos.line)=true:=by rfl) (hs:starEach (e::es) X.env=(false,eval e X.env)::starEach es X.env:=by rfl) (hplain:(backTo cpos (starEach es X.env)).any (·.1)=false:=by rfl) :
  PE X (.Call (.Attribute o name apos) (e::es) [] cpos) (tBM X.K T r to t):=by
 intro pins s σ H Q I h;refine wpAny_Call_method_late hbase hfew hline rfl (thn (ho pins s σ H _ I h) fun v s1 ⟨x,H1,I1,r1,ty,q1⟩=>?_);obtain ⟨h1,h2⟩:=zx5 I1 r1 ty;refine ⟨T,id,pa,slot,hty,h1,h2,?_⟩;have hA:=ha cpos pins s1 σ H1 _ I1 q1;rw [hs] at hA ⊢;refine Calls.callWith_builtin (by show (false || (backTo cpos (starEach es X.env)).any (·.1))=false;rw [hplain]<;>rfl) (Calls.evalArgs_plain ?_);exact thn hA fun us s2 ⟨vs,H2,I2,r2,q2⟩=>hm pins s2 σ H2 x vs v us Q I2 r1 r2 q2
end
end L2
namespace L2
open PySem PySem.Spec PyProof.Rows
noncomputable def MtM (X:Cx) (id:String) (r:V->List V->Hp->VK->Prop):Prop :=
  ∀(pins:List (Addr × Obj)) (s:Shared) (σ:St) (H:Hp) (x:V) (xs:List V) (v:Value) (us:List Value) (Q:VK),Inv X pins σ H s->RelV x v->Vals xs us->r x xs H Q ->
    wpAny (model X.prog X.w) X.A (call (.builtin id) (v::us)) (EP X pins σ Q) X.xe s
theorem Vals.one:∀{x:V}{us:List Value},Vals [x] us->∃u,us=[u]/\RelV x u
 | _,_,.cons r .nil=>⟨_,rfl,r⟩
theorem Vals.rep {xs:List V}{us:List Value} (h:Vals xs us):∀k:Nat,Vals (List.replicate k xs).flatten (List.replicate k us).flatten
  | 0=>.nil
  | k+1=>by
    rw [List.replicate_succ,List.replicate_succ,List.flatten_cons,List.flatten_cons];exact Vals.append h (Vals.rep h k)
theorem zgt (its:List Value):∀(k:Nat) (acc:List Value),
    List.foldl (fun x1 x2=>x1++x2) acc.toArray (List.replicate k its.toArray)=(acc++(List.replicate k its).flatten).toArray
  | 0,acc=>by simp
  | k+1,acc=>by
    have e:acc.toArray++its.toArray=(acc++its).toArray:=by simp
    have e2:(acc++its)++(List.replicate k its).flatten=acc++(List.replicate (k+1) its).flatten:=by
      rw [List.replicate_succ,List.flatten_cons,List.append_assoc]
    rw [<-e2,<-zgt its k (acc++its),<-e,List.replicate_succ,List.foldl_cons]
section
variable {X:Cx}{pins:List (Addr × Obj)}{σ:St}{H:Hp}{s:Shared}{l b:Addr}{xs ys zs:List V}
theorem Inv.lset {its its' : List Value}{n:Nat}{f:Array Value->Array Value}{t' : Nat} (I:Inv X pins σ H s) (hH:H l=some (.lst xs))
  (e:s.heap.get? l=some { cls:=.type "list",data:=.seq its.toArray n }) (hf:f its.toArray=its'.toArray) (hv:Vals ys its') (hz:ys.length<=sizeLine) :
  Inv X pins σ (upd H l (.lst ys)) { s with heap:=s.heap.update l (Obj.mapSeq f),toks:=t' }:=by
 have q:=PySem.IsL.update e f;rw [hf] at q;refine I.write (x:=l) (e:=l) (by rw [hH];exact trivial) (.inl rfl) (fun b' u hb hu=>(Heap.get?_update_other s.heap (Obj.mapSeq f) (Ne.symm hb)).trans hu) ⟨_,q⟩ ?_;exact ⟨hz,its',_,hv,q⟩
theorem Inv.lnew {its:List Value}{t' : Nat} (I:Inv X pins σ H s) (hv:Vals ys its) (hz:ys.length<=sizeLine) :
  Inv X pins σ (upd H s.heap.objs.size (.lst ys)) { s with heap:=s.heap.push { cls:=.type "list",data:=.seq its.toArray },toks:=t' } :=
 I.laid (fun _ _ q=>Heap.get?_push_of_some _ q) (Nat.le_refl _) ⟨hz,its,0,hv,Heap.get?_push_size _ rfl⟩
theorem Inv.fresh (I:Inv X pins σ H s):H s.heap.objs.size=none:=I.hok.fresh (Nat.le_refl _)
theorem Inv.lstM (I:Inv X pins σ H s) (hH:H l=some (.lst xs)):xs.length<=sizeLine/\∃(its:List Value) (n:Nat),Vals xs its/\xs.length=its.length/\s.heap.get? l=some { cls:=.type "list",data:=.seq its.toArray n }:=by
 refine aG fun _ qG=>?_;obtain ⟨z,its,n,r,e⟩:=I.hok l _ hH;refine qG ?_;clear qG;exact ⟨z,its,n,r,r.length,e⟩
theorem zjz {n:Nat} (h:n<=sizeLine):Builtin.List.listTooLong n=false:=by
 unfold Builtin.List.listTooLong;exact decide_eq_false (by omega)
end
section
variable {X:Cx}
noncomputable def zmv:V->List V->Hp->VK->Prop:=fun x vs H Q=>∃l xs y,x=.ref l/\vs=[y]/\H l=some (.lst xs)/\xs.length < sizeLine/\Q .non (upd H l (.lst (xs++[y])))
theorem zf8:MtM X "list.append" zmv:=by
 intro pins s σ H x vs v us Q I rx rv h;obtain ⟨l,xs,y,rfl,rfl,hH,hz,q⟩:=h;cases rx;obtain ⟨u,rfl,ru⟩:=rv.one;obtain ⟨z,its,n,r,hl,e⟩:=I.lstM hH;refine call_meets F.slot_list_append ⟨_,e,rfl⟩ F.entry_list_append (F.args_list_append_2 _ _) (PySem.list_append l its.toArray n u (by rw [List.size_toArray];omega)) ⟨e,?_⟩;refine ⟨.non,_,I.lset (its':=its++[u]) hH e (by simp) (r.append (.cons ru .nil)) ?_,rfl,q⟩;rw [List.length_append,List.length_singleton];omega
noncomputable def zso:V->List V->Hp->VK->Prop:=fun x vs H Q=>∃l b xs zs,x=.ref l/\vs=[.ref b]/\H l=some (.lst xs)/\H b=some (.lst zs)/\xs.length+zs.length<=sizeLine/\Q .non (upd H l (.lst (xs++zs)))
theorem zx8:MtM X "list.extend" zso:=by
 intro pins s σ H x vs v us Q I rx rv h;refine aG fun _ qG=>?_;obtain ⟨l,b,xs,zs,rfl,rfl,hH,hB,hz,q⟩:=h;refine qG ?_;clear qG;cases rx;obtain ⟨u,rfl,ru⟩:=rv.one;cases ru;refine aG fun _ qG=>?_;obtain ⟨z,its,n,r,hl,e⟩:=I.lstM hH;obtain ⟨z2,its2,n2,r2,hl2,e2⟩:=I.lstM hB;refine qG ?_;clear qG;have hsz:its.toArray.size+its2.toArray.size<=sizeLine:=by rw [List.size_toArray,List.size_toArray];omega
 have hlong:¬ (!its.toArray.isEmpty && Builtin.List.listTooLong (its.toArray.size+its2.toArray.size))=true:=by
  rw [zjz hsz,Bool.and_false];exact Bool.false_ne_true
 refine call_meets F.slot_list_extend ⟨_,e,rfl⟩ F.entry_list_extend (F.args_list_extend_2 _ _)
  (AutoSeq1.list_extend_list_list_0 l its.toArray n b its2.toArray n2 hlong (by rw [List.size_toArray];omega) (by omega)) ⟨e,e2,?_⟩
 refine ⟨.non,_,I.lset (its':=its++its2) hH e (by simp) (r.append r2) ?_,rfl,q⟩;rw [List.length_append];omega
noncomputable def rCat:R2:=fun x y H Q=>∃l b xs zs,x=.ref l/\y=.ref b/\H l=some (.lst xs)/\H b=some (.lst zs)/\xs.length+zs.length<=sizeLine/\∀p,H p=none->Q (.ref p) (upd H p (.lst (xs++zs)))
theorem zx1:OpR X (binaryOp .Add) rCat:=by
 intro pins s σ H x y v u Q I rx ry h;refine aG fun _ qG=>?_;obtain ⟨l,b,xs,zs,rfl,rfl,hH,hB,hz,q⟩:=h;refine qG ?_;clear qG;cases rx;cases ry;refine aG fun _ qG=>?_;obtain ⟨z,its,n,r,hl,e⟩:=I.lstM hH;obtain ⟨z2,its2,n2,r2,hl2,e2⟩:=I.lstM hB;refine qG ?_;clear qG;refine PySem.P.add_list e e2 ?_ (by rw [List.size_toArray,List.size_toArray];omega);have ea:its.toArray++its2.toArray=(its++its2).toArray:=by simp
 rw [ea];exact ⟨.ref _,_,I.lnew (t':=s.toks) (r.append r2) (by rw [List.length_append];omega),rfl,q _ I.fresh⟩
noncomputable def rRep:R2:=fun x y H Q=>∃l k xs,x=.ref l/\y=.int k/\H l=some (.lst xs)/\-(2 ^ 63)<=k/\k < 2 ^ 63/\xs.length * k.toNat<=sizeLine /\
 ∀p,H p=none->Q (.ref p) (upd H p (.lst (List.replicate k.toNat xs).flatten))
theorem zu1 {α:Type} (xs:List α) (k:Nat):(List.replicate k xs).flatten.length=k * xs.length:=by
 induction k with
 | zero=>simp
 | succ k ih=>rw [List.replicate_succ,List.flatten_cons,List.length_append,ih,Nat.succ_mul,Nat.add_comm]
theorem zwr:OpR X (binaryOp .Mult) rRep:=by
 intro pins s σ H x y v u Q I rx ry h;refine aG fun _ qG=>?_;obtain ⟨l,k,xs,rfl,rfl,hH,h1,h2,hz,q⟩:=h;refine qG ?_;clear qG;cases rx;refine aG fun _ qG=>?_;obtain ⟨t,rfl⟩:=ry;obtain ⟨z,its,n,r,hl,e⟩:=I.lstM hH;refine qG ?_;clear qG;have hlen:its.toArray.size * k.toNat<=sizeLine:=by rw [List.size_toArray,<-hl];exact hz
 have hcap:¬ its.toArray.size * k.toNat > (2 ^ 63 - 1) / 8:=by
  have:(sizeLine:Nat)<=(2 ^ 63 - 1) / 8:=by decide
  omega
 have hfit:¬ (!Builtin.List.listFitsIndex k)=true:=by
  rw [fitsIndex_both h1 h2];exact Bool.false_ne_true
 have hlong:¬ Builtin.List.listTooLong (its.toArray.size * k.toNat)=true:=by
  rw [zjz hlen];exact Bool.false_ne_true
 have hnew:List.foldl (fun x1 x2=>x1++x2) #[] (List.replicate (if its.toArray.isEmpty=true then 0 else k.toNat) its.toArray)=(List.replicate k.toNat its).flatten.toArray:=by
  have f0:∀m:Nat,List.foldl (fun x1 x2=>x1++x2) #[] (List.replicate m its.toArray)=(List.replicate m its).flatten.toArray:=fun m=>by
   have:=zgt its m [];rw [List.nil_append] at this;exact this
  rw [f0];cases its with
  | nil=>simp
  | cons a r'=>rw [if_neg (by simp)]
 refine wpAny_binaryOp_repeat_ref (T := "list") (U := "int") (by decide) ⟨_,e,rfl⟩ (fun s'=>typeIs_int s' k t) noFill_list_mul F.fills_int_mul F.slot_int_rmul repeat_list F.slot_int_index.lookup
  (call_meets F.slot_int_rmul (typeIs_int s k t) F.entry_int_rmul (F.args_int_rmul_2 _ _) (int___rmul___int_list k t l its.toArray n)
   ⟨e,rfl,⟨_,e,rfl⟩,call_meets F.slot_list_mul ⟨_,e,rfl⟩ F.entry_list_mul (F.args_list_mul_2 _ _) (AutoListH.list___mul___list_int_3 l its.toArray n k t hfit hcap hlong) ⟨e,?_⟩⟩)
 rw [hnew];exact ⟨.ref _,_,I.lnew (t':=s.toks) (r.rep k.toNat) (by rw [zu1,Nat.mul_comm];exact hz),rfl,q _ I.fresh⟩
end
section
variable {prog:Program}{w:World}{A:Around}{E:Value->Shared->Prop}{s:Shared}
end
section
variable {X:Cx}
end
end L2
namespace Att
open PySem PySem.W PySem.Calls PyProof.Rows
theorem zel {P:Params}{h:Heap}:∀(ns:List Int) (vs:List Value),WellAll P h vs (ns.map WData.int)->IntsAre vs ns:=by
  intro ns
  induction ns with
  | nil =>
    intro vs w;rw [List.map_nil] at w;cases w;exact .nil
  | cons n ns ih =>
    intro vs w;rw [List.map_cons] at w;cases w with
    | cons a b =>
      cases a;exact .cons _ _ (ih _ b)
theorem zot {l:OpenLaw}{n:Nat} (hn:l.most=some n) {P:Params}{h:Heap}{args:List WData}{vals:List Value}
    (hpre:l.row.toRowW.claim.pre args=true) (hwl:WellAll P h vals args) :
    ∃a vs ns,vals=[Value.ref a]/\args=[WData.list (ns.map WData.int)]/\h.get? a=some { cls:=.type "list",data:=.seq vs.toArray }/\IntsAre vs ns/\ns.length<=n:=by
  have hsh:WShape.hasAll [] args [.list .int]=true:=(pre_splitW hpre).1;have hc:l.pre.holds [] { args:=args }=true:=(pre_splitW hpre).2;obtain ⟨d,r,rfl,h1,h2⟩:=hasAllW_cons hsh;obtain rfl:=hasAllW_nil h2;obtain ⟨xs,rfl,h3⟩:=hasW_list h1;obtain ⟨ns,rfl⟩:=items_int h3;have hlen:ns.length<=n:=by
    unfold OpenLaw.pre at hc;have h4:(WTm.not (.lt (.lit (.int (n:Int))) (.len (.arg 0)))).holds [] { args:=[.list (ns.map .int)] }=true:=by
      have h4:=(holds_andW hc).1;rw [hn] at h4;exact h4
    have h5:=condW_of h4 (w_not (w_lt w_lit (w_len_list (w_arg rfl))));rw [List.length_map] at h5;refine Nat.le_of_not_lt fun q=>?_;have q' : (n:Int) < ((ns.length:Nat):Int):=by omega
    first
      | (rw [decide_eq_true q'] at h5;exact absurd h5 (by decide))
      | (simp at h5;omega)
  cases hwl with
  | cons w1 w2 =>
    cases w2;cases w1 with
    | list ho hall=>exact ⟨_,_,ns,rfl,rfl,ho,zel ns _ hall,hlen⟩
theorem zn4 (l:OpenLaw) (args:List WData):l.row.toRowW.claim.post args (.bool true) args=true :=
 postW_of (r:=l.row.toRowW) (X:=(true == true))
  (show WShape.has [] (.bool true) .bool=true by first | rfl | decide | simp [WShape.has,WShape.arms,WShape.armsAll])
  (show (WTm.eq .res (.lit (.bool true))).value [] { args:=args,res:=some (.bool true),after:=args }=some (.bool (true == true)) from w_eq_bool (w_res rfl) w_lit) rfl
theorem attach_call {l:OpenLaw}{n:Nat}{q:Program}{loose:List Str}{XP:(Str->Option Value)->Heap->Prop}{YP:World->Heap->Prop}{d:DefRec}
  (hn:l.most=some n) (hdf:d.params.defaults=[])
  (call:∀(w:World) (s₀ s₁:Shared) (mg mb:Str->Option Value) (fa:Addr) (o:Obj) (pm cd doc:Value) (a:Addr) (vs:List Value) (ns:List Int),
   Ground q loose [] XP w s₀ mg mb s₁.heap->YP w s₁.heap ->
   s₁.heap.get? fa=some o->o.data=.func (docDef d.name d.params d.body d.scope pm cd doc)->s₁.heap.CodeRec cd d.name->mg d.name=some (.ref fa) ->
   s₁.heap.get? a=some { cls:=.type "list",data:=.seq vs.toArray }->IntsAre vs ns->ns.length<=n->s₁.gens=#[] ->
   codeAny (model l.prog w) callerA (.call (.ref fa) ⟨[.ref a],[]⟩) (fun r s'=>r=.ok (.ret (.bool true))/\OldK s₁.heap s'.heap/\s'.os=s₁.os/\AllBare s'.gens) s₁) :
  WalkO q loose XP YP l.row.toRowW d [] (fun f vs=>PySem.call f vs):=by
 intro w s₀ s₁ mg mb G Y fa o pm cd doc dV kV ho hd hcd hD hmg hg args vals as hpre hlay hrd hwl hlo;obtain rfl:dV=.none:=Dflts.none hD hdf;obtain rfl:kV=.none:=Dflts.noKw hD;obtain ⟨a,vs,ns,rfl,rfl,hobj,hints,hlen⟩:=zot hn hpre hwl;refine enter_call (codeAny_mono (call w s₀ s₁ mg mb fa o pm cd doc a vs ns G Y ho (fd_plain hd) hcd hmg hobj hints hlen hg) fun r s' hq=>?_);obtain ⟨rfl,h2,h3,h4⟩:=hq;exact ⟨.inl ⟨.bool true,.bool true,[],rfl,fun _=>rfl,.bool true,zn4 l _,fun _=>⟨List.Pairwise.nil,fun _ hm=>(nomatch hm)⟩⟩,h2,h3,h4⟩
section
variable {prog:Program}{w:World}{A:Around}{E:Value->Shared->Prop}{s:Shared}{K:Frag}
end
end Att
namespace L2
open PySem PySem.Spec PyProof.Rows
theorem zhu:∀{vs:List Value}{ns:List Int},IntsAre vs ns->Vals (ns.map V.int) vs
 | _,_,.nil=>.nil
 | _,_,.cons n t h=>.cons ⟨t,rfl⟩ (zhu h)
end L2
namespace L2
open PySem PySem.Spec PyProof.Rows
end L2
namespace L2
open PySem PySem.Spec PyProof.Rows
noncomputable def zda (s:Stmt):Arguments:=match s with
 | .FunctionDef _ a _ _ _ _ _ _ _ _=>a
 | _=>{ posonlyargs:=[],args:=[],vararg:=none,kwonlyargs:=[],kw_defaults:=[],kwarg:=none,defaults:=[] }
noncomputable def zcf (s:Stmt):List Stmt:=match s with
 | .FunctionDef _ _ b _ _ _ _ _ _ _=>b
 | _=>[]
noncomputable def zai (s:Stmt):Scope:=match s with
 | .FunctionDef _ _ _ _ _ _ sc _ _ _=>sc
 | _=>{ kind:=.function,names:=[],isGenerator:=false,isCoroutine:=false }
noncomputable abbrev CX0:CXT:=fun _ _ _ _ _ _=>False
noncomputable abbrev E0:XK:=fun _ _ _=>False
theorem zzd {X:Cx}:znc CX0 X E0:=fun _ _ _ _ _ _ _ h=>h.elim
structure Fun (K:PySem.W.Frag) (x qual:Str) (st:Stmt) (f:Addr) (fd:FuncData):Prop where
 ex:∃(oc:Value) (od:Option Addr) (kV doc pm:Value) (an:Option Addr) (cdv ct:Value) (osl:Array (Option Value)),
  fd=PySem.W.fnOf x qual (zda st) (zcf st) (zai st) .none kV doc pm an cdv ct/\K.lookup f=some ⟨oc,od,.func fd,osl⟩/\PySem.W.codeIn K cdv qual=true
 kp:PySem.W.keepIn K (.ref f)=true
section
variable {P:Program}{w:World}{K:PySem.W.Frag}{mg:Str->Option Value}{base:Heap}
theorem Fun.binds {x qual:Str}{st:Stmt}{f:Addr}{fd:FuncData}{ps:List Str} (F:Fun K x qual st f fd)
  (h:∀(kV doc pm:Value) (an:Option Addr) (cdv ct:Value) (us:List Value),us.length=ps.length->bindArgs (PySem.W.fnOf x qual (zda st) (zcf st) (zai st) .none kV doc pm an cdv ct) ⟨us,[]⟩=pure (ps.zip us)):zil K fd ps []:=by
 obtain ⟨oc,od,kV,doc,pm,an,cdv,ct,osl,rfl,lk,hcd⟩:=F.ex;exact .all (h kV doc pm an cdv ct)
theorem zrt {x qual:Str}{st:Stmt}{f:Addr}{oc:Value}{od an:Option Addr}{osl:Array (Option Value)}{kV doc pm cdv ct:Value} (l:K.lookup f=some ⟨oc,od,.func (PySem.W.fnOf x qual (zda st) (zcf st) (zai st) .none kV doc pm an cdv ct),osl⟩)
  (c:PySem.W.codeIn K cdv qual=true) (k:PySem.W.keepIn K (.ref f)=true):Fun K x qual st f (PySem.W.fnOf x qual (zda st) (zcf st) (zai st) .none kV doc pm an cdv ct):=⟨⟨oc,od,kV,doc,pm,an,cdv,ct,osl,rfl,l,c⟩,k⟩
end
section
variable {X:Cx}
end
theorem iteF {A B:Prop} (h:B):if false=true then A else B:=by
 rw [if_neg Bool.false_ne_true];exact h
theorem iteT {A B:Prop} (h:A):if true=true then A else B:=by
 rw [if_pos rfl];exact h
noncomputable def Same (H H' : Hp):Prop:=∀b o,H b=some o->H' b=some o
theorem Same.refl (H:Hp):Same H H:=fun _ _ h=>h
theorem Same.trans {H H1 H2:Hp} (a:Same H H1) (b:Same H1 H2):Same H H2:=fun c o h=>b c o (a c o h)
theorem Same.free {H H' : Hp} (e:Same H H') {l:Addr} (h:H' l=Option.none):H l=Option.none:=by
  cases q:H l with
  | none=>rfl
  | some o =>
    rw [e l o q] at h;cases h
theorem Same.seq {K:PySem.W.Frag}{H H' : Hp}{a:Addr}{xs:List V} (e:Same H H') (h:SqL K H a xs):SqL K H' a xs:=by
 rcases h with (h | ⟨o,h⟩) | h
 ·exact .inl (.inl (e _ _ h))
 ·exact .inl (.inr ⟨o,e _ _ h⟩)
 ·exact .inr h
end L2
namespace L2
open PySem PySem.Spec PyProof.Rows
noncomputable def capSt (cap:List (Option Nat)) (σ:St):St:=cap.map fun o=>match o with
 | some i=>(σ[i]?).getD none
 | none=>none
noncomputable def ze0 (cap:List (Option Nat)) (Nc N:List Str) (scope:Scope):Bool :=
 decide (cap.length=Nc.length) && (cap.zip Nc).all fun p=>match p.1 with
  | some i=>decide (N[i]?=some p.2) && decide (scope.names.lookup p.2=some NameKind.free)
  | none=>true
theorem znv {cap Nc N scope} (h:ze0 cap Nc N scope=true):cap.length=Nc.length:=by
 unfold ze0 at h;rw [Bool.and_eq_true] at h;exact of_decide_eq_true h.1
theorem zom {cap:List (Option Nat)}{Nc N:List Str}{scope:Scope} (h:ze0 cap Nc N scope=true) {j i:Nat}{x:Str} (h1:cap[j]?=some (some i)) (h2:Nc[j]?=some x):N[i]?=some x/\scope.names.lookup x=some .free:=by
 unfold ze0 at h;rw [Bool.and_eq_true] at h;have hm:(some i,x)∈cap.zip Nc:=by
  refine List.mem_of_getElem? (i:=j) ?_;rw [List.getElem?_zip_eq_some];exact ⟨h1,h2⟩
 have q:=List.all_eq_true.mp h.2 _ hm;simp only [Bool.and_eq_true,decide_eq_true_eq] at q;exact q
noncomputable def zeg (scope:Scope) (out:Scope):Bool:=scope.names.all fun p=>!(p.2 == NameKind.free) || decide (out.names.lookup p.1=some .cell) || decide (out.names.lookup p.1=some .free)
theorem zdf {env:Env}:∀(names:List (Str × NameKind)) (acc:List (Str × Addr)),(∀x,(x,NameKind.free)∈names->∃c,env.cells.lookup x=some c)->(∀x c,acc.lookup x=some c->env.cells.lookup x=some c) ->
    ∃cl,(forIn names acc fun (p:Str × NameKind) cs=>if p.2 == NameKind.free then do let c <- cellOf env p.1;pure (ForInStep.yield ((p.1,c)::cs)) else pure (ForInStep.yield cs):Sem (List (Str × Addr)))=pure cl /\
      (∀x c,cl.lookup x=some c->env.cells.lookup x=some c)/\(∀x,(x,NameKind.free)∈names\/(∃c,acc.lookup x=some c)->∃c,cl.lookup x=some c)
  | [],acc,_,h2=>⟨acc,by rw [List.forIn_nil],h2,fun x hx=>by
      rcases hx with hx | hx
      · cases hx
      · exact hx⟩
  | (n,k)::r,acc,h1,h2=>by
    rw [List.forIn_cons];by_cases hk:(k == NameKind.free)=true
    · have ek : k = .free := by simpa using hk
      subst ek;obtain ⟨c,hc⟩:=h1 n List.mem_cons_self;have h2' : ∀x d,((n,c)::acc).lookup x=some d->env.cells.lookup x=some d:=fun x d hx=>by
        rw [List.lookup_cons] at hx;cases e:x == n with
        | true => rw [e] at hx; obtain rfl := sI hx; have : x = n := by simpa using e
                  rw [this];exact hc
        | false=>rw [e] at hx;exact h2 x d hx
      obtain ⟨cl,e,a,b⟩:=zdf r ((n,c)::acc) (fun x hx=>h1 x (List.mem_cons_of_mem _ hx)) h2';refine ⟨cl,?_,a,fun x hx=>b x ?_⟩
      · rw [<- e]
        have hcell:cellOf env n=pure c:=by unfold cellOf;rw [hc]
        simp only [beq_self_eq_true,if_true,hcell]
        rfl
      · have gen:∀y d,acc.lookup y=some d->∃d',((n,c)::acc).lookup y=some d':=fun y d hy=>by
          rw [List.lookup_cons];cases e:y == n with
          | true=>exact ⟨_,rfl⟩
          | false=>exact ⟨d,hy⟩
        rcases hx with hx | ⟨d,hx⟩
        · rcases List.mem_cons.mp hx with hx | hx
          · injection hx with hx _
            subst hx;exact .inr ⟨c,by rw [List.lookup_cons];simp⟩
          · exact .inl hx
        · exact .inr (gen x d hx)
    · have hk' : (k == NameKind.free) = false := by simpa using hk
      obtain ⟨cl,e,a,b⟩:=zdf r acc (fun x hx=>h1 x (List.mem_cons_of_mem _ hx)) h2;refine ⟨cl,?_,a,fun x hx=>b x ?_⟩
      · rw [<- e]
        simp only [hk',Bool.false_eq_true,if_false]
        rfl
      · rcases hx with hx | hx
        · rcases List.mem_cons.mp hx with hx | hx
          · injection hx with _ hx
            subst hx;simp at hk'
          · exact .inl hx
        · exact .inr hx
theorem zcc {env:Env}{scope:Scope} (h:∀x,(x,NameKind.free)∈scope.names->∃c,env.cells.lookup x=some c) :
  ∃cl,closureFor scope env=pure cl/\(∀x c,cl.lookup x=some c->env.cells.lookup x=some c)/\(∀x,(x,NameKind.free)∈scope.names->∃c,cl.lookup x=some c):=by
 refine aG fun _ qG=>?_;obtain ⟨cl,e,a,b⟩:=zdf (env:=env) scope.names [] h (fun x c hx=>by simp at hx);refine qG ?_;clear qG;refine ⟨cl,?_,a,fun x hx=>b x (.inl hx)⟩;rw [closureFor];have e':=e;simp only [bind_assoc,pure_bind] at e' ⊢;exact congrArg (fun m=>m >>= fun r=>pure r) e |>.trans (by rw [pure_bind])
end L2
namespace L2
open PySem PySem.Spec PyProof.Rows
noncomputable def zas (X:Cx) (Nc:List Str) (scope:Scope) (cl:List (Str × Addr)) (C:Addr) (s3:Shared) (H3:Hp) (fp:List Addr):Cx where
 prog:=X.prog
 w:=X.w
 K:=X.K
 mg:=X.mg
 base:=X.base
 A:=X.A
 N:=Nc
 s₀:=s3
 H₀:=H3
 env:=compEnvC scope cl C X.env
 outer:=X.stack
 stack:=X.stack
 ex:=fp
 fn:=fun x=>decide (scope.names.lookup x=some NameKind.cell)
 calm:=X.calm
 pn:=[]
 xe:=fun _ _=>False
noncomputable def zr4:TT:=fun σ H Q=>Q true H
noncomputable def PTs (X:Cx) (ifs:List Expr) (t:TT):Prop :=
  ∀(pins:List (Addr × Obj)) (s:Shared) (σ:St) (H:Hp) (Q:Bool->Hp->Prop),Inv X pins σ H s->t σ H Q ->
    wpAny (model X.prog X.w) X.A (forIn ifs true fun c r=>if r=true then do let ok <- isTrue c X.env (eval c X.env);pure (ForInStep.yield ok) else pure (ForInStep.yield r)) (TP X pins σ Q) X.xe s
theorem zui {X:Cx}:PTs X [] zr4:=fun pins s σ H Q I h=>by
 rw [List.forIn_nil];exact wpAny_pure ⟨H,I,h⟩
theorem ztu {X:Cx}{c:Expr}{t:TT} (h:PT X c t):PTs X [c] t:=fun pins s σ H Q I q=>by
 rw [List.forIn_cons];simp only [if_true];refine wpAny_bind (wpAny_bind (thn (h pins s σ H Q I q) fun b s1 q1=>?_));refine wpAny_pure ?_;dsimp only;rw [List.forIn_nil];exact wpAny_pure q1
section
variable {X:Cx}
theorem zaq {env:Env}:∀{names:List (Str × NameKind)}{x:Str},names.lookup x=some .free ->
    (names.map fun (n,k)=>if (k == NameKind.free && env.scope.kind == .function && env.kindOf n == some .cell) then (n,NameKind.cell) else (n,k)).lookup x=some .cell \/
    (names.map fun (n,k)=>if (k == NameKind.free && env.scope.kind == .function && env.kindOf n == some .cell) then (n,NameKind.cell) else (n,k)).lookup x=some .free
  | [],_,h=>by simp at h
  | (n,k)::r,x,h=>by
    have ih:=@zaq env r x;rw [List.map_cons];rw [List.lookup_cons] at h;cases hx:x == n with
    | true =>
      rw [hx] at h;obtain rfl:=sI h;dsimp only;split
      · rw [List.lookup_cons,hx];exact .inl rfl
      · rw [List.lookup_cons,hx];exact .inr rfl
    | false =>
      rw [hx] at h;dsimp only;split
      · rw [List.lookup_cons,hx];exact ih h
      · rw [List.lookup_cons,hx];exact ih h
theorem za2 {env:Env}:∀{names:List (Str × NameKind)}{x:Str}{k:NameKind},(k=.cell\/k=.free) ->
    (names.map fun (n,k)=>if (k == NameKind.free && env.scope.kind == .function && env.kindOf n == some .cell) then (n,NameKind.cell) else (n,k)).lookup x=some k->names.lookup x=some .free\/names.lookup x=some .cell
  | [],_,_,_,h=>by simp at h
  | (n,k0)::r,x,k,hk,h=>by
    rw [List.map_cons] at h;rw [List.lookup_cons];cases hx:x == n with
    | true =>
      dsimp only at h;split at h
      · rename_i hc
        rw [List.lookup_cons,hx] at h;simp only [Bool.and_eq_true,beq_iff_eq] at hc;rw [hc.1.1];exact .inl rfl
      · rw [List.lookup_cons, hx] at h
        obtain rfl:=sI h;rcases hk with rfl | rfl
        · exact .inr rfl
        · exact .inl rfl
    | false =>
      dsimp only at h;split at h
      · rw [List.lookup_cons,hx] at h;exact za2 hk h
      · rw [List.lookup_cons,hx] at h;exact za2 hk h
theorem zch {scope out:Scope} (h:zeg scope out=true) {x:Str} (hx:(x,NameKind.free)∈scope.names):out.names.lookup x=some .cell\/out.names.lookup x=some .free:=by
 have q:=List.all_eq_true.mp h _ hx;simpa using q
theorem capSt_get {cap:List (Option Nat)}{σ:St}{j:Nat}{v:V} (h:(capSt cap σ)[j]?=some (some v)):∃i,cap[j]?=some (some i)/\σ[i]?=some (some v):=by
  unfold capSt at h;rw [List.getElem?_map] at h;cases e:cap[j]? with
  | none=>rw [e] at h;cases h
  | some o =>
    rw [e] at h;cases o with
    | none=>cases h
    | some i =>
      refine ⟨i,rfl,?_⟩;have h' : (σ[i]?).getD none=some v:=sI h;cases e2:σ[i]? with
      | none=>rw [e2] at h';cases h'
      | some z=>rw [e2] at h';exact congrArg some h'
theorem zat {env:Env}:∀{names:List (Str × NameKind)}{x:Str}{k:NameKind},k≠.free->names.lookup x=some k ->
    (names.map fun (n,k)=>if (k == NameKind.free && env.scope.kind == .function && env.kindOf n == some .cell) then (n,NameKind.cell) else (n,k)).lookup x=some k
  | [],_,_,_,h=>by simp at h
  | (n,k0)::r,x,k,hk,h=>by
    have ih:=@zat env r x k hk;rw [List.map_cons];rw [List.lookup_cons] at h;cases hx:x == n with
    | true =>
      rw [hx] at h;obtain rfl:=sI h;have:(k0 == NameKind.free)=false:=by cases k0<;>first | rfl | exact absurd rfl hk
      dsimp only;rw [this,Bool.false_and,Bool.false_and,if_neg Bool.false_ne_true,List.lookup_cons,hx]
    | false =>
      rw [hx] at h;dsimp only;split
      · rw [List.lookup_cons,hx];exact ih h
      · rw [List.lookup_cons,hx];exact ih h
noncomputable def zdg (scope:Scope):Bool:=scope.names.all fun p=>!(p.2 == NameKind.cell) || decide (scope.names.lookup p.1=some .cell)
theorem zkx {scope:Scope} (h:zdg scope=true) {x:Str} (hx:(x,NameKind.cell)∈scope.names):scope.names.lookup x=some .cell:=by
 have q:=List.all_eq_true.mp h _ hx;simpa using q
theorem zbp:∀(names:List (Str × NameKind)) (n:Nat) (acc:List (Str × Addr)),cellsFrom n names acc=cellsFrom n names []++acc
  | [],_,_=>rfl
  | (x,k)::r,n,acc=>by
    unfold cellsFrom;split
    · rw [zbp r (n+1) ((x,n)::acc),zbp r (n+1) [(x,n)],List.append_assoc];rfl
    · exact zbp r n acc
theorem zeq:∀(names:List (Str × NameKind)) (n:Nat) {x:Str}{c:Addr},(x,c)∈cellsFrom n names []->(x,NameKind.cell)∈names
  | [],_,_,_,h=>by cases h
  | (y,k)::r,n,x,c,h=>by
    unfold cellsFrom at h;split at h
    · rename_i hk
      rw [zbp] at h;rcases List.mem_append.mp h with h | h
      · exact List.mem_cons_of_mem _ (zeq r _ h)
      · have e := List.mem_singleton.mp h
        cases e;have:k=NameKind.cell:=by simpa using hk
        rw [this];exact List.mem_cons_self
    · exact List.mem_cons_of_mem _ (zeq r _ h)
theorem cells_of {names:List (Str × NameKind)}{n:Nat}{cl:List (Str × Addr)}{x:Str}{c:Addr} (h:(cellsFrom n names cl).lookup x=some c):(cellsFrom n names []).lookup x=some c\/((cellsFrom n names []).lookup x=none/\cl.lookup x=some c):=by
 rw [zbp,List.lookup_append] at h;cases e:(cellsFrom n names []).lookup x with
 | some d=>rw [e] at h;exact .inl h
 | none=>rw [e] at h;exact .inr ⟨rfl,h⟩
theorem zfb {scope:Scope} (h:zdg scope=true) {n:Nat}{cl:List (Str × Addr)}{x:Str}{c:Addr} (hx:scope.names.lookup x=some .free) (hc:cl.lookup x=some c):(cellsFrom n scope.names cl).lookup x=some c:=by
  rw [zbp,List.lookup_append];cases e:(cellsFrom n scope.names []).lookup x with
  | none=>exact hc
  | some d =>
    have:=zkx h (zeq _ _ (PySem.mem_of_lookup e));rw [hx] at this;cases this
theorem zqt {pins:List (Addr × Obj)}{σ:St}{H3:Hp}{s3:Shared}{Nc:List Str}{scope:Scope}{cl:List (Str × Addr)}{cap:List (Option Nat)}{fp:List Addr}{h4:Heap}{tk:Nat}
  (I:Inv X pins σ H3 s3) (hk:scope.kind=.function) (hcap:ze0 cap Nc X.N scope=true) (hfr:zeg scope X.env.scope=true) (hnc:zdg scope=true)
  (c1:∀x c,cl.lookup x=some c->X.env.cells.lookup x=some c) (c2:∀x,(x,NameKind.free)∈scope.names->∃c,cl.lookup x=some c)
  (hf:∀b∈fp,FpOk X pins H3 b) (ho:∀b∈fp,b < s3.heap.objs.size)
  (hns:h4.Ns s3.heap.objs.size (fun _=>none)) (hkeep:∀b o,s3.heap.get? b=some o->h4.get? b=some o) (hcs:CellsOk h4 (s3.heap.objs.size+1) (cellsFrom (s3.heap.objs.size+1) scope.names [])) :
  Inv (zas X Nc scope (cellsFrom (s3.heap.objs.size+1) scope.names cl) s3.heap.objs.size s3 H3 fp) [] (capSt cap σ) H3 { s3 with heap:=h4,toks:=tk }:=by
 have stkne:∀b∈fp,b ∉ frs X.stack:=fun b hb z=>by
  obtain ⟨_,g1,g2,_⟩:=hf b hb;rcases List.mem_cons.mp (I.stkSub b z) with e | e
  ·exact g1 e
  ·exact g2 e
 have own:∀x c,(cellsFrom (s3.heap.objs.size+1) scope.names []).lookup x=some c->h4.IsCell c none/\s3.heap.objs.size+1<=c:=fun x c h=>hcs.empty x c (PySem.mem_of_lookup h);have old:∀x c,cl.lookup x=some c->c < s3.heap.objs.size:=fun x c h=>by
  obtain ⟨v,q⟩:=I.cell x c (c1 x c h);exact q.lt
 refine ⟨⟨I.mod,hk,I.ok.glob,I.ok.blt,Nat.le_refl _,fun x y c h1 h2=>?_,fun x hx=>?_,fun x c h h'=>?_,I.ok.hd,I.ok.frames,.inl rfl,fun b hb=>⟨Nat.ne_of_lt (ho b hb),fun x c h=>?_⟩,
  fun b o e=>I.bs b o e,Nat.le_trans I.ok.bsz I.sz,fun b o e hb=>?_,stkne,I.stack,I.stkFree⟩,rfl,I.bare,Un.kept hkeep,⟨_,hns,fun j x v h1 h2 h3=>?_⟩,fun x c h=>?_,I.hok.fresh (Nat.le_refl _),fun x c h=>?_,fun p hp=>absurd (show p∈([]:List (Addr × Obj)) from hp) (by simp),I.hok.kept hkeep,?_⟩
 ·rcases cells_of h1 with z1 | ⟨_, z1⟩
  ·rcases cells_of h2 with z2 | ⟨_, z2⟩
   ·exact name_of_addr hcs.apart (PySem.mem_of_lookup z1) (PySem.mem_of_lookup z2)
   ·have a := (own x c z1).2;have b:=old y c z2;exact absurd (Nat.lt_of_lt_of_le b (Nat.le_of_succ_le a)) (Nat.lt_irrefl _)
  ·rcases cells_of h2 with z2 | ⟨_, z2⟩
   ·have a := (own y c z2).2;have b:=old x c z1;exact absurd (Nat.lt_of_lt_of_le b (Nat.le_of_succ_le a)) (Nat.lt_irrefl _)
   ·exact I.ok.inj x y c (c1 x c z1) (c1 y c z2)
 ·have hx' : scope.names.lookup x=some .free\/scope.names.lookup x=some .cell:=by
   rcases hx with hx | hx
   ·exact za2 (env:=X.env) (.inl rfl) hx
   ·exact za2 (env:=X.env) (.inr rfl) hx
  rcases hx' with hx' | hx'
  ·obtain ⟨c, e⟩ := c2 x (PySem.mem_of_lookup hx');exact ⟨c,zfb hnc hx' e⟩
  ·exact Option.isSome_iff_exists.mp (PySem.W.cellsFrom_some scope.names _ cl (.inl hx'))
 ·have hx : scope.names.lookup x = some .cell := of_decide_eq_true h;rcases cells_of h' with z | ⟨z,_⟩
  ·exact Nat.le_of_succ_le (own x c z).2
  ·obtain ⟨d, e⟩ := cell_has (n := s3.heap.objs.size + 1) hx;rw [z] at e;cases e
 ·rcases cells_of h with z | ⟨_, z⟩
  ·have a := (own x c z).2;have:=ho b hb;exact Ne.symm (Nat.ne_of_lt (Nat.lt_of_lt_of_le this (Nat.le_of_succ_le a)))
  ·exact (hf b hb).2.2.2.2.1 x c (c1 x c z)
 ·rcases (hf b hb).2.2.2.1 with z | z
  ·exact I.ok.noex b o e z
  ·have h1 : b < X.base.objs.size := Heap.lt_size e;exact absurd (Nat.lt_of_lt_of_le h1 (Nat.le_trans I.ok.bsz z)) (Nat.lt_irrefl _)
 ·obtain ⟨i, e1, e2⟩ := capSt_get h2;have hNx:Nc[j]?=some x:=h1;obtain ⟨n1,n2⟩:=zom hcap e1 hNx;have vis:Vis X.env.scope x:=by
   rcases zch hfr (PySem.mem_of_lookup n2) with z | z
   ·exact .inr (.inl z)
   ·exact .inr (.inr z)
  obtain ⟨m,hn,hl⟩:=I.loc;obtain ⟨u,r,l⟩:=hl i x v n1 e2 vis;refine ⟨u,r,?_⟩;rcases l with ⟨hk',_⟩ | ⟨_,c,e,z⟩
  ·have hk2 : X.env.scope.names.lookup x = some .local := hk';rcases zch hfr (PySem.mem_of_lookup n2) with z | z
   ·rw [z] at hk2;cases hk2
   ·rw [z] at hk2;cases hk2
  ·obtain ⟨c', e'⟩ := c2 x (PySem.mem_of_lookup n2);have:=c1 x c' e';rw [e] at this;obtain rfl:=sI this;refine .inr ⟨zaq (env:=X.env) n2,c,zfb hnc n2 e',?_⟩;obtain ⟨o,ho',hd⟩:=z;exact ⟨o,hkeep _ _ ho',hd⟩
 ·rcases cells_of h with z | ⟨_, z⟩
  ·exact ⟨none,(own x c z).1⟩
  ·obtain ⟨v, o, ho', hd⟩ := I.cell x c (c1 x c z);exact ⟨v,o,hkeep _ _ ho',hd⟩
 ·rcases cells_of h with z | ⟨_, z⟩
  ·exact I.hok.fresh (Nat.le_of_succ_le (own x c z).2)
  ·exact I.freeC x c (c1 x c z)
 ·show (capSt cap σ).length = Nc.length;rw [<-znv hcap];unfold capSt;rw [List.length_map]
theorem zfk {M:Model}{A:Around}{E:Value->Shared->Prop}{s:Shared}{scope:Scope}{globals:Addr}{cl:List (Str × Addr)}{qual:Str}{outer:Env}{Q:Env->Shared->Prop}
  (hQ:∀h',h'.Ns s.heap.objs.size (fun _=>none)->(∀b o,s.heap.get? b=some o->h'.get? b=some o)->CellsOk h' (s.heap.objs.size+1) (cellsFrom (s.heap.objs.size+1) scope.names []) ->
   Q (newEnv scope s.heap.objs.size globals (cellsFrom (s.heap.objs.size+1) scope.names cl) qual none .none (some outer) builtinsNs) { s with heap:=h' }) :
  wpAny M A (newFunctionEnv scope globals cl [] qual none .none (some outer)) Q E s:=by
 simp only [newFunctionEnv,Option.isSome_some,if_true];refine wpAny_bind (wpAny_alloc ?_);refine wpAny_bind (wpAny_layCells _ (fun name kind cells=>by cases hkc:kind == NameKind.cell<;>simp [hkc]) _ _ _ _ ?_);have ok:=cellsFrom_ok scope.names (s.heap.push { cls:=.type "dict",data:=.dict #[] }) (s.heap.objs.size+1) [] ⟨fun _ _ hm=>(nomatch hm),List.Pairwise.nil⟩ (by rw [Heap.size_push];exact Nat.le_refl _);rw [Heap.size_push] at ok;rw [show ({ s with heap:=s.heap.push { cls:=.type "dict",data:=.dict #[] } }:Shared).heap.objs.size=s.heap.objs.size+1 from Heap.size_push ..];refine wpAny_bind ?_;rw [List.forIn_nil];exact wpAny_pure (wpAny_pure (hQ _ ((Heap.Ns.new s.heap (.type "dict")).keeps (pushCells_keeps _ _)) (fun b o e=>pushCells_keeps _ _ b o (Heap.get?_push_of_some _ e)) ok))
end
end L2
namespace L2
open PySem PySem.Spec PyProof.Rows
noncomputable abbrev TM:=St->Hp->(St->Hp->Prop)->Prop
noncomputable def PM (X:Cx) (em:Sem Unit) (t:TM):Prop :=
  ∀(pins:List (Addr × Obj)) (s:Shared) (σ:St) (H:Hp) (N:St->Hp->Prop),Inv X pins σ H s->t σ H N ->
    wpAny (model X.prog X.w) X.A em (fun _ s'=>∃σ' H',Inv X pins σ' H' s'/\N σ' H') X.xe s
noncomputable def zk8 (e:Expr) (d:Nat) (tg iter:Expr) (ifs:List Expr) (em:Sem Unit) (it acc:Value) (env:Env):Sem Fin:=do
  standAt iter.pos
  match <- pyNext it with
  | none=>pure (.done .next)
  | some v =>
    letOwnedTupleGo tg it v
    assign tg env v
    let mut ok:=true
    for c in ifs do
      if ok then ok <- isTrue c env (eval c env)
    if ok then em
    again (.compLoop e d it acc env)
noncomputable def zkb (J:It) (g:TG) (tc:TT) (tm:TM) (σ:St) (H:Hp) (Q:St->Hp->Prop):Prop:=∃W:Nat->Nat->St->Hp->Prop,(∃m,W 0 m σ H) /\
 ∀i m σc Hc,W i m σc Hc->(J.stop i Hc/\Q σc Hc)\/(J.go i Hc/\∃N:St->Hp->Prop,(∀σ' H',N σ' H'->∃m',m' < m/\W (i+1) m' σ' H')/\∀x H',J.yld i Hc x H'->g x σc H' fun σ2 H2 =>
  tc σ2 H2 fun b H3=>if b=true then tm σ2 H3 N else N σ2 H3)
noncomputable def zmf (wi:TI) (cap:List (Option Nat)) (g:TG) (tc:TT) (tm:Addr->TM):TE:=fun σ H Q=>wi σ H fun J H1=>∀acc,H1 acc=none->zkb J g tc (tm acc) (capSt cap σ) (upd H1 acc (.lst [])) fun _ Hc=>Q (.ref acc) Hc
section
variable {X:Cx}
theorem zmi {elt:Expr}{gens:List Comprehension}{scope:Scope}{pos:Pos}{d:Nat}{tg iter:Expr}{ifs:List Expr}{em:Sem Unit}{acc:Value}{g:TG}{tc:TT}{tm:TM}{pins:List (Addr × Obj)}{σ:St}{H:Hp}{s:Shared}{it:Addr}{fp:List Addr}{tn:Nat->Heap->Prop}{J:It}{N0:St->Hp->Prop}{R:Result->Shared->Prop}
  (hx:∀v s,¬ X.xe v s) (hc:X.calm=true) (ht:compTurn (.ListComp elt gens scope pos) d (.ref it) acc X.env=zk8 (.ListComp elt gens scope pos) d tg iter ifs em (.ref it) acc X.env)
  (hg:PG X tg g) (hs:PTs X ifs tc) (hm:PM X em tm) (I:Inv X pins σ H s) (T:Turn X.prog X.w X.K tg J fp it tn) (st:tn 0 s.heap) (f:∀b∈fp,FpOk X pins H b)
  (hW:zkb J g tc tm σ H N0)
  (hR:∀σ' H' s',Inv X pins σ' H' s'->N0 σ' H'->R (.ok .next) s'):codeAny (model X.prog X.w) X.A (.compLoop (.ListComp elt gens scope pos) d (.ref it) acc X.env) R s:=by
 have stat:∀{H' : Hp},(∀b∈fp,H' b=none)->∀b∈fp,FpOk X pins H' b:=fun hn b hb=>⟨hn b hb,(f b hb).2⟩;refine aG fun _ qG=>?_;obtain ⟨W,⟨m0,w0⟩,turn⟩:=hW;refine qG ?_;clear qG;refine codeAny_loop rfl (fun n s'=>∃i σ' H',Inv X pins σ' H' s'/\tn i s'.heap/\(∀b∈fp,H' b=none)/\W i n σ' H') ?_ m0 ⟨0,σ,H,I,st,fun b hb=>(f b hb).1,w0⟩;rintro n s3 ⟨i,σ3,H3,I3,st3,fr3,w3⟩;show wpAny _ X.A ((compTurn (.ListComp elt gens scope pos) d (.ref it) acc X.env).onRaise (fun x=>do noteFrame x X.env;theTreesLotGoes x)) _ _ s3;refine wpAny_noted ?_;rw [ht];unfold zk8;refine wpAny_bind (wpAny_standAt (wpAny_bind ?_));rcases turn i n σ3 H3 w3 with ⟨stop,qn⟩ | ⟨go,N,hN,step⟩
 ·refine wpAny_mono (T.done X rfl rfl rfl hc i pins s3 σ3 H3 (fun _ _ => False) I3 (stat fr3) st3 stop) (fun r s4 ⟨hr, I4⟩ => ?_) fun _ _ z => z.elim;subst hr;exact wpAny_pure (hR σ3 H3 s4 I4 qn)
 ·refine wpAny_mono (T.item X rfl rfl rfl hc i pins s3 σ3 H3 (fun _ _ => False) I3 (stat fr3) st3 go) (fun r s4 ⟨u, hr, h4⟩ => ?_) fun _ _ z => z.elim;subst hr;refine wpAny_bind (wpAny_mono h4 (fun _ s5 ⟨x,H5,I5,r5,y5,st5,fr5⟩=>?_) fun _ _ z=>z.elim);have I5':=I5.pinned (stat fr5) (T.obj _ _ st5);refine wpAny_bind (wpAny_mono (hg _ s5 σ3 H5 x u _ I5' r5 (step x H5 y5)) (fun _ s6 ⟨σ6,H6,I6,q6⟩=>?_) fun v s z=>(hx v s z).elim);refine wpAny_bind (wpAny_mono (hs _ s6 σ6 H6 _ I6 q6) (fun ok s7 ⟨H7,I7,q7⟩=>?_) fun v s z=>(hx v s z).elim);have again:∀{sx:Shared}{σx:St}{Hx:Hp},Inv X (pins++zf7 fp s5.heap) σx Hx sx->N σx Hx->∃m,m < n/\∃i σ' H',Inv X pins σ' H' sx/\tn i sx.heap/\(∀b∈fp,H' b=none)/\W i m σ' H':=fun {sx σx Hx} Ix nx=>by
   obtain ⟨m',hm,wx⟩:=hN σx Hx nx;refine ⟨m',hm,i+1,σx,Hx,Ix.unpinned,T.keep _ _ _ st5 fun b hb o e=>(Ix.pin (b,o) (List.mem_append_right _ (List.mem_append_right _ (zcm hb e)))).1,fun b hb=>?_,wx⟩;obtain ⟨o,e,d⟩:=T.obj _ _ st5 b hb;exact (Ix.pin (b,o) (List.mem_append_right _ (List.mem_append_right _ (zcm hb e)))).2.1
  cases ok with
  | false=>exact wpAny_pure ⟨rfl,again I7 q7⟩
  | true=>exact wpAny_bind (wpAny_mono (hm _ s7 σ6 H7 N I7 q7) (fun _ s8 ⟨σ8,H8,I8,n8⟩=>wpAny_pure ⟨rfl,again I8 n8⟩) fun v s z=>(hx v s z).elim)
noncomputable def zp9 (acc:Addr) (te:TE):TM:=fun σ H N=>te σ H fun y H4=>∃ys,H4 acc=some (.lst ys)/\ys.length < sizeLine/\N σ (upd H4 acc (.lst (ys++[y])))
noncomputable def zt3 (elt:Expr) (acc:Value) (env:Env):Sem Unit:=do let _ <- call (.builtin "list.append") [acc,<-eval elt env]
theorem zw8 {elt:Expr}{te:TE}{acc:Addr} (he:PE X elt te):PM X (zt3 elt (.ref acc) X.env) (zp9 acc te):=by
 intro pins s σ H N I h;unfold zt3;refine wpAny_bind (thn (he pins s σ H _ I h) fun yv s10 ⟨y,H10,I10,r10,ys,ha,hz,q10⟩=>?_);refine wpAny_bind (thn (zf8 _ s10 σ H10 (.ref acc) [y] _ [yv] (fun _ H'=>N σ H') I10 rfl (.cons r10 .nil) ⟨_,ys,y,rfl,rfl,ha,hz,q10⟩) fun _ s11 ⟨_,H11,I11,_,q11⟩=>?_);exact wpAny_pure ⟨σ,H11,I11,q11⟩
end
theorem HOk.but {P:Program}{w:World}{H:Hp}{h h' : Heap}{a:Addr} (x:HOk P w H h) (hn:H a=none) (hs:Heap.SameBut a h h'):HOk P w H h':=fun b ob e=>by
 refine (x b ob e).stay (fun c w' hc q=>(hs.2 c ?_).trans q) (fun _ q=>q) fun _ _ q=>q;rintro rfl;rcases hc with rfl | hc
 ·rw [hn] at e;cases e
 ·rw [hn] at hc;cases hc
section
variable {X:Cx}
theorem ze7 {elt tg iter:Expr}{ifs:List Expr}{gs:List Comprehension}{scope:Scope}{pos:Pos}{cl:List (Str × Addr)}{Nc:List Str}{cap:List (Option Nat)}{g:TG}{tc:TT}{em:Value->Env->Sem Unit}{tm:Addr->TM}{pins:List (Addr × Obj)}{σ:St}{H2:Hp}{s2:Shared}{it:Addr}{fp:List Addr}{tn:Nat->Heap->Prop}{J:It}{Q:VK}{RR:Value->Addr->Result->Shared->Prop}{E:Value->Shared->Prop}
  (hc:X.calm=true) (hk:scope.kind=.function) (hcap:ze0 cap Nc X.N scope=true) (hfr:zeg scope X.env.scope=true) (hnc:zdg scope=true)
  (hturn:∀it acc env,compTurn (.ListComp elt (⟨tg,iter,ifs,0⟩ :: gs) scope pos) 0 it acc env=zk8 (.ListComp elt (⟨tg,iter,ifs,0⟩ :: gs) scope pos) 0 tg iter ifs (em acc env) it acc env)
  (hg:∀cl C s3 H3 fp,PG (zas X Nc scope cl C s3 H3 fp) tg g) (ht:∀cl C s3 H3 fp,PTs (zas X Nc scope cl C s3 H3 fp) ifs tc) (hm:∀cl C s3 H3 fp acc,PM (zas X Nc scope cl C s3 H3 fp) (em (.ref acc) (zas X Nc scope cl C s3 H3 fp).env) (tm acc))
  (c1:∀x c,cl.lookup x=some c->X.env.cells.lookup x=some c) (c2:∀x,(x,NameKind.free)∈scope.names->∃c,cl.lookup x=some c)
  (I2:Inv X pins σ H2 s2) (T:Turn X.prog X.w X.K tg J fp it tn) (st2:tn 0 s2.heap) (f2:∀b∈fp,FpOk X pins H2 b)
  (hW:∀acc,H2 acc=none->zkb J g tc (tm acc) (capSt cap σ) (upd H2 acc (.lst [])) fun _ Hc=>Q (.ref acc) Hc)
  (hR:∀acc C s' H',(∃m,s'.heap.Ns C m)->(∀h',Heap.SameBut C s'.heap h'->Inv X pins σ H' { s' with heap:=h' })->FpOk X pins H' C->Q (.ref acc) H'->RR (.ref acc) C (.ok .next) s') :
  wpAny (model X.prog X.w) X.A (newList []) (fun acc s₃=>wpAny (model X.prog X.w) X.A (newFunctionEnv scope X.env.globals cl [] X.env.qual none .none (some X.env)) (fun cenv s₄ =>
   codeAny (model X.prog X.w) X.A (.compStart (.ListComp elt (⟨tg,iter,ifs,0⟩ :: gs) scope pos) 0 (.ref it) acc { cenv with scope:=relabel scope X.env }) (RR acc cenv.locals) s₄) E s₃) E s2:=by
 refine wpAny_newObj_type (zfk fun h₁ hns₁ keep4 hcs=>?_);dsimp only at hns₁ keep4 hcs ⊢;have hacc:H2 s2.heap.objs.size=none:=I2.hok.fresh (Nat.le_refl _);have I3:Inv X pins σ (upd H2 s2.heap.objs.size (.lst [])) { s2 with heap:=s2.heap.push { cls:=.type "list",dict:=none,data:=.seq ([]:List Value).toArray },toks:=s2.toks } :=
  I2.laid (t':=s2.toks) (fun b u e=>Heap.get?_push_of_some _ e) (Nat.le_refl _) ⟨by simp,[],0,.nil,Heap.get?_push_size _ rfl⟩
 have hW':=hW s2.heap.objs.size hacc;generalize hH:s2.heap.push { cls:=.type "list",dict:=none,data:=.seq ([]:List Value).toArray }=hp at hns₁ keep4 hcs I3 ⊢;have f3:∀b∈fp,FpOk X pins (upd H2 s2.heap.objs.size (.lst [])) b:=fun b hb=>by
  obtain ⟨o,ho,_⟩:=T.obj _ _ st2 b hb;exact ⟨by rw [upd_ne (Nat.ne_of_lt (Heap.lt_size ho))];exact (f2 b hb).1,(f2 b hb).2⟩
 have up:∀b o,s2.heap.get? b=some o->hp.get? b=some o:=fun b o e=>hH ▸ Heap.get?_push_of_some _ e;have I4:=zqt (Nc:=Nc) (cap:=cap) (fp:=fp) (h4:=h₁) (tk:=s2.toks) I3 hk hcap hfr hnc c1 c2 f3 (fun b hb=>by
  obtain ⟨o,ho,_⟩:=T.obj _ _ st2 b hb;exact Heap.lt_size (up b o ho)) hns₁ keep4 hcs
 have st4:tn 0 h₁:=T.keep _ _ _ st2 fun b _ o e=>keep4 b o (up b o e);have loop:codeAny (model X.prog X.w) X.A (.compLoop (.ListComp elt (⟨tg,iter,ifs,0⟩ :: gs) scope pos) 0 (.ref it) (.ref s2.heap.objs.size) (compEnvC scope (cellsFrom (hp.objs.size+1) scope.names cl) hp.objs.size X.env)) (RR (.ref s2.heap.objs.size) hp.objs.size) { s2 with heap:=h₁,toks:=s2.toks }:=by
  refine zmi (X:=zas X Nc scope (cellsFrom (hp.objs.size+1) scope.names cl) hp.objs.size { s2 with heap:=hp,toks:=s2.toks } (upd H2 s2.heap.objs.size (.lst [])) fp) (fun _ _ z=>z) hc (hturn _ _ _) (hg _ _ _ _ _) (ht _ _ _ _ _) (hm _ _ _ _ _ _) I4 T st4
   (fun b hb=>⟨(f3 b hb).1,(I4.ok.exf b hb).1,I4.ok.exfs b hb,.inl hb,(I4.ok.exf b hb).2,fun p hp'=>absurd (show p∈([]:List (Addr × Obj)) from hp') (by simp)⟩) hW' fun σ5 H5 s6 I6 qn=>?_
  obtain ⟨m6,hm6,_⟩:=I6.loc;have fC:H5 hp.objs.size=none:=I6.free;refine hR _ _ _ H5 ⟨m6,hm6⟩ (fun h' hsb=>?_) (I3.fpOk (Nat.le_refl _) fC) qn;refine I3.call' (s':={ s6 with heap:=h' }) (ch:=fp) I6.os ?_ (I6.hok.but fC hsb) I6.bare fun b hb=>⟨(f3 b hb).2.2.2.1,(f3 b hb).2.1,(f3 b hb).2.2.2.2.1,(f3 b hb).2.2.2.2.2⟩;have U:Un (frs X.stack) fp (upd H2 s2.heap.objs.size (.lst [])) H5 hp s6.heap:=I6.base;have nb:∀b o,hp.get? b=some o->b≠hp.objs.size:=fun b o e=>Nat.ne_of_lt (Heap.lt_size e);exact ⟨fun b o e n hb hx=>(hsb.2 b (nb b o e)).trans (U.keep b o e n hb hx),fun b o e n hb hx=>let ⟨sl,z⟩:=U.slot b o e n hb hx;⟨sl,(hsb.2 b (nb b o e)).trans z⟩,U.free,fun b o e hx=>let ⟨o',z⟩:=U.there b o e hx;⟨o',(hsb.2 b (nb b o e)).trans z⟩,U.tups,U.frzs,U.tbls⟩
 exact codeAny_compStart_list loop (T.self _ 0 _ _ _ st4 loop)
theorem ztm {elt tg iter:Expr}{ifs:List Expr}{gs:List Comprehension}{scope:Scope}{pos:Pos}{Nc:List Str}{cap:List (Option Nat)}{wi:TI}{g:TG}{tc:TT}{em:Value->Env->Sem Unit}{tm:Addr->TM} (hi:PI X tg iter wi)
  (hg:∀cl C s3 H3 fp,PG (zas X Nc scope cl C s3 H3 fp) tg g) (ht:∀cl C s3 H3 fp,PTs (zas X Nc scope cl C s3 H3 fp) ifs tc) (hm:∀cl C s3 H3 fp acc,PM (zas X Nc scope cl C s3 H3 fp) (em (.ref acc) (zas X Nc scope cl C s3 H3 fp).env) (tm acc))
  (hturn:∀it acc env,compTurn (.ListComp elt (⟨tg,iter,ifs,0⟩ :: gs) scope pos) 0 it acc env=zk8 (.ListComp elt (⟨tg,iter,ifs,0⟩ :: gs) scope pos) 0 tg iter ifs (em acc env) it acc env)
  (hc:X.calm=true:=by rfl) (hk:scope.kind=.function:=by rfl) (hcap:ze0 cap Nc X.N scope=true:=by rfl) (hfr:zeg scope X.env.scope=true:=by rfl) (hnc:zdg scope=true:=by rfl)
  (hnm:(scope.names.all fun p=>!(p.2 == NameKind.local) || decide (scope.names.lookup p.1=some .local))=true:=by rfl)
  (hs:∀x,foldedSetIterable iter X.env x=pure x:=by intro _;rfl):PE X (.ListComp elt (⟨tg,iter,ifs,0⟩ :: gs) scope pos) (zmf wi cap g tc tm):=by
 intro pins s σ H Q I h;rw [eval_ListComp];refine aG fun _ qG=>?_;obtain ⟨cl,hclos,c1,c2⟩:=zcc (env:=X.env) (scope:=scope) fun x hx=>I.ok.has x (zch hfr hx);refine qG ?_;clear qG;have hnames:∀x∈scope.names,x.2=.local->scope.names.lookup x.1=some .local:=fun x hx e=>by
  have q:=List.all_eq_true.mp hnm _ hx;simpa [e] using q
 refine wpAny_comprehension_free (use:=none) rfl hs hclos hk hnames (thn (hi pins s σ H _ I h) fun v s1 h1=>thn h1 fun itv s2 h2=>?_);refine aG fun _ qG=>?_;obtain ⟨it,fp,tn,J,H2,e,I2,T,st2,f2,hW⟩:=h2;refine qG ?_;clear qG;subst e;refine ze7 (RR:=fun acc C=>compPost (model X.prog X.w) X.A X.xe none (EP X pins σ Q) acc C) hc hk hcap hfr hnc hturn hg ht hm c1 c2 I2 T st2 f2 hW ?_;intro acc C s' H' ⟨m,hm⟩ hI hC q;exact ⟨m,hm,fun h' hsb=>⟨.ref acc,H',hI h' hsb,rfl,q⟩⟩
theorem zsn {y:Str}{py:Pos}{spos:Pos}{i:Nat}{elt tg iter:Expr}{ifs:List Expr}{gs:List Comprehension}{scope:Scope}{pos:Pos}{Nc:List Str}{cap:List (Option Nat)}{wi:TI}{g:TG}{tc:TT}{em:Value->Env->Sem Unit}{tm:Addr->TM} (hN:X.N.Nodup) (hiy:X.N[i]?=some y) (hy:Loc X.env.scope y) (hi:PI X tg iter wi)
  (hg:∀cl C s3 H3 fp,PG (zas X Nc scope cl C s3 H3 fp) tg g) (ht:∀cl C s3 H3 fp,PTs (zas X Nc scope cl C s3 H3 fp) ifs tc) (hm:∀cl C s3 H3 fp acc,PM (zas X Nc scope cl C s3 H3 fp) (em (.ref acc) (zas X Nc scope cl C s3 H3 fp).env) (tm acc))
  (hturn:∀it acc env,compTurn (.ListComp elt (⟨tg,iter,ifs,0⟩ :: gs) scope pos) 0 it acc env=zk8 (.ListComp elt (⟨tg,iter,ifs,0⟩ :: gs) scope pos) 0 tg iter ifs (em acc env) it acc env)
  (hsw:swapsWith (.ListComp elt (⟨tg,iter,ifs,0⟩ :: gs) scope pos) (some (.Name y py)) spos.line X.env=pure true:=by rfl)
  (hc:X.calm=true:=by rfl) (hk:scope.kind=.function:=by rfl) (hcap:ze0 cap Nc X.N scope=true:=by rfl) (hfr:zeg scope X.env.scope=true:=by rfl) (hnc:zdg scope=true:=by rfl)
  (hnm:(scope.names.all fun p=>!(p.2 == NameKind.local) || decide (scope.names.lookup p.1=some .local))=true:=by rfl)
  (hs:∀x,foldedSetIterable iter X.env x=pure x:=by intro _;rfl) (hf:X.fn y=true\/X.env.scope.names.lookup y=some .local:=by first | exact .inl rfl | exact .inr rfl | assumption) :
  PS X (.Assign [.Name y py] (.ListComp elt (⟨tg,iter,ifs,0⟩ :: gs) scope pos) spos) (tAsg (zmf wi cap g tc tm) (zk6 i)):=by
 intro pins s σ H D I h;refine aG fun _ qG=>?_;obtain ⟨cl,hclos,c1,c2⟩:=zcc (env:=X.env) (scope:=scope) fun x hx=>I.ok.has x (zch hfr hx);refine qG ?_;clear qG;have hnames:∀x∈scope.names,x.2=.local->scope.names.lookup x.1=some .local:=fun x hx e=>by
  have q:=List.all_eq_true.mp hnm _ hx;simpa [e] using q
 rw [exec_Assign_Name_used _ _ _ _ hsw];refine wpAny_bind (wpAny_standAt (wpAny_bind ?_));show wpAny _ X.A (do let _ <- comprehension (.ListComp elt (⟨tg,iter,ifs,0⟩ :: gs) scope pos) scope X.env _ (newList []) false (eval iter X.env) (some (assign (.Name y py) X.env))) _ _ s;refine wpAny_bind (wpAny_mono (wpAny_comprehension_free (use:=some (assign (.Name y py) X.env)) (Q:=fun _ s'=>SP X pins D .next s') rfl hs hclos hk hnames
  (thn (hi pins s σ H _ I h) fun v s1 h1=>thn h1 fun itv s2 h2=>?_)) (fun _ s' hq=>wpAny_pure (wpAny_pure hq)) fun _ _ e=>e)
 refine aG fun _ qG=>?_;obtain ⟨it,fp,tn,J,H2,e,I2,T,st2,f2,hW⟩:=h2;refine qG ?_;clear qG;subst e;refine ze7 (Q:=fun x H1=>D.nx (σ.set i (some x)) H1) (RR:=fun acc C=>compPost (model X.prog X.w) X.A X.xe (some (assign (.Name y py) X.env)) (fun _ s'=>SP X pins D .next s') acc C) hc hk hcap hfr hnc hturn hg ht hm c1 c2 I2 T st2 f2 hW ?_;intro acc C s' H' ⟨m,hm⟩ hI hC q;show wpAny _ X.A (assign (.Name y py) X.env (.ref acc)) _ _ _;have I' : Inv X pins σ H' s':=hI s'.heap (.refl ..);refine wpAny_assign_Name (zhm I' hN hiy hy (v:=.ref acc) rfl (fun s'' I'' ⟨a,hsb,ha⟩=>?_) hf);have ne:C≠a:=by
  rcases ha with rfl | ha
  ·exact hC.2.1
  ·exact fun z=>hC.2.2.2.2.1 y a ha z.symm
 refine ⟨m,hm.sameBut hsb ne,fun h' hsb'=>⟨_,H',?_,q⟩⟩;exact I''.turned (t':=s''.toks) (fun b o hb e=>(hsb'.2 b hb).trans e) hC.1 hC.2.1 hC.2.2.2.1 hC.2.2.2.2.1 hC.2.2.2.2.2
end
end L2
namespace L2
open PySem PySem.Spec PyProof.Rows
section
variable {X:Cx}{pins:List (Addr × Obj)}{σ:St}{H:Hp}{s:Shared}
theorem Inv.turnLay {h' : Heap}{t' : Nat}{ch:List Addr}{T:Addr}{o:HO} (I:Inv X pins σ H s) (k:∀b o,b ∉ ch->s.heap.get? b=some o->h'.get? b=some o) (th:∀b∈ch,∃o',h'.get? b=some o') (hch:∀b∈ch,FpOk X pins H b) (hT:s.heap.objs.size<=T)
  (new:zbn X.prog X.w (upd H T o) h' T o):Inv X pins σ (upd H T o) { s with heap:=h',toks:=t' }:=by
 have hn:H T=none:=I.hok.fresh hT;have ne:∀b u,s.heap.get? b=some u->b≠T:=fun b u e=>Nat.ne_of_lt (Nat.lt_of_lt_of_le (Heap.lt_size e) hT);have nch:∀b u,H b=some u->b ∉ ch:=fun b u e hb=>by rw [(hch b hb).1] at e;cases e
 refine I.step (g':=s.gens) (d':=s.drawn) (ch:=ch) (fun b hb=>⟨(hch b hb).2.2.2.1,(hch b hb).2.1,(hch b hb).2.2.2.2.1,(hch b hb).2.2.2.2.2⟩) (fun b o _ _ hc e _=>k b o hc e) (fun b o _ _ hc e _=>⟨o.slots,k b o hc e⟩) (fun b u _ e n=>by rw [upd_ne (ne b u e)];exact n)
  (fun b u hc e=>⟨u,k b u hc e⟩) (fun b xs e=>by rw [upd_ne (zac e hn)];exact e) (fun b u xs e=>by rw [upd_ne (zac e hn)];exact e) (fun b ps e=>⟨#[],by rw [upd_ne (zac e hn),e];simp⟩) (fun m hm=>?_) (fun b u e=>?_) I.bare
 ·obtain ⟨o, es, ep, ho, r⟩ := hm;exact ⟨o,es,ep,k _ o (fun z=>(hch _ z).2.1 rfl) ho,r⟩
 ·by_cases hb : b = T
  ·subst hb;rw [upd_same] at e;obtain rfl:=sI e;exact new
  ·rw [upd_ne hb] at e;refine (I.hok b u e).stay (fun c v hc q=>k c v ?_ q) (fun c q=>by rw [upd_ne (zac q hn)];exact q) fun c xs q=>by rw [upd_ne (zac q hn)];exact q
   rcases hc with z | z
   ·rw [z];exact nch b u e
   ·exact nch c _ z
end
noncomputable def Ite (K:PySem.W.Frag) (a:Addr):It :=
 ⟨fun i H=>∃xs x,SqL K H a xs/\xs[i]?=some x,fun i H x H'=>∃p v,x=.ref p/\H p=none/\H'=upd H p (.tup [.int i,v])/\∀xs,SqL K H a xs->xs[i]?=some v,fun i H=>∃xs,SqL K H a xs/\xs.length<=i⟩
theorem zn9 {P:Program}{w:World}{K:PySem.W.Frag}{es:List Expr}{x1}{px:Pos} (a e it:Addr) (hei:e≠it):Turn P w K (.Tuple es x1 px) (Ite K a) [e,it] e (fun i h=>(∃old,IsEnum h e it i old)/\h.IsListIter it a i) where
 mem:=by simp
 obj:=fun i h st b hb=>by
  refine aG fun _ qG=>?_;obtain ⟨⟨old,he⟩,o,hi,c,d⟩:=st;refine qG ?_;clear qG;rcases List.mem_cons.mp hb with rfl | hb
  ·exact ⟨_,he,fun v z=>by cases z⟩
  ·have : b = it := by simpa using hb
   subst this;exact ⟨o,hi,fun v z=>by rw [d] at z;cases z⟩
 keep:=fun i h h' st k=>⟨let ⟨old,he⟩:=st.1;⟨old,k e (by simp) _ he⟩,st.2.at fun o z=>k it (by simp) o z⟩
 item:=by
  intro X hP hw hK hc i pins s σ H E I hf st hg;subst hP hw hK;refine aG fun _ qG=>?_;obtain ⟨xs,x,hq,hx⟩:=hg;obtain ⟨its,rv,p,hz⟩:=I.list hq;obtain ⟨u,hu,ru⟩:=rv.get hx;obtain ⟨⟨old,he⟩,hit⟩:=st;refine qG ?_;clear qG;refine wpAny_pyNext_enum_item he hit p.isList (x:=u) (by simpa using hu) hei fun h' ho hit' hT hsz hk=>⟨_,rfl,?_⟩;refine wpAny_letOwnedTupleGo_enum ho fun h'' he'' hs''=>?_;have kk:∀b o,b ∉ [e,it]->s.heap.get? b=some o->h''.get? b=some o:=fun b o hb q=>by
   have h1:b≠e:=fun z=>hb (by simp [z]);have h2:b≠it:=fun z=>hb (by simp [z]);exact (hs''.2 b h1).trans (hk b o h1 h2 q)
  have hTe:s.heap.objs.size≠e:=fun z=>absurd (Heap.lt_size he) (by rw [z];exact Nat.lt_irrefl _);have hit'' : h''.IsListIter it a (i+1):=hit'.at fun o y=>(hs''.2 it hei.symm).trans y;refine ⟨.ref s.heap.objs.size,upd H s.heap.objs.size (.tup [.int i,x]),I.turnLay kk (fun b hb=>?_) hf (Nat.le_refl _) ⟨by show 2<=sizeLine;decide,[.int i s.toks,u],.cons ⟨_,rfl⟩ (.cons ru .nil),?_⟩,rfl,⟨_,x,rfl,I.hok.fresh (Nat.le_refl _),rfl,fun ys hy=>by rw [I.list_inj hy hq];exact hx⟩,⟨⟨_,by simpa using he''⟩,hit''⟩,fun b hb=>?_⟩
  ·rcases List.mem_cons.mp hb with rfl | hb
   ·exact ⟨_,he''⟩
   ·have : b = it := by simpa using hb
    subst this;obtain ⟨o,z,_⟩:=hit'';exact ⟨o,z⟩
  ·exact ⟨_,(hs''.2 _ hTe).trans hT,rfl,_,rfl⟩
  ·have:b≠s.heap.objs.size:=by
    rcases List.mem_cons.mp hb with rfl | hb
    ·exact hTe.symm
    ·have e2 : b = it := by simpa using hb
     subst e2;obtain ⟨o,z,_⟩:=hit;exact Nat.ne_of_lt (Heap.lt_size z)
   rw [upd_ne this];exact (hf b hb).1
 done:=by
  intro X hP hw hK hc i pins s σ H E I hf st hg;subst hP hw hK;refine aG fun _ qG=>?_;obtain ⟨xs,hq,hx⟩:=hg;obtain ⟨its,rv,p,hz⟩:=I.list hq;obtain ⟨⟨old,he⟩,hit⟩:=st;obtain ⟨f0,f1,f2,f3,f4,f5⟩:=hf it (by simp);refine qG ?_;clear qG;have hl:=rv.length;exact wpAny_pyNext_enum_end (I.ok.hd hc) he hit p.isList (Array.getElem?_eq_none (by simp;omega)) fun h' eb=>⟨rfl,I.turned (t':=s.toks) (fun b o hb e=>eb b o hb e) f0 f1 f3 f4 f5⟩
 self:=fun _ _ _ _ _ st h=>let ⟨_,he⟩:=st.1;wpAny_pyIter_enum he h
section
variable {X:Cx}
end
noncomputable def Itv (K:PySem.W.Frag) (a:Addr) (n:Nat):It :=
 ⟨fun i H=>i < n/\∃xs,SqL K H a xs/\xs.length=n,fun i H x H'=>H'=H/\∀xs,SqL K H a xs->xs[n - 1 - i]?=some x,fun i H=>i=n⟩
theorem zo9 {P:Program}{w:World}{K:PySem.W.Frag}{tg:Expr} (a it:Addr) (n:Nat):Turn P w K tg (Itv K a n) [it] it (fun i h=>h.IsRevIter it a ((n:Int) - 1 - (i:Int))) where
 mem:=by simp
 obj:=fun i h st b hb=>by
  have e:b=it:=by simpa using hb
  subst e;refine aG fun _ qG=>?_;obtain ⟨o,e,c,d⟩:=st;refine qG ?_;clear qG;exact ⟨o,e,fun v z=>by rw [d] at z;cases z⟩
 keep:=fun i h h' st k=>st.at fun o e=>k it (by simp) o e
 item:=by
  intro X hP hw hK hc i pins s σ H E I hf st hg;subst hP hw hK;refine aG fun _ qG=>?_;obtain ⟨hi,xs,hq,hn⟩:=hg;refine qG ?_;clear qG;have hlt:n - 1 - i < xs.length:=by omega
  refine aG fun _ qG=>?_;obtain ⟨its,rv,p,hz⟩:=I.list hq;obtain ⟨u,hu,ru⟩:=rv.get (List.getElem?_eq_getElem hlt);obtain ⟨f0,f1,f2,f3,f4,f5⟩:=hf it (by simp);refine qG ?_;clear qG;have e:(n:Int) - 1 - (i:Int)=((n - 1 - i:Nat):Int):=by omega
  have st':=st;rw [e] at st';refine wpAny_pyNext_rev_item st' p.isList (x:=u) (by simpa using hu) fun h' st' sb=>?_;have I1:Inv X pins σ H { s with heap:=h' }:=I.turned (t':=s.toks) (fun b o hb e=>(sb.2 b hb).trans e) f0 f1 f3 f4 f5;refine aG fun _ qG=>?_;obtain ⟨o,e2,c,d⟩:=id st';refine qG ?_;clear qG;have e3:((n - 1 - i:Nat):Int) - 1=(n:Int) - 1 - ((i+1:Nat):Int):=by omega
  rw [e3] at st';exact ⟨u,rfl,zmo (s:={ s with heap:=h' }) e2 c d (by decide) ⟨_,H,I1,ru,⟨rfl,fun ys hy=>by rw [I.list_inj hy hq];exact List.getElem?_eq_getElem hlt⟩,st',fun b hb=>(hf b hb).1⟩⟩
 done:=by
  intro X hP hw hK hc i pins s σ H E I hf st hg;subst hP hw hK;have hg' : i=n:=hg;subst hg';refine aG fun _ qG=>?_;obtain ⟨f0,f1,f2,f3,f4,f5⟩:=hf it (by simp);refine qG ?_;clear qG;have e:(i:Int) - 1 - (i:Int)=-1:=by omega
  rw [e] at st;exact wpAny_pyNext_rev_end (I.ok.hd hc) st fun h' eb=>⟨rfl,I.turned (t':=s.toks) (fun b o hb e=>eb b o hb e) f0 f1 f3 f4 f5⟩
 self:=fun _ _ _ _ _ st h=>wpAny_pyIter_revIter st h
section
variable {X:Cx}{tg:Expr}
noncomputable def iRev (K:PySem.W.Frag) (ta:TA):TI:=fun σ H R=>ta σ H fun vs H1=>∃a xs,vs=[.ref a]/\SqL K H1 a xs/\R (Itv K a xs.length) H1
theorem zvg {l:Expr}{tl:TA}{p pos:Pos} (hg:Gl X "reversed") (hm:X.mg "reversed" = none) (hl:PA X [l] tl) (hs:starEach [l] X.env=[(false,eval l X.env)]:=by rfl) :
    PI X tg (.Call (.Name "reversed" p) [l] [] pos) (iRev X.K tl):=by
  intro pins s σ H R I h;refine Call_ (zed I hg hm boot_reversed (PyProof.Rows.callWith_type1 (thn (hl pos pins s σ H _ I h) fun us s1 ⟨vs,H1,I1,r1,q1⟩=>?_) hs rfl));refine aG fun _ qG=>?_;obtain ⟨a,xs,e,hq,q⟩:=q1;refine qG ?_;clear qG;subst e;cases r1 with
  | cons r rr =>
    cases rr;cases r;refine aG fun _ qG=>?_;obtain ⟨its,rv,p',hz⟩:=I1.list hq;refine qG ?_;clear qG;refine call_reversed_list p'.isList ?_;have hit:(s1.heap.push (revObj a ((its.toArray.size:Int) - 1))).IsRevIter s1.heap.objs.size a ((its.toArray.size:Int) - 1):=⟨_,Heap.get?_push_size _ rfl,rfl,rfl⟩;refine wpAny_pyIter_revIter hit ?_;refine ⟨s1.heap.objs.size,[s1.heap.objs.size],_,_,H1,rfl,I1.kept (t':=s1.toks) fun b o e=>Heap.get?_push_of_some _ e,zo9 a _ xs.length,?_,fun b hb=>?_,q⟩
    · have e : ((its.toArray.size : Int) - 1) = (xs.length : Int) - 1 - ((0 : Nat) : Int) := by have := rv.length; simp; omega
      rw [e] at hit;have ge:((its.toArray.size:Int) - 1)=(xs.length:Int) - 1 - ((0:Nat):Int):=e;dsimp only;rw [<-ge];exact ⟨_,Heap.get?_push_size _ rfl,rfl,rfl⟩
    · have e : b = s1.heap.objs.size := by simpa using hb
      subst e;exact I1.fpOk (Nat.le_refl _) (I1.hok.fresh (Nat.le_refl _))
end
end L2
namespace L2
open PySem PySem.Spec PyProof.Rows
section
variable {κ:Type} [DecidableEq κ]
end
section
variable {P:Program}{w:World}{H:Hp}{h:Heap}{a:Addr}
end
section
variable {X:Cx}{pins:List (Addr × Obj)}{σ:St}{H:Hp}{s:Shared}{a:Addr}{y v:V}{u r:Value}{o:Option V}{A:Around}{E:Value->Shared->Prop}
end
section
variable {X:Cx}{pins:List (Addr × Obj)}{σ:St}{H:Hp}{s:Shared}{a:Addr}{kvs:List (Key × V)}{k:Key}{u:Value}{A:Around}{E:Value->Shared->Prop}
end
section
variable {X:Cx}{o i e value:Expr}{pos pos' tpos:Pos}{td ty tv:TE}
end
section
variable {X:Cx}{pos:Pos}
end
section
variable {X:Cx}{pins:List (Addr × Obj)}{σ:St}{H:Hp}{s:Shared}{a:Addr}{y d:V}{u r:Value}{o:Option V}{A:Around}{E:Value->Shared->Prop}
end
section
variable {X:Cx}{o e f:Expr}{apos cpos:Pos}{td ty tx:TE}
end
section
variable {X:Cx}{pins:List (Addr × Obj)}{σ:St}{H:Hp}{s:Shared}{a:Addr}{kvs:List (Key × V)}{A:Around}{E:Value->Shared->Prop}
end
section
variable {X:Cx}{pins:List (Addr × Obj)}{σ:St}{H:Hp}{s:Shared}{a:Addr}{y:V}{u:Value}{A:Around}{E:Value->Shared->Prop}
end
end L2
namespace L2
open PySem PySem.Spec PyProof.Rows
section
variable {X:Cx}
theorem zw0 {bs:List Bool}{its:List Value}{i:Nat}{v:Value} (r:Vals (bs.map V.bl) its) (h:its[i]?=some v):∃b,bs[i]?=some b/\v=.bool b:=by
 have hl:=r.length;rw [List.length_map] at hl;have hi:i < bs.length:=by rw [hl];exact (List.getElem?_eq_some_iff.mp h).1
 obtain ⟨u,hu,ru⟩:=r.get (i:=i) (x:=.bl bs[i]) (by rw [List.getElem?_map,List.getElem?_eq_getElem hi];rfl);rw [h] at hu;obtain rfl:=sI hu;exact ⟨bs[i],List.getElem?_eq_getElem hi,ru⟩
theorem zfv {bs:List Bool}{i:Nat} (hi:i < bs.length):bs.getD i false=bs[i]:=by rw [List.getD_eq_getElem?_getD,List.getElem?_eq_getElem hi];rfl
theorem zlr (bs:List Bool):((List.range bs.length).any fun i=>bs.getD i false)=bs.any id:=by
 rw [Bool.eq_iff_iff,List.any_eq_true,List.any_eq_true];constructor
 ·rintro ⟨i, hi, h⟩;rw [List.mem_range] at hi;refine ⟨bs[i],List.getElem_mem hi,?_⟩;rw [zfv hi] at h;exact h
 ·rintro ⟨b, hb, h⟩;obtain ⟨i,hi,e⟩:=List.mem_iff_getElem.mp hb;refine ⟨i,List.mem_range.mpr hi,?_⟩;rw [zfv hi,e];exact h
theorem znz (bs:List Bool):((List.range bs.length).all fun i=>bs.getD i false)=bs.all id:=by
 rw [Bool.eq_iff_iff,List.all_eq_true,List.all_eq_true];constructor
 ·intro h b hb;obtain ⟨i,hi,e⟩:=List.mem_iff_getElem.mp hb;have:=h i (List.mem_range.mpr hi);rw [zfv hi,e] at this;exact this
 ·intro h i hi;rw [List.mem_range] at hi;rw [zfv hi];exact h _ (List.getElem_mem hi)
theorem zjo {P:Program}{w:World}{A:Around}{bs:List Bool}{its:List Value} (r:Vals (bs.map V.bl) its):TruthOf P w A (fun i v=>its.toArray[i]?=some v) (fun i=>bs.getD i false):=fun i v s Q E hP hQ=>by
 obtain ⟨b,hb,e⟩:=zw0 r (by simpa using hP);subst e;have:bs.getD i false=b:=by rw [List.getD_eq_getElem?_getD,hb];rfl
 have hQ' : Q (bs.getD i false) s:=hQ;rw [this] at hQ';exact wpAny_truthy_bool hQ'
theorem zqh (hc:X.calm=true):zbc X (.builtin "any") (fun xs H Q=>∃(a:Addr) (bs:List Bool),xs=[.ref a]/\SqL X.K H a (bs.map V.bl)/\Q (.bl (bs.any id)) H):=by
 intro pins s σ H xs us Q I r h;obtain ⟨a,bs,rfl,hq,q⟩:=h;obtain ⟨u,rfl,rx⟩:=vals1 r;cases rx;obtain ⟨its,rv,p,hz⟩:=I.list hq;have hl:=rv.length;rw [List.length_map] at hl;have ha:a < s.heap.objs.size:=by obtain ⟨o,e,_⟩:=p.isList;exact Heap.lt_size e
 refine call_any_walk (wpAny_pyIter_list p.isList ?_);refine ⟨s.heap.objs.size,_,[s.heap.objs.size],its.toArray.size,_,_,_,rfl,Walks.list (A:=X.A.in1) (show X.A.in1.handled=none from I.ok.hd hc) _ a (Nat.ne_of_lt ha) its.toArray,⟨⟨_,Heap.get?_push_size _ rfl,rfl,rfl⟩,p.isList.push _⟩,zjo rv,fun h' tk hk=>?_⟩;have e:its.toArray.size=bs.length:=by simp;omega
 rw [e,zlr];refine ⟨.bl _,H,I.kept fun b o hb=>?_,rfl,q⟩;exact hk b o (by intro z;rw [List.mem_singleton] at z;subst z;exact absurd (Heap.lt_size hb) (Nat.lt_irrefl _)) (Heap.get?_push_of_some _ hb)
theorem zp2 (hc:X.calm=true):zbc X (.builtin "all") (fun xs H Q=>∃(a:Addr) (bs:List Bool),xs=[.ref a]/\SqL X.K H a (bs.map V.bl)/\Q (.bl (bs.all id)) H):=by
 intro pins s σ H xs us Q I r h;obtain ⟨a,bs,rfl,hq,q⟩:=h;obtain ⟨u,rfl,rx⟩:=vals1 r;cases rx;obtain ⟨its,rv,p,hz⟩:=I.list hq;have hl:=rv.length;rw [List.length_map] at hl;have ha:a < s.heap.objs.size:=by obtain ⟨o,e,_⟩:=p.isList;exact Heap.lt_size e
 refine call_all_walk (wpAny_pyIter_list p.isList ?_);refine ⟨s.heap.objs.size,_,[s.heap.objs.size],its.toArray.size,_,_,_,rfl,Walks.list (A:=X.A.in1) (show X.A.in1.handled=none from I.ok.hd hc) _ a (Nat.ne_of_lt ha) its.toArray,⟨⟨_,Heap.get?_push_size _ rfl,rfl,rfl⟩,p.isList.push _⟩,zjo rv,fun h' tk hk=>?_⟩;have e:its.toArray.size=bs.length:=by simp;omega
 rw [e,znz];refine ⟨.bl _,H,I.kept fun b o hb=>?_,rfl,q⟩;exact hk b o (by intro z;rw [List.mem_singleton] at z;subst z;exact absurd (Heap.lt_size hb) (Nat.lt_irrefl _)) (Heap.get?_push_of_some _ hb)
theorem zqc:zbc X (.builtin "isinstance") (fun xs H Q=>∃x t c b,xs=[x,.ty c]/\TyOf X.K H x t/\PySem.W.kitOne X.K t (.type c)=some b/\Q (.bl b) H):=by
  intro pins s σ H xs us Q I r h;refine aG fun _ qG=>?_;obtain ⟨x,t,c,b,rfl,ty,e,q⟩:=h;refine qG ?_;clear qG;cases r with
  | cons rx rr =>
    obtain ⟨u,rfl,rc⟩:=vals1 rr;cases (show u=Value.type c from rc);exact zmg I rx ty e fun tk=>⟨.bl b,H,I.tok _,rfl,q⟩
end
end L2
namespace L2
open PySem PySem.Spec PyProof.Rows
noncomputable def zxj (i j:Int):Prop:=Builtin.Int.intBits i<=2 ^ 20/\Builtin.Int.intBits j<=2 ^ 20
theorem ztz {X:Cx}:OpR X (binaryOp .Mult) (rI zxj fun i j=>.int (i * j)):=opI fun _ _ _ _ _ _ _ hc q=>mul_int q (IntMulOk.of_bits hc.1 hc.2)
structure Cal (P:Program) (w:World) (K:PySem.W.Frag) (mg:Str->Option Value) (base:Heap) (n:Nat) (x:Str) (ps:List Str) (sp:Sp):Prop where
 ex:∃f fd,FnOk P w K mg base CX0 n f fd ps sp/\zil K fd ps []/\PySem.W.keepIn K (.ref f)=true/\mg x=some (.ref f)
theorem zvl {X:Cx}{n k:Nat}{x:Str}{ps:List Str}{sp:Sp}{e:Expr}{es:List Expr}{t:TA}{p pos:Pos} (C:Cal X.prog X.w X.K X.mg X.base n x ps sp) (hr:Room k X.A) (hg:Gl X x) (ha:PA X (e::es) t) (hk:n<=k:=by decide)
  (hdb:(x == ("__debug__" : Str))=false:=by decide) (hs:starEach (e::es) X.env=(false,eval e X.env)::starEach es X.env:=by rfl) (hpl:(backTo pos (starEach es X.env)).any (·.1)=false:=by rfl) :
  PE X (.Call (.Name x p) (e::es) [] pos) (zs1 sp [] E0 t):=by
 refine aG fun _ qG=>?_;obtain ⟨f,fd,F,b,kp,m⟩:=C.ex;refine qG ?_;clear qG;exact ztq F (hr.mono hk) hg m kp b .nil zzd ha hdb hs hpl
theorem Same.new {p:Addr}{H:Hp} (h:H p=none) (o:HO):Same H (L2.upd H p o):=fun b u e=>by rw [upd_ne (zac e h)];exact e
theorem SqL.of' {K:PySem.W.Frag}{H:Hp}{a:Addr}{xs:List V} (h:H a=some (.lst xs)):SqL K H a xs:=.inl (.inl h)
noncomputable def MM:Int:=2305843009213693951
noncomputable def big:Nat:=1099511627776
noncomputable def Bits (xs:List Int):Prop:=∀x∈xs,x=0\/x=1
noncomputable def zab (xs:List Int):Int:=xs.foldr (fun b a=>2 * a+b) 0
theorem zr1:bootBuiltins "len" = some (.builtin "len"):=by decide +kernel
theorem zxf:bootBuiltins "abs" = some (.builtin "abs"):=by decide +kernel
theorem zvz:bootBuiltins "any" = some (.builtin "any"):=by decide +kernel
theorem zx0:bootBuiltins "all" = some (.builtin "all"):=by decide +kernel
theorem zfg:bootBuiltins "isinstance" = some (.builtin "isinstance"):=by decide +kernel
theorem zrw:bootBuiltins "int" = some (.type "int"):=by decide +kernel
theorem zut:bootBuiltins "bool" = some (.type "bool"):=by decide +kernel
theorem zrr:bootBuiltins "str" = some (.type "str"):=by decide +kernel
theorem zjx:bootBuiltins "tuple" = some (.type "tuple"):=by decide +kernel
theorem zvb:bootBuiltins "list" = some (.type "list"):=by decide +kernel
end L2
namespace L2
open PySem PySem.Spec PyProof.Rows
theorem zqp {w:Int}{i:Nat} (h0:0 < w) (h:w<=2 ^ (200 * i)):0 < w * 10 ^ 60/\w * 10 ^ 60<=2 ^ (200 * (i+1)):=by
 have e:(2:Int) ^ (200 * (i+1))=2 ^ (200 * i) * 2 ^ 200:=by rw [Nat.mul_add,Int.pow_add]
 rw [e];refine ⟨Int.mul_pos h0 (by decide),?_⟩;have h1:w * 10 ^ 60<=2 ^ (200 * i) * 10 ^ 60:=Int.mul_le_mul_of_nonneg_right h (by decide);have h2:(2:Int) ^ (200 * i) * 10 ^ 60<=2 ^ (200 * i) * 2 ^ 200:=Int.mul_le_mul_of_nonneg_left (by decide) (by omega);omega
theorem zfh {w:Int}{i:Nat} (h0:0<=w) (h:w<=2 ^ (200 * i)) (hi:i<=63):Builtin.Int.intBits w<=2 ^ 20:=by
 have h1:(2:Int) ^ (200 * i) < 2 ^ (200 * i+1):=by rw [Int.pow_succ];have:(0:Int) < 2 ^ (200 * i):=Int.pow_pos (by decide);omega
 have h2:w.natAbs < 2 ^ (200 * i+1):=by
  have:((w.natAbs:Nat):Int) < ((2 ^ (200 * i+1):Nat):Int):=by
   rw [Int.natCast_pow];have e:((w.natAbs:Nat):Int)=w:=by omega
   rw [e];exact Int.lt_of_le_of_lt h h1
  exact Int.ofNat_lt.mp this
 have:=PyProof.Rows.intBits_le h2;omega
theorem zct:∀{xs:List Int},Bits xs->0<=zab xs/\zab xs < 2 ^ xs.length
  | [],_=>by decide
  | x::r,h=>by
    have hx:=h x List.mem_cons_self;have ih:=zct (xs:=r) fun y hy=>h y (List.mem_cons_of_mem _ hy);show 0<=2 * zab r+x/\2 * zab r+x < 2 ^ (r.length+1);rw [Int.pow_succ];omega
end L2
namespace L2
open PySem PySem.Spec PyProof.Rows
noncomputable def zah:Expr->Bool
 | .Starred ..=>false
 | _=>true
theorem zag {e:Expr}{es:List Expr}{env:Env} (h:zah e=true):starEach (e::es) env=(false,eval e env)::starEach es env:=by
 cases e<;>first | rfl | (cases h)
theorem pac {X:Cx}{e:Expr}{es:List Expr}{te:TE}{t:TA} (ha:PE X e te) (hr:PA X es t) (h:zah e=true:=by rfl):PA X (e::es) (zdn te t):=zst ha hr (zag h)
end L2
namespace L2
theorem noSome {α:Type}{a:α}{P:Prop} (h:none=some a):P:=by cases h
open PySem PySem.Spec PyProof.Rows
noncomputable abbrev DKey:=Key ⊕ List Key
inductive W where
 | non | bl (b:Bool) | int (i:Int) | str (x:Str) | tup (xs:List W) | lst (xs:List W) | frl (xs:List W) | dic | dct (ks:List DKey) (vs:List W)
 deriving BEq,Inhabited
mutual
inductive Rep (K:PySem.W.Frag) (F:Hp):W->V->Prop where
 | non:Rep K F .non .non
 | bl (b:Bool):Rep K F (.bl b) (.bl b)
 | int (i:Int):Rep K F (.int i) (.int i)
 | str (x:Str):Rep K F (.str x) (.str x)
 | tup {ws:List W}{a:Addr}{vs:List V} (h:F a=some (.tup vs)) (r:Reps K F ws vs):Rep K F (.tup ws) (.ref a)
 | lst {ws:List W}{a:Addr}{vs:List V} (h:F a=some (.lst vs)) (r:Reps K F ws vs):Rep K F (.lst ws) (.ref a)
 | frl {ws:List W}{a:Addr}{vs:List V} (h:SqL K F a vs) (r:Reps K F ws vs):Rep K F (.frl ws) (.ref a)
 | dic {a:Addr}{kvs:List (Key × V)} (h:F a=some (.dK kvs)):Rep K F .dic (.ref a)
 | dct {a:Addr}{ks:List Key}{ws:List W}{vs:List V} (h:F a=some (.dK (ks.zip vs))) (hl:ks.length=vs.length) (r:Reps K F ws vs):Rep K F (.dct (ks.map .inl) ws) (.ref a)
 | dctT {a:Addr}{ks:List (List Key)}{ws:List W}{vs:List V} (h:F a=some (.dT (ks.zip vs))) (hl:ks.length=vs.length) (r:Reps K F ws vs):Rep K F (.dct (ks.map .inr) ws) (.ref a)
inductive Reps (K:PySem.W.Frag) (F:Hp):List W->List V->Prop where
 | nil:Reps K F [] []
 | cons {w:W}{v:V}{ws:List W}{vs:List V} (h:Rep K F w v) (r:Reps K F ws vs):Reps K F (w::ws) (v::vs)
end
theorem zcu {α:Type}{l:List α}{i j:Nat}{x y:α} (hi:i < l.length) (h:(l.set i x)[j]?=some y):(j=i/\y=x)\/(j≠i/\l[j]?=some y):=by
 by_cases e:j=i
 ·subst e;rw [List.getElem?_set_self hi] at h;exact .inl ⟨rfl,(sI h).symm⟩
 ·rw [List.getElem?_set_ne (Ne.symm e)] at h;exact .inr ⟨e,h⟩
theorem zqw {α:Type}{l:List α}{i:Nat}{x:α} (h:l[i]?=some x):l.set i x=l:=by
 apply List.ext_getElem?;intro j;by_cases e:j=i
 ·subst e;rw [List.getElem?_set_self (List.getElem?_eq_some_iff.mp h).1,h]
 ·rw [List.getElem?_set_ne (Ne.symm e)]
section
variable {K:PySem.W.Frag}{F F' H H' : Hp}
mutual
theorem Rep.mono (s:Same F F'):∀{w:W}{v:V},Rep K F w v->Rep K F' w v
 | _,_,.non=>.non
 | _,_,.bl b=>.bl b
 | _,_,.int i=>.int i
 | _,_,.str x=>.str x
 | _,_,.tup h r=>.tup (s _ _ h) (Reps.mono s r)
 | _,_,.lst h r=>.lst (s _ _ h) (Reps.mono s r)
 | _,_,.frl h r=>.frl (s.seq h) (Reps.mono s r)
 | _,_,.dic h=>.dic (s _ _ h)
 | _,_,.dct h hl r=>.dct (s _ _ h) hl (Reps.mono s r)
 | _,_,.dctT h hl r=>.dctT (s _ _ h) hl (Reps.mono s r)
theorem Reps.mono (s:Same F F'):∀{ws:List W}{vs:List V},Reps K F ws vs->Reps K F' ws vs
 | _,_,.nil=>.nil
 | _,_,.cons h r=>.cons (Rep.mono s h) (Reps.mono s r)
end
theorem Reps.length:∀{ws:List W}{vs:List V},Reps K F ws vs->ws.length=vs.length
 | _,_,.nil=>rfl
 | _,_,.cons _ r=>congrArg (· + 1) (Reps.length r)
theorem Reps.get:∀{ws:List W}{vs:List V}{i:Nat}{w:W},Reps K F ws vs->ws[i]?=some w->∃v,vs[i]?=some v/\Rep K F w v
  | _,_,_,_,.nil,e=>by simp at e
  | _,_,0,_,.cons h _,e=>by simp at e;subst e;exact ⟨_,rfl,h⟩
  | _,_,i+1,w,.cons _ r,e=>by
    obtain ⟨v,h1,h2⟩:=Reps.get (i:=i) (w:=w) r (by simpa using e);exact ⟨v,by simpa using h1,h2⟩
theorem Reps.getV:∀{ws:List W}{vs:List V}{i:Nat}{v:V},Reps K F ws vs->vs[i]?=some v->∃w,ws[i]?=some w/\Rep K F w v
  | _,_,_,_,.nil,e=>by simp at e
  | _,_,0,_,.cons h _,e=>by simp at e;subst e;exact ⟨_,rfl,h⟩
  | _,_,i+1,v,.cons _ r,e=>by
    obtain ⟨w,h1,h2⟩:=Reps.getV (i:=i) (v:=v) r (by simpa using e);exact ⟨w,by simpa using h1,h2⟩
theorem Reps.append:∀{xs ys:List W}{us ws:List V},Reps K F xs us->Reps K F ys ws->Reps K F (xs++ys) (us++ws)
 | _,_,_,_,.nil,s=>s
 | _,_,_,_,.cons h r,s=>.cons h (Reps.append r s)
theorem Reps.take:∀{xs:List W}{us:List V} (n:Nat),Reps K F xs us->Reps K F (xs.take n) (us.take n)
 | _,_,0,_=>.nil
 | _,_,_+1,.nil=>.nil
 | _,_,n+1,.cons h r=>.cons h (Reps.take n r)
theorem Reps.drop:∀{xs:List W}{us:List V} (n:Nat),Reps K F xs us->Reps K F (xs.drop n) (us.drop n)
 | _,_,0,r=>r
 | _,_,_+1,.nil=>.nil
 | _,_,n+1,.cons _ r=>Reps.drop n r
theorem Reps.set {w:W}{v:V} (h:Rep K F w v):∀{xs:List W}{us:List V} (i:Nat),Reps K F xs us->Reps K F (xs.set i w) (us.set i v)
 | _,_,_,.nil=>.nil
 | _,_,0,.cons _ r=>.cons h r
 | _,_,i+1,.cons q r=>.cons q (Reps.set h i r)
theorem Reps.rep {xs:List W}{us:List V} (r:Reps K F xs us):∀k:Nat,Reps K F (List.replicate k xs).flatten (List.replicate k us).flatten
 | 0=>.nil
 | k+1=>by rw [List.replicate_succ,List.replicate_succ,List.flatten_cons,List.flatten_cons];exact r.append (r.rep k)
noncomputable def isIt:W->V->Prop
 | .int i,v=>v=.int i
 | .bl b,v=>v=.bl b
 | _,_=>True
theorem Rep.isIt {w:W}{v:V} (h:Rep K F w v):isIt w v:=by cases h<;>first | rfl | trivial
theorem Reps.uncons {w:W}{ws:List W}{vs:List V} (h:Reps K F (w::ws) vs):∃v us,vs=v::us/\Rep K F w v/\Reps K F ws us:=by
 cases h with
 | cons h r=>exact ⟨_,_,rfl,h,r⟩
theorem Reps.ints:∀{ns:List Int}{vs:List V},Reps K F (ns.map W.int) vs->vs=ns.map V.int:=by
  intro ns
  induction ns with
  | nil=>intro vs h;cases h;rfl
  | cons n ns ih =>
    intro vs h;obtain ⟨v,us,e,h1,h2⟩:=Reps.uncons h;rw [e,ih h2,show v=.int n from h1.isIt];rfl
theorem Reps.ofInts:∀(ns:List Int),Reps K F (ns.map W.int) (ns.map V.int)
 | []=>.nil
 | n::ns=>.cons (.int n) (Reps.ofInts ns)
theorem Reps.bls:∀{bs:List Bool}{vs:List V},Reps K F (bs.map W.bl) vs->vs=bs.map V.bl:=by
  intro ns
  induction ns with
  | nil=>intro vs h;cases h;rfl
  | cons n ns ih =>
    intro vs h;obtain ⟨v,us,e,h1,h2⟩:=Reps.uncons h;rw [e,ih h2,show v=.bl n from h1.isIt];rfl
noncomputable abbrev En:=List (Option (W × Bool))
noncomputable abbrev Prt:=Addr->HO->Prop
inductive OwnR (K:PySem.W.Frag) (F:Hp):W->HO->Prop where
 | lst {ws:List W}{vs:List V} (r:Reps K F ws vs):OwnR K F (.lst ws) (.lst vs)
 | dct {ks:List Key}{ws:List W}{vs:List V} (hl:ks.length=vs.length) (r:Reps K F ws vs):OwnR K F (.dct (ks.map .inl) ws) (.dK (ks.zip vs))
 | dctT {ks:List (List Key)}{ws:List W}{vs:List V} (hl:ks.length=vs.length) (r:Reps K F ws vs):OwnR K F (.dct (ks.map .inr) ws) (.dT (ks.zip vs))
theorem OwnR.mono {w:W}{o:HO} (s:Same F F') (h:OwnR K F w o):OwnR K F' w o:=by
 cases h with
 | lst r=>exact .lst (r.mono s)
 | dct hl r=>exact .dct hl (r.mono s)
 | dctT hl r=>exact .dctT hl (r.mono s)
theorem OwnR.rep {w:W}{o:HO}{a:Addr} (h:OwnR K F w o) (e:F a=some o):Rep K F w (.ref a):=by
 cases h with
 | lst r=>exact .lst e r
 | dct hl r=>exact .dct e hl r
 | dctT hl r=>exact .dctT e hl r
theorem OwnR.list {ws:List W}{o:HO} (h:OwnR K F (.lst ws) o):∃vs,o=.lst vs/\Reps K F ws vs:=by
 cases h with
 | lst r=>exact ⟨_,rfl,r⟩
noncomputable def lams:List Str:=["_law_terms","_law_in_order","_law_poly_of","voted_terms","law"]
noncomputable def lamQ (x:Str):Str:=x++".<locals>."++"<lambda>"
noncomputable def zty (c:Addr) (q:Str) (h:Heap):Prop:=∃oc vs t,h.get? c=some oc/\oc.data=.fields vs/\vs[1]?=some (.str q t)
noncomputable def zuu (K:PySem.W.Frag):Prop:=∀x∈lams,∀x'∈lams,∀c c' P,PySem.W.tabIn K x=some (c,P)->PySem.W.tabIn K x'=some (c',P)->x=x'
noncomputable def zky (K:PySem.W.Frag) (F:Hp) (pr:Prt) (H:Hp):Prop:=zuu K/\∀x∈lams,∀c P,PySem.W.tabIn K x=some (c,P)->∃ps:Array Value,H P=some (.tbl ps)/\F P=none/\(∀o,¬ pr P o)/\TriplesOk ps.toList /\
 ∀pos cv,codeAmong pos ps.toList=some cv->∃c',cv=.ref c'/\F c'=some (.ext (zty c' (lamQ x)))
theorem zky.go {F F' H H' : Hp}{pr pr' : Prt} (T:zky K F pr H) (h1:∀b ps,H b=some (.tbl ps)->F b=none->H' b=some (.tbl ps)/\F' b=none) (h2:Same F F') (h3:∀b ps,H b=some (.tbl ps)->(∀o,¬ pr b o)->∀o,¬ pr' b o):zky K F' pr' H':=⟨T.1,fun x hx c P e=>by
 refine aG fun _ qG=>?_;obtain ⟨ps,a1,a2,a3,a4,a5⟩:=T.2 x hx c P e;refine qG ?_;clear qG;refine ⟨ps,(h1 P ps a1 a2).1,(h1 P ps a1 a2).2,h3 P ps a1 a3,a4,fun pos cv q=>?_⟩;obtain ⟨c',b1,b2⟩:=a5 pos cv q;exact ⟨c',b1,h2 _ _ b2⟩⟩
structure Rel (K:PySem.W.Frag) (F:Hp) (pr:Prt) (en:En) (σ:St) (H:Hp):Prop where
 len:en.length=σ.length
 sub:Same F H
 val:∀(i:Nat) (w:W),en[i]?=some (some (w,false))->∃v,σ[i]?=some (some v)/\Rep K F w v
 own:∀(i:Nat) (w:W),en[i]?=some (some (w,true))->∃(a:Addr) (o:HO) (w' : W),w=w'/\σ[i]?=some (some (V.ref a))/\H a=some o/\F a=none/\OwnR K F w' o
 inj:∀(i j:Nat) (a:Addr) (w w' : W),en[i]?=some (some (w,true))->en[j]?=some (some (w',true))->σ[i]?=some (some (V.ref a))->σ[j]?=some (some (V.ref a))->i=j
 prt:∀b o,pr b o->H b=some o/\F b=none/\∀(i:Nat) (w:W),en[i]?=some (some (w,true))->σ[i]?≠some (some (V.ref b))
 tb:zky K F pr H
noncomputable def Res (K:PySem.W.Frag) (F H:Hp) (pr:Prt) (en:En) (σ:St):W × Bool->V->Prop
 | (w,false),v=>Rep K F w v
 | (w,true),v=>∃(a:Addr) (o:HO) (w' : W),w=w'/\v=V.ref a/\H a=some o/\F a=none/\OwnR K F w' o/\(∀(i:Nat) (w' : W),en[i]?=some (some (w',true))->σ[i]?≠some (some (V.ref a)))/\∀b o,pr b o->b≠a
noncomputable def RepB (K:PySem.W.Frag) (F H:Hp) (w:W) (v:V):Prop:=Rep K F w v\/∃(a:Addr) (o:HO) (w' : W),w=w'/\v=V.ref a/\H a=some o/\OwnR K F w' o
inductive Out (K:PySem.W.Frag) (F H:Hp):W × Bool->V->Hp->Prop where
 | val {w:W}{v:V} (r:Rep K F w v):Out K F H (w,false) v H
 | lst {p:Addr}{ws:List W}{vs:List V} (n:H p=none) (r:Reps K F ws vs):Out K F H (.lst ws,true) (.ref p) (upd H p (.lst vs))
 | tup {p:Addr}{ws:List W}{vs:List V} (n:H p=none) (r:Reps K F ws vs):Out K F H (.tup ws,false) (.ref p) (upd H p (.tup vs))
theorem Same.upd_both {F H:Hp} (s:Same F H) (p:Addr) (o:HO):Same (upd F p o) (upd H p o):=fun b u e=>by
 by_cases hb:b=p
 ·subst hb;rw [upd_same] at e ⊢;exact e
 ·rw [upd_ne hb] at e ⊢;exact s _ _ e
variable {pr:Prt}{en:En}{σ:St}
theorem Rel.lay (R:Rel K F pr en σ H) {p:Addr} (hp:H p=none) (o:HO):Rel K F pr en σ (upd H p o):=by
 have ne:∀a u,H a=some u->a≠p:=fun a u e=>zac e hp;refine ⟨R.len,R.sub.trans (Same.new hp o),R.val,fun i w e=>?_,R.inj,fun q o2 hq=>?_,R.tb.go (fun b ps e f=>⟨by rw [upd_ne (ne b _ e)];exact e,f⟩) (.refl F) fun b ps e h=>h⟩
 ·refine aG fun Gg qG => ?_;obtain ⟨a,vs,ws,h1,h2,h3,h4,h5⟩:=R.own i w e;refine qG ?_;clear qG;exact ⟨a,vs,ws,h1,h2,by rw [upd_ne (ne a _ h3)];exact h3,h4,h5⟩
 ·obtain ⟨h1, h2, h3⟩ := R.prt q o2 hq;exact ⟨by rw [upd_ne (ne _ _ h1)];exact h1,h2,h3⟩
theorem Rel.layF (R:Rel K F pr en σ H) {p:Addr} (hp:H p=none) (o:HO):Rel K (upd F p o) pr en σ (upd H p o):=by
 have ne:∀a u,H a=some u->a≠p:=fun a u e=>zac e hp;have fp:F p=none:=R.sub.free hp;have s:Same F (upd F p o):=Same.new fp o;refine ⟨R.len,R.sub.upd_both p o,fun i w e=>?_,fun i w e=>?_,R.inj,fun q o2 hq=>?_,R.tb.go (fun b ps e f=>⟨by rw [upd_ne (ne b _ e)];exact e,by rw [upd_ne (ne b _ e)];exact f⟩) s fun b ps e h=>h⟩
 ·obtain ⟨v, h1, h2⟩ := R.val i w e;exact ⟨v,h1,h2.mono s⟩
 ·refine aG fun Gg qG => ?_;obtain ⟨a,vs,ws,h1,h2,h3,h4,h5⟩:=R.own i w e;refine qG ?_;clear qG;exact ⟨a,vs,ws,h1,h2,by rw [upd_ne (ne a _ h3)];exact h3,by rw [upd_ne (ne a _ h3)];exact h4,h5.mono s⟩
 ·obtain ⟨h1, h2, h3⟩ := R.prt q o2 hq;exact ⟨by rw [upd_ne (ne _ _ h1)];exact h1,by rw [upd_ne (ne _ _ h1)];exact h2,h3⟩
theorem Out.close {r:W × Bool}{v:V} (R:Rel K F pr en σ H) (o:Out K F H r v H'):∃F',Same F F'/\Rel K F' pr en σ H'/\Res K F' H' pr en σ r v:=by
  cases o with
  | val r=>exact ⟨F,.refl F,R,r⟩
  | @lst p ws vs n r =>
    refine ⟨F,.refl F,R.lay n _,p,_,_,rfl,rfl,upd_same,R.sub.free n,.lst r,fun i w' e z=>?_,fun q o2 hq z=>?_⟩
    · obtain ⟨a, vs, ws, h1, h2, h3, h4, h5⟩ := R.own i w' e
      rw [h2] at z;cases z;rw [n] at h3;exact noSome h3
    · have := (R.prt q o2 hq).1
      rw [z,n] at this;exact noSome this
  | @tup p ws vs n r=>exact ⟨upd F p (.tup vs),Same.new (R.sub.free n) _,R.layF n _,.tup upd_same (r.mono (Same.new (R.sub.free n) _))⟩
theorem Out.mono {r:W × Bool}{v:V} (s:Same F F') (o:Out K F H r v H'):Out K F' H r v H':=by
 cases o with
 | val r=>exact .val (r.mono s)
 | lst n r=>exact .lst n (r.mono s)
 | tup n r=>exact .tup n (r.mono s)
theorem Res.freeze {r:W × Bool}{v:V} (R:Rel K F pr en σ H) (h:Res K F H pr en σ r v):∃F',Same F F'/\Rel K F' pr en σ H/\Rep K F' r.1 v:=by
  obtain ⟨w,b⟩:=r;cases b with
  | false=>exact ⟨F,.refl F,R,h⟩
  | true =>
    refine aG fun _ qG=>?_;obtain ⟨a,vs,ws,rfl,rfl,h1,h2,h3,h4,h5⟩:=h;refine qG ?_;clear qG;have s:Same F (upd F a vs):=Same.new h2 _;have nt:∀ps,vs≠.tbl ps:=fun ps z=>by cases h3<;>cases z
    refine ⟨upd F a vs,s,⟨R.len,fun b u e=>?_,fun i w e=>?_,fun i w e=>?_,R.inj,fun q o2 hq=>?_,R.tb.go (fun b ps e f=>⟨e,by rw [upd_ne (fun z=>by subst z;rw [h1] at e;exact nt ps (sI e))];exact f⟩) s fun b ps e h=>h⟩,(h3.mono s).rep upd_same⟩
    · by_cases hb : b = a
      · subst hb;rw [upd_same] at e;obtain rfl:=sI e;exact h1
      · rw [upd_ne hb] at e;exact R.sub _ _ e
    · obtain ⟨v, q1, q2⟩ := R.val i w e
      exact ⟨v,q1,q2.mono s⟩
    · refine aG fun Gg qG => ?_
      obtain ⟨a',vs',ws',q1,q2,q3,q4,q5⟩:=R.own i w e;refine qG ?_;clear qG;have ne:a'≠a:=fun z=>by subst z;exact h4 i w e q2
      exact ⟨a',vs',ws',q1,q2,q3,by rw [upd_ne ne];exact q4,q5.mono s⟩
    · obtain ⟨q1, q2, q3⟩ := R.prt q o2 hq
      exact ⟨q1,by rw [upd_ne (h5 q o2 hq)];exact q2,q3⟩
theorem Rel.freeze (R:Rel K F pr en σ H) {i:Nat}{w:W}{v:V}{fl:Bool} (e:en[i]?=some (some (w,fl))) (hv:σ[i]?=some (some v)):∃F',Same F F'/\Rel K F' pr (en.set i (some (w,false))) σ H/\Rep K F' w v:=by
  have hi:i < en.length:=(List.getElem?_eq_some_iff.mp e).1;cases fl with
  | false =>
    obtain ⟨v',h1,h2⟩:=R.val i w e;rw [hv] at h1;cases h1;refine ⟨F,.refl F,?_,h2⟩;rw [zqw e];exact R
  | true =>
    refine aG fun _ qG=>?_;obtain ⟨a,vs,ws,e0,h2,h3,h4,h5⟩:=R.own i w e;refine qG ?_;clear qG;subst e0;rw [hv] at h2;cases h2;have s:Same F (upd F a vs):=Same.new h4 _;have nt:∀ps,vs≠.tbl ps:=fun ps z=>by cases h5<;>cases z
    have g:∀j w' b,(en.set i (some (w,false)))[j]?=some (some (w',b))->(j=i/\w'=w/\b=false)\/(j≠i/\en[j]?=some (some (w',b))):=fun j w' b h=>by
      rcases zcu hi h with ⟨z,q⟩ | z
      · cases q;exact .inl ⟨z,rfl,rfl⟩
      · exact .inr z
    refine ⟨upd F a vs,s,⟨by rw [List.length_set];exact R.len,fun b u e'=>?_,fun j w' e'=>?_,fun j w' e'=>?_,fun j k b w1 w2 e1 e2=>?_,fun q o2 hq=>?_,R.tb.go (fun b ps e f=>⟨e,by rw [upd_ne (fun z=>by subst z;rw [h3] at e;exact nt ps (sI e))];exact f⟩) s fun b ps e h=>h⟩,(h5.mono s).rep upd_same⟩
    · by_cases hb : b = a
      · subst hb;rw [upd_same] at e';obtain rfl:=sI e';exact h3
      · rw [upd_ne hb] at e';exact R.sub _ _ e'
    · rcases g j w' false e' with ⟨rfl, rfl, _⟩ | ⟨_, z⟩
      · exact ⟨_,hv,(h5.mono s).rep upd_same⟩
      · obtain ⟨v', q1, q2⟩ := R.val j w' z
        exact ⟨v',q1,q2.mono s⟩
    · rcases g j w' true e' with ⟨_, _, z⟩ | ⟨ne, z⟩
      · cases z
      · refine aG fun Gg qG => ?_
        obtain ⟨a',vs',ws',q1,q2,q3,q4,q5⟩:=R.own j w' z;refine qG ?_;clear qG;have ne2:a'≠a:=fun q=>by subst q;exact ne (R.inj j i a' _ _ z e q2 hv)
        exact ⟨a',vs',ws',q1,q2,q3,by rw [upd_ne ne2];exact q4,q5.mono s⟩
    · rcases g j w1 true e1 with ⟨_, _, z⟩ | ⟨_, z1⟩
      · cases z
      · rcases g k w2 true e2 with ⟨_, _, z⟩ | ⟨_, z2⟩
        · cases z
        · exact R.inj j k b _ _ z1 z2
    · obtain ⟨q1, q2, q3⟩ := R.prt q o2 hq
      have ne:q≠a:=fun z=>by
        have:=q3 i _ e;rw [hv,z] at this;exact this rfl
      refine ⟨q1,by rw [upd_ne ne];exact q2,fun j w' e'=>?_⟩;rcases g j w' true e' with ⟨_,_,z⟩ | ⟨_,z⟩
      · cases z
      · exact q3 j w' z
theorem Rel.repB (R:Rel K F pr en σ H) {i:Nat}{w:W}{fl:Bool}{v:V} (e:en[i]?=some (some (w,fl))) (hv:σ[i]?=some (some v)):RepB K F H w v:=by
  cases fl with
  | false =>
    obtain ⟨v',h1,h2⟩:=R.val i w e;rw [hv] at h1;cases h1;exact .inl h2
  | true =>
    refine aG fun _ qG=>?_;obtain ⟨a,o,ws,h1,h2,h3,h4,h5⟩:=R.own i w e;refine qG ?_;clear qG;rw [hv] at h2;cases h2;exact .inr ⟨a,o,ws,h1,rfl,h3,h5⟩
theorem Rel.has (R:Rel K F pr en σ H) {i:Nat}{w:W}{fl:Bool} (e:en[i]?=some (some (w,fl))):∃v,σ[i]?=some (some v):=by
 cases fl with
 | false=>obtain ⟨v,h,_⟩:=R.val i w e;exact ⟨v,h⟩
 | true=>obtain ⟨a,_,_,_,h,_⟩:=R.own i w e;exact ⟨_,h⟩
theorem Rel.store (R:Rel K F pr en σ H) {i:Nat}{r:W × Bool}{v:V} (h:Res K F H pr en σ r v) (hi:i < en.length):Rel K F pr (en.set i (some r)) (σ.set i (some v)) H:=by
 have hi' : i < σ.length:=by rw [<-R.len];exact hi
 have g:∀j x,(en.set i (some r))[j]?=some (some x)->(j=i/\x=r)\/(j≠i/\en[j]?=some (some x)):=fun j x h=>by
  rcases zcu hi h with ⟨z,q⟩ | z
  ·obtain rfl:=sI q;exact .inl ⟨z,rfl⟩
  ·exact .inr z
 have s1:(σ.set i (some v))[i]?=some (some v):=List.getElem?_set_self hi';have s2:∀j,j≠i->(σ.set i (some v))[j]?=σ[j]?:=fun j hj=>List.getElem?_set_ne (Ne.symm hj);refine ⟨by rw [List.length_set,List.length_set];exact R.len,R.sub,fun j w e=>?_,fun j w e=>?_,fun j k a w1 w2 e1 e2=>?_,fun q o2 hq=>?_,R.tb⟩
 ·rcases g j _ e with ⟨rfl, z⟩ | ⟨hj, z⟩
  ·subst z;exact ⟨v,s1,h⟩
  ·rw [s2 j hj];exact R.val j w z
 ·rcases g j _ e with ⟨rfl, z⟩ | ⟨hj, z⟩
  ·subst z;obtain ⟨a,vs,ws,h1,h2,h3,h4,h5,_⟩:=h;exact ⟨a,vs,ws,h1,by rw [s1,h2],h3,h4,h5⟩
  ·rw [s2 j hj];exact R.own j w z
 ·intro q1 q2;rcases g j _ e1 with ⟨rfl,z1⟩ | ⟨hj,z1⟩
  ·rcases g k _ e2 with ⟨rfl, z2⟩ | ⟨hk, z2⟩
   ·rfl
   ·subst z1;obtain ⟨a',vs,ws,h1,h2,h3,h4,h5,h6,_⟩:=h;rw [s1,h2] at q1;cases q1;rw [s2 k hk] at q2;exact absurd q2 (h6 k _ z2)
  ·rcases g k _ e2 with ⟨rfl, z2⟩ | ⟨hk, z2⟩
   ·subst z2;obtain ⟨a',vs,ws,h1,h2,h3,h4,h5,h6,_⟩:=h;rw [s1,h2] at q2;cases q2;rw [s2 j hj] at q1;exact absurd q1 (h6 j _ z1)
   ·rw [s2 j hj] at q1; rw [s2 k hk] at q2;exact R.inj j k a _ _ z1 z2 q1 q2
 ·obtain ⟨q1, q2, q3⟩ := R.prt q o2 hq;refine ⟨q1,q2,fun j w e=>?_⟩;rcases g j _ e with ⟨rfl,z⟩ | ⟨hj,z⟩
  ·subst z;obtain ⟨a',vs,ws,h1,h2,h3,h4,h5,h6,h7⟩:=h;rw [s1,h2];intro q';cases q';exact h7 q o2 hq rfl
  ·rw [s2 j hj];exact q3 j w z
theorem Rel.changeO (R:Rel K F pr en σ H) {i:Nat}{w w0:W}{a:Addr}{o0:HO} (e:en[i]?=some (some (w,true))) (hv:σ[i]?=some (some (.ref a))) (r:OwnR K F w0 o0):Rel K F pr (en.set i (some (w0,true))) σ (upd H a o0):=by
 have hi:i < en.length:=(List.getElem?_eq_some_iff.mp e).1;refine aG fun _ qG=>?_;obtain ⟨a0,vs,ws,h1,h2,h3,h4,h5⟩:=R.own i w e;refine qG ?_;clear qG;rw [hv] at h2;cases h2;have nt:∀ps,vs≠.tbl ps:=fun ps z=>by cases h5<;>cases z
 have nx:∀φ,vs≠.ext φ:=fun ps z=>by cases h5<;>cases z
 have g:∀j x,(en.set i (some (w0,true)))[j]?=some (some x)->(j=i/\x=(w0,true))\/(j≠i/\en[j]?=some (some x)):=fun j x h=>by
  rcases zcu hi h with ⟨z,q⟩ | z
  ·obtain rfl:=sI q;exact .inl ⟨z,rfl⟩
  ·exact .inr z
 refine ⟨by rw [List.length_set];exact R.len,fun b u hb=>?_,fun j w' e'=>?_,fun j w' e'=>?_,fun j k b w1 w2 e1 e2 q1 q2=>?_,fun q o2 hq=>?_,R.tb.go (fun b ps e f=>⟨by rw [upd_ne (fun z=>by subst z;rw [h3] at e;exact nt ps (sI e))];exact e,f⟩) (.refl F) fun b ps e h=>h⟩
 ·have : b ≠ a := fun z => by subst z; rw [h4] at hb; cases hb
  rw [upd_ne this];exact R.sub _ _ hb
 ·rcases g j _ e' with ⟨_, z⟩ | ⟨_, z⟩
  ·cases z
  ·exact R.val j w' z
 ·rcases g j _ e' with ⟨rfl, z⟩ | ⟨hj, z⟩
  ·cases z;exact ⟨a,o0,w0,rfl,hv,upd_same,h4,r⟩
  ·refine aG fun Gg qG => ?_;obtain ⟨a',vs2,ws2,q1,q2,q3,q4,q5⟩:=R.own j w' z;refine qG ?_;clear qG;have ne:a'≠a:=fun z'=>by subst z';exact hj (R.inj j i a' _ _ z e q2 hv)
   exact ⟨a',vs2,ws2,q1,q2,by rw [upd_ne ne];exact q3,q4,q5⟩
 ·have z1:∃w0,en[j]?=some (some (w0,true)):=by
   rcases g j _ e1 with ⟨rfl,_⟩ | ⟨_,z⟩
   ·exact ⟨_,e⟩
   ·exact ⟨_,z⟩
  have z2:∃w0,en[k]?=some (some (w0,true)):=by
   rcases g k _ e2 with ⟨rfl,_⟩ | ⟨_,z⟩
   ·exact ⟨_,e⟩
   ·exact ⟨_,z⟩
  obtain ⟨_,z1⟩:=z1;obtain ⟨_,z2⟩:=z2;exact R.inj j k b _ _ z1 z2 q1 q2
 ·obtain ⟨q1, q2, q3⟩ := R.prt q o2 hq;have ne:q≠a:=fun z=>by
   have:=q3 i _ e;rw [hv,z] at this;exact this rfl
  refine ⟨by rw [upd_ne ne];exact q1,q2,fun j w' e'=>?_⟩;rcases g j _ e' with ⟨rfl,_⟩ | ⟨_,z⟩
  ·exact q3 j _ e
  ·exact q3 j w' z
theorem Rel.change (R:Rel K F pr en σ H) {i:Nat}{w:W}{a:Addr}{ws' : List W}{vs' : List V} (e:en[i]?=some (some (w,true))) (hv:σ[i]?=some (some (.ref a))) (r:Reps K F ws' vs'):Rel K F pr (en.set i (some (.lst ws',true))) σ (upd H a (.lst vs')):=R.changeO e hv (.lst r)
theorem Rel.ownL (R:Rel K F pr en σ H) {i:Nat}{ws:List W} (e:en[i]?=some (some (.lst ws,true))):∃(a:Addr) (vs:List V) (ws' : List W),W.lst ws=.lst ws'/\σ[i]?=some (some (V.ref a))/\H a=some (.lst vs)/\F a=none/\Reps K F ws' vs:=by
 refine aG fun _ qG=>?_;obtain ⟨a,o,w',e1,h2,h3,h4,h5⟩:=R.own i _ e;refine qG ?_;clear qG;subst e1;obtain ⟨vs,rfl,r⟩:=h5.list;exact ⟨a,vs,ws,rfl,h2,h3,h4,r⟩
end
end L2
namespace L2
open PySem PySem.Spec PyProof.Rows
noncomputable abbrev GE:=En->Option (En × (W × Bool))
noncomputable abbrev GA:=En->Option (En × (W ⊕ Nat))
noncomputable abbrev GT:=En->Option (En × Bool)
noncomputable abbrev GAs:=En->Option (En × List (W ⊕ Nat))
noncomputable abbrev GL:=En->Option (En × List W)
noncomputable def ArgR (K:PySem.W.Frag) (F:Hp) (σ:St):W ⊕ Nat->V->Prop
 | .inl w,v=>Rep K F w v
 | .inr i,v=>σ[i]?=some (some v)
inductive ArgRs (K:PySem.W.Frag) (F:Hp) (σ:St):List (W ⊕ Nat)->List V->Prop where
 | nil:ArgRs K F σ [] []
 | cons {x:W ⊕ Nat}{v:V}{xs:List (W ⊕ Nat)}{vs:List V} (h:ArgR K F σ x v) (r:ArgRs K F σ xs vs):ArgRs K F σ (x::xs) (v::vs)
noncomputable def resA (en:En):W ⊕ Nat->Option W
  | .inl w=>some w
  | .inr i=>match en[i]? with
    | some (some (w,_))=>some w
    | _=>none
section
variable {K:PySem.W.Frag}{F F' H:Hp}{pr:Prt}{en:En}{σ:St}
theorem ArgR.mono (s:Same F F') {x:W ⊕ Nat}{v:V} (h:ArgR K F σ x v):ArgR K F' σ x v:=by
 cases x with
 | inl w=>exact Rep.mono s h
 | inr i=>exact h
theorem ArgR.repB (R:Rel K F pr en σ H) {x:W ⊕ Nat}{v:V}{w:W} (h:ArgR K F σ x v) (e:resA en x=some w):RepB K F H w v:=by
  cases x with
  | inl u=>obtain rfl:=sI e;exact .inl h
  | inr i =>
    unfold resA at e;cases q:en[i]? with
    | none=>simp only [q] at e;exact noSome e
    | some o =>
      cases o with
      | none=>simp only [q] at e;exact noSome e
      | some p =>
        obtain ⟨u,fl⟩:=p;simp only [q] at e;obtain rfl:=sI e;exact R.repB q h
end
noncomputable def tE (K:PySem.W.Frag) (g:GE):TE:=fun σ H Q=>∃F pr en en' r,Rel K F pr en σ H/\g en=some (en',r)/\∀F' H' v,Same F F'->Rel K F' pr en' σ H'->Res K F' H' pr en' σ r v->Q v H'
noncomputable def tA (K:PySem.W.Frag) (g:GA):TE:=fun σ H Q=>∃F pr en en' x,Rel K F pr en σ H/\g en=some (en',x)/\∀F' H' v,Same F F'->Rel K F' pr en' σ H'->ArgR K F' σ x v->Q v H'
noncomputable def tT (K:PySem.W.Frag) (g:GT):TT:=fun σ H Q=>∃F pr en en' b,Rel K F pr en σ H/\g en=some (en',b)/\∀F' H',Same F F'->Rel K F' pr en' σ H'->Q b H'
noncomputable def tAs (K:PySem.W.Frag) (g:GAs):TA:=fun σ H Q=>∃F pr en en' xs,Rel K F pr en σ H/\g en=some (en',xs)/\∀F' H' vs,Same F F'->Rel K F' pr en' σ H'->ArgRs K F' σ xs vs->Q vs H'
theorem PE.wk {X:Cx}{e:Expr}{t t' : TE} (h:PE X e t) (i:∀σ H Q,t' σ H Q->t σ H Q):PE X e t':=fun pins s σ H Q I q=>h pins s σ H Q I (i σ H Q q)
theorem PT.wk {X:Cx}{e:Expr}{t t' : TT} (h:PT X e t) (i:∀σ H Q,t' σ H Q->t σ H Q):PT X e t':=fun pins s σ H Q I q=>h pins s σ H Q I (i σ H Q q)
theorem PW.wk {X:Cx}{e:Expr}{t t' : TT} (h:PW X e t) (i:∀σ H Q,t' σ H Q->t σ H Q):PW X e t':=fun wh pins s σ H Q I q=>h wh pins s σ H Q I (i σ H Q q)
theorem PA.wk {X:Cx}{es:List Expr}{t t' : TA} (h:PA X es t) (i:∀σ H Q,t' σ H Q->t σ H Q):PA X es t':=fun pos pins s σ H Q I q=>h pos pins s σ H Q I (i σ H Q q)
theorem PS.wk {X:Cx}{st:Stmt}{t t' : TS} (h:PS X st t) (i:∀D σ H,t' D σ H->t D σ H):PS X st t':=fun pins s σ H D I q=>h pins s σ H D I (i D σ H q)
theorem PSs.wk {X:Cx}{st:List Stmt}{t t' : TS} (h:PSs X st t) (i:∀D σ H,t' D σ H->t D σ H):PSs X st t':=fun pins s σ H D I q=>h pins s σ H D I (i D σ H q)
theorem PI.wk {X:Cx}{tg e:Expr}{t t' : TI} (h:PI X tg e t) (i:∀σ H R,t' σ H R->t σ H R):PI X tg e t':=fun pins s σ H R I q=>h pins s σ H R I (i σ H R q)
noncomputable def gVar (i:Nat):GE:=fun en=>match en[i]? with
 | some (some (w,_))=>some (en.set i (some (w,false)),(w,false))
 | _=>none
noncomputable def zaa (i:Nat):GA:=fun en=>match en[i]? with
 | some (some (w,true))=>some (en,.inr i)
 | some (some (w,false))=>some (en,.inl w)
 | _=>none
noncomputable def gC (w:W):GE:=fun en=>some (en,(w,false))
noncomputable def gArg (g:GE):GA:=fun en=>(g en).bind fun p=>some (p.1,.inl p.2.1)
noncomputable def gA0:GAs:=fun en=>some (en,[])
noncomputable def gCns (a:GA) (as:GAs):GAs:=fun en=>(a en).bind fun p=>(as p.1).bind fun q=>some (q.1,p.2::q.2)
noncomputable def gOp1 (o:W->Option (W × Bool)) (a:GA):GE:=fun en=>(a en).bind fun p=>(resA p.1 p.2).bind fun w=>(o w).bind fun r=>some (p.1,r)
noncomputable def gOp2 (o:W->W->Option (W × Bool)) (a b:GA):GE:=fun en=>(a en).bind fun p=>(b p.1).bind fun q=>(resA q.1 p.2).bind fun w=>(resA q.1 q.2).bind fun u=>(o w u).bind fun r=>some (q.1,r)
noncomputable def zar (en:En):List (W ⊕ Nat)->Option (List W)
 | []=>some []
 | x::xs=>(resA en x).bind fun w=>(zar en xs).bind fun ws=>some (w::ws)
noncomputable def gOpN (o:List W->Option (W × Bool)) (as:GAs):GE:=fun en=>(as en).bind fun p=>(zar p.1 p.2).bind fun ws=>(o ws).bind fun r=>some (p.1,r)
noncomputable def zam (g:GE):GT:=fun en=>match g en with
 | some (en',(.bl b,_))=>some (en',b)
 | _=>none
noncomputable def gAnd (a b:GE):GE:=fun en=>match a en with
 | some (en',(.bl true,_))=>b en'
 | some (en',(.bl false,_))=>some (en',(.bl false,false))
 | _=>none
noncomputable def gOr (a b:GE):GE:=fun en=>match a en with
 | some (en',(.bl true,_))=>some (en',(.bl true,false))
 | some (en',(.bl false,_))=>b en'
 | _=>none
noncomputable def gNot (a:GE):GE:=fun en=>match a en with
 | some (en',(.bl b,_))=>some (en',(.bl (!b),false))
 | _=>none
noncomputable def zez (a b:GT):GT:=fun en=>match a en with
 | some (en',true)=>b en'
 | some (en',false)=>some (en',false)
 | none=>none
noncomputable def gOrT (a b:GT):GT:=fun en=>match a en with
 | some (en',true)=>some (en',true)
 | some (en',false)=>b en'
 | none=>none
noncomputable def zkz (a:GT):GT:=fun en=>match a en with
 | some (en',b)=>some (en',!b)
 | none=>none
noncomputable def gIf (c:GT) (a b:GE):GE:=fun en=>match c en with
 | some (en',true)=>a en'
 | some (en',false)=>b en'
 | none=>none
section
variable {K:PySem.W.Frag}{σ:St}{H:Hp}
theorem zpi {i:Nat}{Q:VK} (h:tE K (gVar i) σ H Q):tVar i σ H Q:=by
  obtain ⟨F,pr,en,en',r,R,h,q⟩:=h;unfold gVar at h;cases e:en[i]? with
  | none=>simp only [e] at h;exact noSome h
  | some o =>
    cases o with
    | none=>simp only [e] at h;exact noSome h
    | some p =>
      obtain ⟨w,fl⟩:=p;simp only [e] at h;cases h;obtain ⟨v,hv⟩:=R.has e;obtain ⟨F',s,R',z⟩:=R.freeze e hv;exact ⟨v,hv,q F' H v s R' z⟩
theorem zoi {i:Nat}{Q:VK} (h:tA K (zaa i) σ H Q):tVar i σ H Q:=by
  obtain ⟨F,pr,en,en',r,R,h,q⟩:=h;unfold zaa at h;cases e:en[i]? with
  | none=>simp only [e] at h;exact noSome h
  | some o =>
    cases o with
    | none=>simp only [e] at h;exact noSome h
    | some p =>
      obtain ⟨w,fl⟩:=p;cases fl with
      | true =>
        simp only [e] at h;cases h;obtain ⟨v,hv⟩:=R.has e;exact ⟨v,hv,q F H v (.refl F) R hv⟩
      | false =>
        simp only [e] at h;cases h;obtain ⟨v,hv,z⟩:=R.val i w e;exact ⟨v,hv,q F H v (.refl F) R z⟩
theorem zcl {w:W}{v:V}{Q:VK} (hr:∀F,Rep K F w v) (h:tE K (gC w) σ H Q):tC v σ H Q:=by
 obtain ⟨F,pr,en,en',r,R,h,q⟩:=h;cases h;exact q F H v (.refl F) R (hr F)
theorem zfx {g:GE}{Q:VK} (h:tA K (gArg g) σ H Q):tE K g σ H Q:=by
 obtain ⟨F,pr,en,en',x,R,h,q⟩:=h;obtain ⟨⟨e1,r⟩,h1,h⟩:=bS h;cases h;refine ⟨F,pr,en,e1,r,R,h1,fun F1 H1 v s1 R1 z=>?_⟩;obtain ⟨F2,s2,R2,y⟩:=z.freeze R1;exact q F2 H1 v (s1.trans s2) R2 y
theorem zji {Q:List V->Hp->Prop} (h:tAs K gA0 σ H Q):tNil σ H Q:=by
 obtain ⟨F,pr,en,en',x,R,h,q⟩:=h;cases h;exact q F H [] (.refl F) R .nil
theorem zjs {a:GA}{as:GAs}{Q:List V->Hp->Prop} (h:tAs K (gCns a as) σ H Q):tA K a σ H fun x H1=>tAs K as σ H1 fun xs H2=>Q (x::xs) H2:=by
 refine aG fun _ qG=>?_;obtain ⟨F,pr,en,en',x,R,h,q⟩:=h;obtain ⟨⟨e1,y⟩,h1,h⟩:=bS h;obtain ⟨⟨e2,ys⟩,h2,h⟩:=bS h;refine qG ?_;clear qG;cases h;exact ⟨F,pr,en,e1,y,R,h1,fun F1 H1 v s1 R1 a1=>⟨F1,pr,e1,e2,ys,R1,h2,fun F2 H2 vs s2 R2 a2=>q F2 H2 (v::vs) (s1.trans s2) R2 (.cons (a1.mono s2) a2)⟩⟩
noncomputable def OpS (K:PySem.W.Frag) (r:R2) (o:W->W->Option (W × Bool)):Prop:=∀F H w1 w2 v1 v2 rv Q,Same F H->RepB K F H w1 v1->RepB K F H w2 v2->o w1 w2=some rv->(∀v H',Out K F H rv v H'->Q v H')->r v1 v2 H Q
theorem zbz {r:R2}{o:W->W->Option (W × Bool)}{a b:GA}{Q:VK} (ho:OpS K r o) (h:tE K (gOp2 o a b) σ H Q):tOp r (tA K a) (tA K b) σ H Q:=by
 refine aG fun _ qG=>?_;obtain ⟨F,pr,en,en',rv,R,h,q⟩:=h;obtain ⟨⟨e1,x1⟩,h1,h⟩:=bS h;obtain ⟨⟨e2,x2⟩,h2,h⟩:=bS h;obtain ⟨w1,hw1,h⟩:=bS h;obtain ⟨w2,hw2,h⟩:=bS h;obtain ⟨r',hr,h⟩:=bS h;refine qG ?_;clear qG;cases h;refine ⟨F,pr,en,e1,x1,R,h1,fun F1 H1 v1 s1 R1 a1=>⟨F1,pr,e1,e2,x2,R1,h2,fun F2 H2 v2 s2 R2 a2=>?_⟩⟩;refine ho F2 H2 w1 w2 v1 v2 rv Q R2.sub ((a1.mono s2).repB R2 hw1) (a2.repB R2 hw2) hr fun v H' z=>?_;refine aG fun _ qG=>?_;obtain ⟨F3,s3,R3,y⟩:=z.close R2;refine qG ?_;clear qG;exact q F3 H' v (s1.trans (s2.trans s3)) R3 y
noncomputable def OpS1 (K:PySem.W.Frag) (r:V->Hp->VK->Prop) (o:W->Option (W × Bool)):Prop:=∀F H w v rv Q,Same F H->RepB K F H w v->o w=some rv->(∀u H',Out K F H rv u H'->Q u H')->r v H Q
theorem zq4 {r:V->Hp->VK->Prop}{o:W->Option (W × Bool)}{a:GA}{Q:VK} (ho:OpS1 K r o) (h:tE K (gOp1 o a) σ H Q):tUn r (tA K a) σ H Q:=by
 refine aG fun _ qG=>?_;obtain ⟨F,pr,en,en',rv,R,h,q⟩:=h;obtain ⟨⟨e1,x1⟩,h1,h⟩:=bS h;obtain ⟨w1,hw1,h⟩:=bS h;obtain ⟨r',hr,h⟩:=bS h;refine qG ?_;clear qG;cases h;refine ⟨F,pr,en,e1,x1,R,h1,fun F1 H1 v1 s1 R1 a1=>?_⟩;refine ho F1 H1 w1 v1 rv Q R1.sub (a1.repB R1 hw1) hr fun v H' z=>?_;refine aG fun _ qG=>?_;obtain ⟨F3,s3,R3,y⟩:=z.close R1;refine qG ?_;clear qG;exact q F3 H' v (s1.trans s3) R3 y
inductive RepBs (K:PySem.W.Frag) (F H:Hp):List W->List V->Prop where
 | nil:RepBs K F H [] []
 | cons {w:W}{v:V}{ws:List W}{vs:List V} (h:RepB K F H w v) (r:RepBs K F H ws vs):RepBs K F H (w::ws) (v::vs)
theorem ArgRs.repBs {F:Hp}{pr:Prt}{en:En} (R:Rel K F pr en σ H):∀{xs:List (W ⊕ Nat)}{vs:List V}{ws:List W},ArgRs K F σ xs vs->zar en xs=some ws->RepBs K F H ws vs
  | _,_,_,.nil,e=>by obtain rfl:=sI e;exact .nil
  | _,_,_,.cons h r,e=>by
    obtain ⟨w,hw,e⟩:=bS e;obtain ⟨ws,hws,e⟩:=bS e;obtain rfl:=sI e;exact .cons (h.repB R hw) (ArgRs.repBs R r hws)
noncomputable def OpSN (K:PySem.W.Frag) (r:List V->Hp->VK->Prop) (o:List W->Option (W × Bool)):Prop:=∀F H ws vs rv Q,Same F H->RepBs K F H ws vs->o ws=some rv->(∀u H',Out K F H rv u H'->Q u H')->r vs H Q
theorem zfu {r:List V->Hp->VK->Prop}{o:List W->Option (W × Bool)}{as:GAs}{Q:VK} (ho:OpSN K r o) (h:tE K (gOpN o as) σ H Q):tCB r (tAs K as) σ H Q:=by
 refine aG fun _ qG=>?_;obtain ⟨F,pr,en,en',rv,R,h,q⟩:=h;obtain ⟨⟨e1,x1⟩,h1,h⟩:=bS h;obtain ⟨w1,hw1,h⟩:=bS h;obtain ⟨r',hr,h⟩:=bS h;refine qG ?_;clear qG;cases h;refine ⟨F,pr,en,e1,x1,R,h1,fun F1 H1 v1 s1 R1 a1=>?_⟩;refine ho F1 H1 w1 v1 rv Q R1.sub (a1.repBs R1 hw1) hr fun v H' z=>?_;refine aG fun _ qG=>?_;obtain ⟨F3,s3,R3,y⟩:=z.close R1;refine qG ?_;clear qG;exact q F3 H' v (s1.trans s3) R3 y
theorem Res.isBl {F H:Hp}{pr:Prt}{en:En}{σ:St}{b fl:Bool}{v:V} (h:Res K F H pr en σ (.bl b,fl) v):v=.bl b:=by
 cases fl with
 | false=>cases (show Rep K F (.bl b) v from h);rfl
 | true=>obtain ⟨_,_,_,e,_,_,_,q,_⟩:=h;subst e;cases q
theorem zeb {g:GE}{t:TE}{Q:Bool->Hp->Prop} (ht:∀σ H Q,tE K g σ H Q->t σ H Q) (h:tT K (zam g) σ H Q):zws t σ H Q:=by
  obtain ⟨F,pr,en,en',b,R,h,q⟩:=h;unfold zam at h;refine ht σ H _ ?_;cases e:g en with
  | none=>simp only [e] at h;exact noSome h
  | some p =>
    obtain ⟨e1,w,fl⟩:=p;cases w with
    | bl c=>simp only [e] at h;cases h;exact ⟨F,pr,en,_,_,R,e,fun F' H' v s' R' z=>⟨b,z.isBl,q F' H' s' R'⟩⟩
    | _=>simp only [e] at h;exact noSome h
theorem zph {a b:GE}{Q:VK} (h:tE K (gAnd a b) σ H Q):zv3 (tE K a) (tE K b) σ H Q:=by
  refine aG fun _ qG=>?_;obtain ⟨F,pr,en,en',r,R,h,q⟩:=h;refine qG ?_;clear qG;unfold gAnd at h;cases e:a en with
  | none=>simp only [e] at h;exact noSome h
  | some p =>
    obtain ⟨e1,w,fl⟩:=p;cases w with
    | bl c =>
      refine ⟨F,pr,en,_,_,R,e,fun F1 H1 v s1 R1 z=>⟨c,z.isBl,?_⟩⟩;cases c with
      | true =>
        simp only [e] at h;exact iteT ⟨F1,pr,e1,en',r,R1,h,fun F2 H2 v s2 R2 z2=>q F2 H2 v (s1.trans s2) R2 z2⟩
      | false =>
        simp only [e] at h;cases h;exact iteF (q F1 H1 _ s1 R1 (.bl false))
    | _=>simp only [e] at h;exact noSome h
theorem zof {a b:GT}{Q:Bool->Hp->Prop} (h:tT K (zez a b) σ H Q):tAnd (tT K a) (tT K b) σ H Q:=by
  refine aG fun _ qG=>?_;obtain ⟨F,pr,en,en',r,R,h,q⟩:=h;refine qG ?_;clear qG;unfold zez at h;cases e:a en with
  | none=>simp only [e] at h;exact noSome h
  | some p =>
    obtain ⟨e1,c⟩:=p;refine ⟨F,pr,en,_,_,R,e,fun F1 H1 s1 R1=>?_⟩;cases c with
    | true=>simp only [e] at h;exact iteT ⟨F1,pr,e1,en',r,R1,h,fun F2 H2 s2 R2=>q F2 H2 (s1.trans s2) R2⟩
    | false=>simp only [e] at h;cases h;exact iteF (q F1 H1 s1 R1)
theorem zqe {a b:GT}{Q:Bool->Hp->Prop} (h:tT K (gOrT a b) σ H Q):tOr (tT K a) (tT K b) σ H Q:=by
  refine aG fun _ qG=>?_;obtain ⟨F,pr,en,en',r,R,h,q⟩:=h;refine qG ?_;clear qG;unfold gOrT at h;cases e:a en with
  | none=>simp only [e] at h;exact noSome h
  | some p =>
    obtain ⟨e1,c⟩:=p;refine ⟨F,pr,en,_,_,R,e,fun F1 H1 s1 R1=>?_⟩;cases c with
    | false=>simp only [e] at h;exact iteF ⟨F1,pr,e1,en',r,R1,h,fun F2 H2 s2 R2=>q F2 H2 (s1.trans s2) R2⟩
    | true=>simp only [e] at h;cases h;exact iteT (q F1 H1 s1 R1)
theorem zov {a:GT}{Q:Bool->Hp->Prop} (h:tT K (zkz a) σ H Q):tNot (tT K a) σ H Q:=by
  obtain ⟨F,pr,en,en',r,R,h,q⟩:=h;unfold zkz at h;cases e:a en with
  | none=>simp only [e] at h;exact noSome h
  | some p =>
    obtain ⟨e1,c⟩:=p;simp only [e] at h;cases h;exact ⟨F,pr,en,_,_,R,e,fun F1 H1 s1 R1=>q F1 H1 s1 R1⟩
theorem zsw {c:GT}{a b:GE}{Q:VK} (h:tE K (gIf c a b) σ H Q):tIf (tT K c) (tE K a) (tE K b) σ H Q:=by
  refine aG fun _ qG=>?_;obtain ⟨F,pr,en,en',r,R,h,q⟩:=h;refine qG ?_;clear qG;unfold gIf at h;cases e:c en with
  | none=>simp only [e] at h;exact noSome h
  | some p =>
    obtain ⟨e1,d⟩:=p;refine ⟨F,pr,en,_,_,R,e,fun F1 H1 s1 R1=>?_⟩;cases d with
    | true=>simp only [e] at h;exact iteT ⟨F1,pr,e1,en',r,R1,h,fun F2 H2 v s2 R2 z=>q F2 H2 v (s1.trans s2) R2 z⟩
    | false=>simp only [e] at h;exact iteF ⟨F1,pr,e1,en',r,R1,h,fun F2 H2 v s2 R2 z=>q F2 H2 v (s1.trans s2) R2 z⟩
end
noncomputable def za6:List (W ⊕ Nat)->Option (List W)
 | []=>some []
 | .inl w::xs=>(za6 xs).bind fun ws=>some (w::ws)
 | .inr _::_=>none
theorem ArgRs.reps {K:PySem.W.Frag}{F:Hp}{σ:St}:∀{xs:List (W ⊕ Nat)}{vs:List V}{ws:List W},ArgRs K F σ xs vs->za6 xs=some ws->Reps K F ws vs
  | _,_,_,.nil,e=>by obtain rfl:=sI e;exact .nil
  | .inl w::xs,_,_,.cons h r,e=>by
    obtain ⟨ws,hws,e⟩:=bS (show (za6 xs).bind _=_ from e);obtain rfl:=sI e;exact .cons h (ArgRs.reps r hws)
  | .inr i::xs,_,_,.cons h r,e=>by exact noSome e
noncomputable def zgv (as:GAs):GE:=fun en=>(as en).bind fun p=>(za6 p.2).bind fun ws=>if ws.length<=sizeLine then some (p.1,(.tup ws,false)) else none
noncomputable def za8 (as:GAs):GE:=fun en=>(as en).bind fun p=>(za6 p.2).bind fun ws=>if ws.length<=sizeLine then some (p.1,(.lst ws,true)) else none
section
variable {K:PySem.W.Frag}{σ:St}{H:Hp}
theorem zp5 {as:GAs}{Q:VK} (h:tE K (zgv as) σ H Q):tTup (tAs K as) σ H Q:=by
 obtain ⟨F,pr,en,en',r,R,h,q⟩:=h;obtain ⟨⟨e1,xs⟩,h1,h⟩:=bS h;obtain ⟨ws,h2,h⟩:=bS h;split at h
 ·rename_i hz;cases h;refine ⟨F,pr,en,e1,xs,R,h1,fun F1 H1 vs s1 R1 a1=>?_⟩;have rr:=a1.reps h2;refine ⟨by rw [<-rr.length];exact hz,fun p hp=>?_⟩;obtain ⟨F2,s2,R2,z⟩:=(Out.tup (K:=K) hp rr).close R1;exact q F2 _ _ (s1.trans s2) R2 z
 ·exact noSome h
theorem zp8 {as:GAs}{Q:VK} (h:tE K (za8 as) σ H Q):tLst (tAs K as) σ H Q:=by
 refine aG fun _ qG=>?_;obtain ⟨F,pr,en,en',r,R,h,q⟩:=h;obtain ⟨⟨e1,xs⟩,h1,h⟩:=bS h;obtain ⟨ws,h2,h⟩:=bS h;refine qG ?_;clear qG;split at h
 ·rename_i hz;cases h;refine ⟨F,pr,en,e1,xs,R,h1,fun F1 H1 vs s1 R1 a1=>?_⟩;have rr:=a1.reps h2;refine ⟨by rw [<-rr.length];exact hz,fun p hp=>?_⟩;refine aG fun _ qG=>?_;obtain ⟨F2,s2,R2,z⟩:=(Out.lst (K:=K) hp rr).close R1;refine qG ?_;clear qG;exact q F2 _ _ (s1.trans s2) R2 z
 ·exact noSome h
noncomputable def zyn (o o' : W->W->Option (W × Bool)) (a b c:GA):GE:=fun en=>(a en).bind fun p=>(b p.1).bind fun q=>(resA q.1 p.2).bind fun w=>(resA q.1 q.2).bind fun u=>match o w u with
 | some (.bl true,false)=>(c q.1).bind fun t=>(resA t.1 q.2).bind fun u'=>(resA t.1 t.2).bind fun z=>(o' u' z).bind fun r=>some (t.1,r)
 | some (.bl false,false)=>some (q.1,(.bl false,false))
 | _=>none
end
end L2
namespace L2
open PySem PySem.Spec PyProof.Rows
section
variable {K:PySem.W.Frag}{F H:Hp}{v:V}
theorem RepB.int {i:Int} (h:RepB K F H (.int i) v):v=.int i:=by
 rcases h with h | ⟨_,_,_,e,_,_,q⟩
 ·cases h;rfl
 ·subst e;cases q
theorem RepB.bl {b:Bool} (h:RepB K F H (.bl b) v):v=.bl b:=by
 rcases h with h | ⟨_,_,_,e,_,_,q⟩
 ·cases h;rfl
 ·subst e;cases q
theorem RepB.str {x:Str} (h:RepB K F H (.str x) v):v=.str x:=by
 rcases h with h | ⟨_,_,_,e,_,_,q⟩
 ·cases h;rfl
 ·subst e;cases q
theorem RepB.non (h:RepB K F H .non v):v=.non:=by
 rcases h with h | ⟨_,_,_,e,_,_,q⟩
 ·cases h;rfl
 ·subst e;cases q
theorem RepB.lst {ws:List W} (s:Same F H) (h:RepB K F H (.lst ws) v):∃a vs,v=.ref a/\H a=some (.lst vs)/\Reps K F ws vs:=by
 rcases h with h | ⟨a,o,ws',e,e2,h,r⟩
 ·cases h with
  | lst h r=>exact ⟨_,_,rfl,s _ _ h,r⟩
 ·subst e;obtain ⟨vs,rfl,r'⟩:=r.list;exact ⟨a,vs,e2,h,r'⟩
theorem RepB.tup {ws:List W} (s:Same F H) (h:RepB K F H (.tup ws) v):∃a vs,v=.ref a/\H a=some (.tup vs)/\F a=some (.tup vs)/\Reps K F ws vs:=by
 rcases h with h | ⟨_,_,_,e,_,_,q⟩
 ·cases h with
  | tup h r=>exact ⟨_,_,rfl,s _ _ h,h,r⟩
 ·subst e;cases q
theorem RepB.frl {ws:List W} (s:Same F H) (h:RepB K F H (.frl ws) v):∃a vs,v=.ref a/\SqL K H a vs/\Reps K F ws vs:=by
 rcases h with h | ⟨_,_,_,e,_,_,q⟩
 ·cases h with
  | frl h r=>exact ⟨_,_,rfl,s.seq h,r⟩
 ·subst e;cases q
noncomputable def seqL:W->Option (List W)
 | .lst ws=>some ws
 | .frl ws=>some ws
 | _=>none
noncomputable def seqW:W->Option (List W)
 | .lst ws=>some ws
 | .frl ws=>some ws
 | .tup ws=>some ws
 | _=>none
theorem RepB.seqL {w:W}{ws:List W} (s:Same F H) (h:RepB K F H w v) (e:L2.seqL w=some ws):∃a vs,v=.ref a/\SqL K H a vs/\Reps K F ws vs:=by
 cases w with
 | lst xs=>obtain rfl:=sI e;obtain ⟨a,vs,e,h,r⟩:=h.lst s;exact ⟨a,vs,e,SqL.of' h,r⟩
 | frl xs=>obtain rfl:=sI e;exact h.frl s
 | _=>exact noSome e
theorem RepB.seqW {w:W}{ws:List W} (s:Same F H) (h:RepB K F H w v) (e:L2.seqW w=some ws):∃a vs,v=.ref a/\(SqL K H a vs\/SqT K H a vs)/\Reps K F ws vs:=by
 cases w with
 | lst xs=>obtain rfl:=sI e;obtain ⟨a,vs,e,h,r⟩:=h.lst s;exact ⟨a,vs,e,.inl (SqL.of' h),r⟩
 | frl xs=>obtain rfl:=sI e;obtain ⟨a,vs,e,h,r⟩:=h.frl s;exact ⟨a,vs,e,.inl h,r⟩
 | tup xs=>obtain rfl:=sI e;obtain ⟨a,vs,e,h,_,r⟩:=h.tup s;exact ⟨a,vs,e,.inr (.inl (.inl h)),r⟩
 | _=>exact noSome e
end
noncomputable abbrev O2:=W->W->Option (W × Bool)
noncomputable def oI (c:Int->Int->Bool) (g:Int->Int->W):O2
 | .int i,.int j=>if c i j then some (g i j,false) else none
 | _,_=>none
section
variable {K:PySem.W.Frag}
theorem zg6 {c:Int->Int->Bool}{C:Int->Int->Prop}{g:Int->Int->W}{g' : Int->Int->V} (hc:∀i j,c i j=true->C i j) (hg:∀F i j,Rep K F (g i j) (g' i j)):OpS K (rI C g') (oI c g):=fun F H w1 w2 v1 v2 rv Q s r1 r2 e q=>by
  cases w1 with
  | int i =>
    cases w2 with
    | int j =>
      unfold oI at e;simp only at e;split at e
      · rename_i z
        obtain rfl:=sI e;exact ⟨i,j,r1.int,r2.int,hc i j z,q _ _ (.val (hg F i j))⟩
      · exact noSome e
    | _=>exact noSome e
  | _=>exact noSome e
theorem zbh {g:Int->Int->W}{g' : Int->Int->V} (hg:∀F i j,Rep K F (g i j) (g' i j)):OpS K (rI0 g') (oI (fun _ _=>true) g):=fun F H w1 w2 v1 v2 rv Q s r1 r2 e q=>by
  cases w1 with
  | int i =>
    cases w2 with
    | int j=>obtain rfl:=sI e;exact ⟨i,j,r1.int,r2.int,q _ _ (.val (hg F i j))⟩
    | _=>exact noSome e
  | _=>exact noSome e
theorem OpS.or {r r' : R2}{o o' : O2} (h:OpS K r o) (h' : OpS K r' o'):OpS K (fun x y H Q=>r x y H Q\/r' x y H Q) (fun a b=>match o a b with | some p=>some p | none=>o' a b):=fun F H w1 w2 v1 v2 rv Q s r1 r2 e q=>by
 cases z:o w1 w2 with
 | some p=>simp only [z] at e;obtain rfl:=sI e;exact .inl (h F H w1 w2 v1 v2 _ Q s r1 r2 z q)
 | none=>simp only [z] at e;exact .inr (h' F H w1 w2 v1 v2 _ Q s r1 r2 e q)
end
noncomputable def oOr (o o' : O2):O2:=fun a b=>match o a b with | some p=>some p | none=>o' a b
noncomputable def oCat:O2
 | .lst xs,.lst ys=>if xs.length+ys.length<=sizeLine then some (.lst (xs++ys),true) else none
 | _,_=>none
noncomputable def zpv:O2
 | .tup (x::xs),.tup ys=>if (x::xs).length+ys.length<=sizeLine then some (.tup (x::xs++ys),false) else none
 | _,_=>none
noncomputable def zuk:O2
 | .tup [],.tup ys=>some (.tup ys,false)
 | _,_=>none
noncomputable def zqm:O2
 | .str x,.str y=>if x.length+y.length<=sizeLine then some (.str (x++y),false) else none
 | _,_=>none
noncomputable def oRep:O2
 | .lst xs,.int k=>if -(2 ^ 63)<=k/\k < 2 ^ 63/\xs.length * k.toNat<=sizeLine then some (.lst (List.replicate k.toNat xs).flatten,true) else none
 | _,_=>none
section
variable {K:PySem.W.Frag}
theorem zu4:OpS K rCat oCat:=fun F H w1 w2 v1 v2 rv Q s r1 r2 e q=>by
  cases w1 with
  | lst xs =>
    cases w2 with
    | lst ys =>
      unfold oCat at e;simp only at e;split at e
      · rename_i z
        obtain rfl:=sI e;refine aG fun _ qG=>?_;obtain ⟨a,vs,e1,h1,p1⟩:=r1.lst s;obtain ⟨b,us,e2,h2,p2⟩:=r2.lst s;refine qG ?_;clear qG;exact ⟨a,b,vs,us,e1,e2,h1,h2,by rw [<-p1.length,<-p2.length];exact z,fun p hp=>q _ _ (.lst hp (p1.append p2))⟩
      · exact noSome e
    | _=>exact noSome e
  | _=>exact noSome e
theorem zsz:OpS K rRep oRep:=fun F H w1 w2 v1 v2 rv Q s r1 r2 e q=>by
  cases w1 with
  | lst xs =>
    cases w2 with
    | int k =>
      unfold oRep at e;simp only at e;split at e
      · rename_i z
        obtain rfl:=sI e;obtain ⟨a,vs,e1,h1,p1⟩:=r1.lst s;exact ⟨a,k,vs,e1,r2.int,h1,z.1,z.2.1,by rw [<-p1.length];exact z.2.2,fun p hp=>q _ _ (.lst hp (p1.rep _))⟩
      · exact noSome e
    | _=>exact noSome e
  | _=>exact noSome e
theorem zqi:OpS K (zv8 K) zpv:=fun F H w1 w2 v1 v2 rv Q s r1 r2 e q=>by
  cases w1 with
  | tup xs =>
    cases xs with
    | nil=>cases w2<;>exact noSome e
    | cons x xs =>
      cases w2 with
      | tup ys =>
        unfold zpv at e;simp only at e;split at e
        · rename_i z
          obtain rfl:=sI e;refine aG fun _ qG=>?_;obtain ⟨a,vs,e1,h1,f1,p1⟩:=r1.tup s;obtain ⟨b,us,e2,h2,f2,p2⟩:=r2.tup s;refine qG ?_;clear qG;refine ⟨a,b,vs,us,e1,e2,.inl (.inl h1),.inl (.inl h2),?_,by rw [<-p1.length,<-p2.length];exact z,fun hu=>?_,fun _ p hp=>q _ _ (.tup hp (p1.append p2))⟩
          · intro e;subst e;cases p1
          · subst hu
            cases p2;rw [List.append_nil] at q;exact q _ _ (.val (.tup f1 p1))
        · exact noSome e
      | _=>exact noSome e
  | _=>exact noSome e
mutual
inductive DV (H:Hp):V->PyData->Prop where
 | non:DV H .non .none
 | bl (b:Bool):DV H (.bl b) (.bool b)
 | int (i:Int):DV H (.int i) (.int i)
 | str (x:Str):DV H (.str x) (.str x)
 | tup {a:Addr}{vs:List V}{ds:List PyData} (h:H a=some (.tup vs)) (r:DVs H vs ds):DV H (.ref a) (.tuple ds)
 | lst {a:Addr}{vs:List V}{ds:List PyData} (h:H a=some (.lst vs)) (r:DVs H vs ds):DV H (.ref a) (.list ds)
inductive DVs (H:Hp):List V->List PyData->Prop where
 | nil:DVs H [] []
 | cons {v:V}{d:PyData}{vs:List V}{ds:List PyData} (h:DV H v d) (r:DVs H vs ds):DVs H (v::vs) (d::ds)
end
section
variable {X:Cx}{pins:List (Addr × Obj)}{σ:St}{H:Hp}{s:Shared}
mutual
theorem DV.reads (I:Inv X pins σ H s):∀{v:V}{d:PyData}{u:Value},DV H v d->RelV v u->∃as,Reads s.heap u d as
  | _,_,_,.non,r=>by cases (show _=Value.none from r);exact ⟨_,.none⟩
  | _,_,_,.bl b,r=>by cases (show _=Value.bool b from r);exact ⟨_,.bool b⟩
  | _,_,_,.int i,r=>by obtain ⟨t,e⟩:=(show ∃t,_=Value.int i t from r);subst e;exact ⟨_,.int i t⟩
  | _,_,_,.str x,r=>by obtain ⟨t,e⟩:=(show ∃t,_=Value.str x t from r);subst e;exact ⟨_,.str x t⟩
  | _,_,_,.tup h q,r=>by
    cases r;obtain ⟨its,rv,⟨o,e,c,n,dt⟩,_⟩:=I.tuple (.inl (.inl h));obtain ⟨as,ra⟩:=DVs.reads I q rv;exact ⟨as,.tuple e c dt (by simpa using ra)⟩
  | _,_,_,.lst h q,r=>by
    cases r;obtain ⟨its,rv,⟨o,n,e,c,_,dt⟩,_⟩:=I.list (SqL.of' h);obtain ⟨as,ra⟩:=DVs.reads I q rv;exact ⟨_,.list e c dt (by simpa using ra)⟩
theorem DVs.reads (I:Inv X pins σ H s):∀{vs:List V}{ds:List PyData}{us:List Value},DVs H vs ds->Vals vs us->∃as,ReadsAll s.heap us ds as
  | _,_,_,.nil,r=>by cases r;exact ⟨_,.nil⟩
  | _,_,_,.cons h q,r=>by
    cases r with
    | cons r1 r2 =>
      obtain ⟨as,a⟩:=DV.reads I h r1;obtain ⟨bs,b⟩:=DVs.reads I q r2;exact ⟨_,.cons a b⟩
end
end
mutual
noncomputable def dW:W->Option PyData
 | .non=>some .none
 | .bl b=>some (.bool b)
 | .int i=>some (.int i)
 | .str x=>some (.str x)
 | .tup ws=>(dWs ws).bind fun ds=>some (.tuple ds)
 | .lst ws=>(dWs ws).bind fun ds=>some (.list ds)
 | _=>none
noncomputable def dWs:List W->Option (List PyData)
 | []=>some []
 | w::ws=>(dW w).bind fun d=>(dWs ws).bind fun ds=>some (d::ds)
end
section
variable {K:PySem.W.Frag}{F H:Hp}
mutual
theorem rep_dv (s:Same F H):∀{w:W}{v:V}{d:PyData},Rep K F w v->dW w=some d->DV H v d
  | _,_,_,.non,e=>by obtain rfl:=sI e;exact .non
  | _,_,_,.bl b,e=>by obtain rfl:=sI e;exact .bl b
  | _,_,_,.int i,e=>by obtain rfl:=sI e;exact .int i
  | _,_,_,.str x,e=>by obtain rfl:=sI e;exact .str x
  | _,_,_,.tup h r,e=>by
    rw [dW] at e;obtain ⟨ds,e1,e2⟩:=bS e;obtain rfl:=sI e2;exact .tup (s _ _ h) (zes s r e1)
  | _,_,_,.lst h r,e=>by
    rw [dW] at e;obtain ⟨ds,e1,e2⟩:=bS e;obtain rfl:=sI e2;exact .lst (s _ _ h) (zes s r e1)
  | _,_,_,.frl _ _,e=>by exact noSome e
  | _,_,_,.dic _,e=>by exact noSome e
theorem zes (s:Same F H):∀{ws:List W}{vs:List V}{ds:List PyData},Reps K F ws vs->dWs ws=some ds->DVs H vs ds
  | _,_,_,.nil,e=>by cases e;exact .nil
  | _,_,_,.cons h r,e=>by
    rw [dWs] at e;obtain ⟨d,e1,e⟩:=bS e;obtain ⟨ds,e2,e3⟩:=bS e;cases e3;exact .cons (rep_dv s h e1) (zes s r e2)
end
theorem zox {w:W}{v:V}{d:PyData} (s:Same F H) (r:RepB K F H w v) (hd:dW w=some d):DV H v d:=by
  rcases r with r | ⟨a,o,us,z,rfl,h,q⟩
  · exact rep_dv s r hd
  · subst z
    cases q with
    | dct hl q=>exact noSome hd
    | dctT hl q=>exact noSome hd
    | lst q =>
      rw [dW] at hd;obtain ⟨ds,e1,e2⟩:=bS hd;obtain rfl:=sI e2;exact .lst h (zes s q e1)
end
noncomputable def rEqD (g:Bool->Bool):R2:=fun x y H Q=>∃d d',DV H x d/\DV H y d'/\d.canLay0=true/\d'.canLay0=true/\d.depth<=100/\Q (.bl (g (PyData.eqv d d'))) H
theorem zwp {X:Cx}{k:Nat} (hr:Room k X.A):OpR X (compareOp .Eq) (rEqD id):=by
 intro pins s σ H x y v u Q I rx ry h;refine aG fun _ qG=>?_;obtain ⟨d,d',d1,d2,h1,h2,h3,q⟩:=h;obtain ⟨as,ra⟩:=d1.reads I rx;obtain ⟨bs,rb⟩:=d2.reads I ry;refine qG ?_;clear qG;exact SeqAt.compareEq_reads ra rb h1 h2 (by have:=hr.un;omega) ⟨.bl _,H,I,rfl,q⟩
theorem zym {X:Cx}{k:Nat} (hr:Room k X.A):OpR X (compareOp .NotEq) (rEqD not):=by
 intro pins s σ H x y v u Q I rx ry h;refine aG fun _ qG=>?_;obtain ⟨d,d',d1,d2,h1,h2,h3,q⟩:=h;obtain ⟨as,ra⟩:=d1.reads I rx;obtain ⟨bs,rb⟩:=d2.reads I ry;refine qG ?_;clear qG;exact SeqAt.neOverData X.prog X.w X.A X.xe s v u d d' as bs _ ra rb h1 h2 (by have:=hr.un;omega) ⟨.bl _,H,I,rfl,q⟩
noncomputable def eqD (a b:W):Option Bool:=(dW a).bind fun d=>(dW b).bind fun d'=>if d.canLay0 && d'.canLay0 && decide (d.depth<=100) then some (PyData.eqv d d') else none
theorem zrx {K:PySem.W.Frag}{F H:Hp}{w1 w2:W}{v1 v2:V}{k:Bool} (s:Same F H) (r1:RepB K F H w1 v1) (r2:RepB K F H w2 v2) (e:eqD w1 w2=some k):∃d d',DV H v1 d/\DV H v2 d'/\d.canLay0=true/\d'.canLay0=true/\d.depth<=100/\k=PyData.eqv d d':=by
 refine aG fun _ qG=>?_;obtain ⟨d,h1,e⟩:=bS e;obtain ⟨d',h2,e⟩:=bS e;refine qG ?_;clear qG;split at e
 ·rename_i z;rw [Bool.and_eq_true,Bool.and_eq_true] at z;obtain rfl:=sI e;exact ⟨d,d',zox s r1 h1,zox s r2 h2,z.1.1,z.1.2,of_decide_eq_true z.2,rfl⟩
 ·exact noSome e
noncomputable def zsj:W->W->Option Bool
 | .non,.non=>some true | .non,.int _=>some false | .int _,.non=>some false | .non,.bl _=>some false | .bl _,.non=>some false | .non,.str _=>some false | .str _,.non=>some false
 | .int i,.int j=>some (decide (i=j)) | .bl i,.bl j=>some (decide (i=j)) | .str i,.str j=>some (decide (i=j))
 | .int _,.str _=>some false | .str _,.int _=>some false | .bl _,.str _=>some false | .str _,.bl _=>some false
 | _,_=>none
noncomputable def oEq:O2:=fun a b=>match zsj a b with
 | some k=>some (.bl k,false)
 | none=>(eqD a b).bind fun k=>some (.bl k,false)
noncomputable def oNe:O2:=fun a b=>match zsj a b with
 | some k=>some (.bl (!k),false)
 | none=>(eqD a b).bind fun k=>some (.bl (!k),false)
theorem zjn {F H:Hp}{w1 w2:W}{v1 v2:V}{k:Bool} (r1:RepB K F H w1 v1) (r2:RepB K F H w2 v2) (e:zsj w1 w2=some k):scal v1 v2=true/\decide (v1=v2)=k:=by
  cases w1 with
  | non =>
    have:=r1.non;subst this;cases w2 with
    | non=>have:=r2.non;subst this;obtain rfl:=sI e;exact ⟨rfl,by decide⟩
    | int j=>have:=r2.int;subst this;obtain rfl:=sI e;exact ⟨rfl,by simp⟩
    | bl j=>have:=r2.bl;subst this;obtain rfl:=sI e;exact ⟨rfl,by simp⟩
    | str j=>have:=r2.str;subst this;obtain rfl:=sI e;exact ⟨rfl,by simp⟩
    | _=>exact noSome e
  | int i =>
    have:=r1.int;subst this;cases w2 with
    | non=>have:=r2.non;subst this;obtain rfl:=sI e;exact ⟨rfl,by simp⟩
    | int j=>have:=r2.int;subst this;obtain rfl:=sI e;exact ⟨rfl,by simp⟩
    | str j=>have:=r2.str;subst this;obtain rfl:=sI e;exact ⟨rfl,by simp⟩
    | _=>exact noSome e
  | bl i =>
    have:=r1.bl;subst this;cases w2 with
    | non=>have:=r2.non;subst this;obtain rfl:=sI e;exact ⟨rfl,by simp⟩
    | bl j=>have:=r2.bl;subst this;obtain rfl:=sI e;exact ⟨rfl,by simp⟩
    | str j=>have:=r2.str;subst this;obtain rfl:=sI e;exact ⟨rfl,by simp⟩
    | _=>exact noSome e
  | str i =>
    have:=r1.str;subst this;cases w2 with
    | non=>have:=r2.non;subst this;obtain rfl:=sI e;exact ⟨rfl,by simp⟩
    | int j=>have:=r2.int;subst this;obtain rfl:=sI e;exact ⟨rfl,by simp⟩
    | bl j=>have:=r2.bl;subst this;obtain rfl:=sI e;exact ⟨rfl,by simp⟩
    | str j=>have:=r2.str;subst this;obtain rfl:=sI e;exact ⟨rfl,by simp⟩
    | _=>exact noSome e
  | _=>cases w2<;>exact noSome e
theorem zw3:OpS K (fun x y H Q=>rEq x y H Q\/rEqD id x y H Q) oEq:=fun F H w1 w2 v1 v2 rv Q s r1 r2 e q=>by
 unfold oEq at e;split at e
 ·rename_i k hk;obtain rfl:=sI e;obtain ⟨h1,h2⟩:=zjn r1 r2 hk;refine .inl ⟨h1,?_⟩;rw [h2];exact q _ _ (.val (.bl k))
 ·obtain ⟨k, hk, e⟩ := bS e;obtain rfl:=sI e;refine aG fun _ qG=>?_;obtain ⟨d,d',d1,d2,h1,h2,h3,rfl⟩:=zrx s r1 r2 hk;refine qG ?_;clear qG;exact .inr ⟨d,d',d1,d2,h1,h2,h3,q _ _ (.val (.bl _))⟩
theorem zx2:OpS K (fun x y H Q=>rNe x y H Q\/rEqD not x y H Q) oNe:=fun F H w1 w2 v1 v2 rv Q s r1 r2 e q=>by
 unfold oNe at e;split at e
 ·rename_i k hk;obtain rfl:=sI e;obtain ⟨h1,h2⟩:=zjn r1 r2 hk;refine .inl ⟨h1,?_⟩;rw [h2];exact q _ _ (.val (.bl _))
 ·obtain ⟨k, hk, e⟩ := bS e;obtain rfl:=sI e;refine aG fun _ qG=>?_;obtain ⟨d,d',d1,d2,h1,h2,h3,rfl⟩:=zrx s r1 r2 hk;refine qG ?_;clear qG;exact .inr ⟨d,d',d1,d2,h1,h2,h3,q _ _ (.val (.bl _))⟩
noncomputable def isW:W->W->Option Bool
 | .non,.non=>some true
 | _,.non=>some false
 | .bl a,.bl b=>some (decide (a=b))
 | _,.bl _=>some false
 | _,_=>none
noncomputable def oIs:O2:=fun a b=>(isW a b).bind fun k=>some (.bl k,false)
noncomputable def zd0:W->Bool
 | .non=>true
 | .bl _=>true
 | .int _=>true
 | .str _=>true
 | _=>false
noncomputable def eqF:W->W->Bool
 | .non,.non=>true
 | .bl a,.bl b=>a == b
 | .bl a,.int b=>(if a then 1 else 0) == b
 | .int a,.bl b=>a == (if b then 1 else 0)
 | .int a,.int b=>a == b
 | .str a,.str b=>a == b
 | _,_=>false
theorem Rep.flat {F:Hp}{w:W}{v:V} (h:Rep K F w v) (f:zd0 w=true):zew v=true:=by
 cases h<;>first | rfl | (cases f)
theorem Reps.flat {F:Hp}:∀{ws:List W}{vs:List V},Reps K F ws vs->ws.all zd0=true->vs.all zew=true
  | _,_,.nil,_=>rfl
  | _,_,.cons h r,f=>by
    rw [List.all_cons,Bool.and_eq_true] at f ⊢;exact ⟨h.flat f.1,r.flat f.2⟩
theorem zwg {F F' : Hp}{w u:W}{v z:V} (h1:Rep K F w v) (h2:Rep K F' u z) (f1:zd0 w=true) (f2:zd0 u=true):eqV v z=eqF w u:=by
 cases h1<;>first | (cases f1;done) | (cases h2<;>first | rfl | (cases f2))
theorem zrn {F F' : Hp}{u:W}{z:V} (h2:Rep K F' u z) (f2:zd0 u=true):∀{ws:List W}{vs:List V},Reps K F ws vs->ws.all zd0=true->inV z vs=ws.any fun y=>eqF y u
  | _,_,.nil,_=>rfl
  | _,_,.cons h r,f=>by
    rw [List.all_cons,Bool.and_eq_true] at f;have ih:=zrn h2 f2 r f.2;unfold inV at ih ⊢;rw [List.any_cons,List.any_cons,ih,zwg h h2 f.1 f2]
noncomputable def oIn (neg:Bool):O2:=fun a b=>(seqW b).bind fun ws=>if zd0 a && ws.all zd0 then some (.bl (if neg then !(ws.any fun y=>eqF y a) else ws.any fun y=>eqF y a),false) else none
theorem znf (neg:Bool):OpS K (rIn K neg) (oIn neg):=fun F H w1 w2 v1 v2 rv Q s r1 r2 e q=>by
 obtain ⟨ws,hs,e⟩:=bS e;split at e
 ·rename_i z;rw [Bool.and_eq_true] at z;obtain rfl:=sI e;obtain ⟨a,vs,e2,hq,p⟩:=r2.seqW s hs;have r1' : Rep K F w1 v1:=by
   rcases r1 with r | ⟨_,_,_,e,_,_,y⟩
   ·exact r
   ·subst e;cases y<;>cases z.1
  refine ⟨a,vs,e2,hq,r1'.flat z.1,p.flat z.2,?_⟩;rw [zrn r1' z.1 p z.2];exact q _ _ (.val (.bl _))
 ·exact noSome e
noncomputable def oIx:O2
 | a,.int i=>(seqW a).bind fun ws=>(atI ws i).bind fun w=>some (w,false)
 | _,_=>none
theorem zo4 {F:Hp}{ws:List W}{vs:List V}{i:Int}{w:W} (r:Reps K F ws vs) (h:atI ws i=some w):∃v,atI vs i=some v/\Rep K F w v:=by
 unfold atI at h ⊢;rw [<-r.length];obtain ⟨j,h1,h2⟩:=bS h;obtain ⟨v,h3,h4⟩:=r.get h2;exact ⟨v,by rw [h1];exact h3,h4⟩
noncomputable def rIxB (K:PySem.W.Frag):R2:=fun x y H Q=>rIxL K x y H Q\/rIxT K x y H Q
theorem zv5:OpS K (rIxB K) oIx:=fun F H w1 w2 v1 v2 rv Q s r1 r2 e q=>by
  cases w2 with
  | int i =>
    obtain ⟨ws,hs,e⟩:=bS (show (seqW w1).bind _=_ from e);obtain ⟨w,hw,e⟩:=bS e;obtain rfl:=sI e;obtain ⟨a,vs,e1,hq,p⟩:=r1.seqW s hs;obtain ⟨v,hv,rv⟩:=zo4 p hw;rcases hq with hq | hq
    · exact .inl ⟨a,vs,i,v,e1,r2.int,hq,hv,q _ _ (.val rv)⟩
    · exact .inr ⟨a,vs,i,v,e1,r2.int,hq,hv,q _ _ (.val rv)⟩
  | _=>cases w1<;>exact noSome e
noncomputable def oNeg:W->Option (W × Bool)
 | .int i=>some (.int (-i),false)
 | _=>none
theorem zs0:OpS1 K (rU fun i=>.int (-i)) oNeg:=fun F H w v rv Q s r e q=>by
 cases w with
 | int i=>obtain rfl:=sI e;exact ⟨i,r.int,q _ _ (.val (.int _))⟩
 | _=>exact noSome e
end
end L2
namespace L2
open PySem PySem.Spec PyProof.Rows
theorem zk4:∀(ns:List Int) (k:Nat),k<=ns.length->preSum (fun i=>ns.getD i 0) k=(ns.take k).sum
  | ns,0,_=>rfl
  | ns,k+1,h=>by
    have ih:=zk4 ns k (by omega);show preSum (fun i=>ns.getD i 0) k+ns.getD k 0=_;rw [ih,List.take_succ,List.sum_append];have hk:k < ns.length:=by omega
    rw [List.getElem?_eq_getElem hk,List.getD_eq_getElem?_getD,List.getElem?_eq_getElem hk];simp
section
variable {X:Cx}
theorem zl6 {ns:List Int}{its:List Value}{i:Nat}{v:Value} (r:Vals (ns.map V.int) its) (h:its[i]?=some v):∃t,v=.int (ns.getD i 0) t:=by
 have hl:=r.length;rw [List.length_map] at hl;have hi:i < ns.length:=by rw [hl];exact (List.getElem?_eq_some_iff.mp h).1
 obtain ⟨u,hu,ru⟩:=r.get (i:=i) (x:=.int ns[i]) (by rw [List.getElem?_map,List.getElem?_eq_getElem hi];rfl);rw [h] at hu;obtain rfl:=sI hu;obtain ⟨t,e⟩:=ru;exact ⟨t,by rw [e,List.getD_eq_getElem?_getD,List.getElem?_eq_getElem hi];rfl⟩
noncomputable def mx1 (n:Int) (r:List Int):Int:=r.foldl (fun b x=>if x > b then x else b) n
theorem zms (n:Int) (r:List Int):∀k,k<=r.length->(n::r).getD (argBest (fun i j=>decide ((n::r).getD i 0 > (n::r).getD j 0)) k) 0=mx1 n (r.take k)
  | 0,_=>rfl
  | k+1,h=>by
    have ih:=zms n r k (by omega);have hk:k < r.length:=by omega
    have g:(n::r).getD (k+1) 0=r[k]:=by rw [List.getD_cons_succ,List.getD_eq_getElem?_getD,List.getElem?_eq_getElem hk];rfl
    have t:mx1 n (r.take (k+1))=if r[k] > mx1 n (r.take k) then r[k] else mx1 n (r.take k):=by
      unfold mx1;rw [List.take_succ,List.getElem?_eq_getElem hk,List.foldl_append];rfl
    rw [t];show (n::r).getD (if decide ((n::r).getD (k+1) 0 > (n::r).getD (argBest (fun i j=>decide ((n::r).getD i 0 > (n::r).getD j 0)) k) 0)=true then k+1 else argBest _ k) 0=_;rw [ih,g];by_cases c:r[k] > mx1 n (r.take k)
    · rw [decide_eq_true c,if_pos rfl,if_pos c,g]
    · rw [decide_eq_false c,if_neg Bool.false_ne_true,if_neg c,ih]
theorem zod (hc:X.calm=true):zbc X (.builtin "max") (fun xs H Q=>(∃i j,xs=[.int i,.int j]/\Q (.int (if j > i then j else i)) H)\/∃(a:Addr) (n:Int) (r:List Int),xs=[.ref a]/\SqL X.K H a ((n::r).map V.int)/\Q (.int (mx1 n r)) H):=by
 intro pins s σ H xs us Q I r h;rcases h with h | h
 ·exact zmx hc pins s σ H xs us Q I r h
 obtain ⟨a,n,ns,rfl,hq,q⟩:=h;obtain ⟨u,rfl,rx⟩:=vals1 r;cases rx;obtain ⟨its,rv,p,hz⟩:=I.list hq;have hl:=rv.length;rw [List.length_map] at hl;have ha:a < s.heap.objs.size:=by obtain ⟨o,e,_⟩:=p.isList;exact Heap.lt_size e
 have iv:∀(i:Nat) (v:Value),its.toArray[i]?=some v->∃t,v=Value.int ((n::ns).getD i 0) t:=fun i v e=>zl6 rv (by simpa using e);refine call_max_walk (wpAny_pyIter_list p.isList ?_);refine ⟨s.heap.objs.size,_,[s.heap.objs.size],its.toArray.size,_,_,_,rfl,Walks.list (A:=X.A.in1) (show X.A.in1.handled=none from I.ok.hd hc) _ a (Nat.ne_of_lt ha) its.toArray,⟨⟨_,Heap.get?_push_size _ rfl,rfl,rfl⟩,p.isList.push _⟩,fun b hb=>?_,by rw [List.size_toArray,<-hl];exact Nat.succ_pos _,CmpOf.ints_gt _ iv,fun v h' tk hv hk=>?_⟩
 ·rw [Heap.size_push];simp only [List.mem_cons,List.not_mem_nil,or_false] at hb;rcases hb with rfl | rfl
  ·exact Nat.lt_succ_self _
  ·exact Nat.lt_succ_of_lt ha
 ·obtain ⟨t, rfl⟩ := iv _ _ hv;have e:its.toArray.size - 1=ns.length:=by rw [List.size_toArray,<-hl];rfl
  refine ⟨.int _,H,I.kept fun b o hb=>hk b o (fun z=>by rw [List.mem_singleton] at z;subst z;exact absurd (Heap.lt_size hb) (Nat.lt_irrefl _)) (Heap.get?_push_of_some _ hb),⟨_,rfl⟩,?_⟩;rw [e,zms n ns ns.length (Nat.le_refl _),List.take_length];exact q
noncomputable def mn1 (n:Int) (r:List Int):Int:=r.foldl (fun b x=>if x < b then x else b) n
theorem zoy (n:Int) (r:List Int):∀k,k<=r.length->(n::r).getD (argBest (fun i j=>decide ((n::r).getD i 0 < (n::r).getD j 0)) k) 0=mn1 n (r.take k)
  | 0,_=>rfl
  | k+1,h=>by
    have ih:=zoy n r k (by omega);have hk:k < r.length:=by omega
    have g:(n::r).getD (k+1) 0=r[k]:=by rw [List.getD_cons_succ,List.getD_eq_getElem?_getD,List.getElem?_eq_getElem hk];rfl
    have t:mn1 n (r.take (k+1))=if r[k] < mn1 n (r.take k) then r[k] else mn1 n (r.take k):=by
      unfold mn1;rw [List.take_succ,List.getElem?_eq_getElem hk,List.foldl_append];rfl
    rw [t];show (n::r).getD (if decide ((n::r).getD (k+1) 0 < (n::r).getD (argBest (fun i j=>decide ((n::r).getD i 0 < (n::r).getD j 0)) k) 0)=true then k+1 else argBest _ k) 0=_;rw [ih,g];by_cases c:r[k] < mn1 n (r.take k)
    · rw [decide_eq_true c,if_pos rfl,if_pos c,g]
    · rw [decide_eq_false c,if_neg Bool.false_ne_true,if_neg c,ih]
theorem zml (hc:X.calm=true):zbc X (.builtin "min") (fun xs H Q=>(∃i j,xs=[.int i,.int j]/\Q (.int (if j < i then j else i)) H)\/∃(a:Addr) (n:Int) (r:List Int),xs=[.ref a]/\SqL X.K H a ((n::r).map V.int)/\Q (.int (mn1 n r)) H):=by
 intro pins s σ H xs us Q I r h;rcases h with h | h
 ·exact zn7 hc pins s σ H xs us Q I r h
 obtain ⟨a,n,ns,rfl,hq,q⟩:=h;obtain ⟨u,rfl,rx⟩:=vals1 r;cases rx;obtain ⟨its,rv,p,hz⟩:=I.list hq;have hl:=rv.length;rw [List.length_map] at hl;have ha:a < s.heap.objs.size:=by obtain ⟨o,e,_⟩:=p.isList;exact Heap.lt_size e
 have iv:∀(i:Nat) (v:Value),its.toArray[i]?=some v->∃t,v=Value.int ((n::ns).getD i 0) t:=fun i v e=>zl6 rv (by simpa using e);refine call_min_walk (wpAny_pyIter_list p.isList ?_);refine ⟨s.heap.objs.size,_,[s.heap.objs.size],its.toArray.size,_,_,_,rfl,Walks.list (A:=X.A.in1) (show X.A.in1.handled=none from I.ok.hd hc) _ a (Nat.ne_of_lt ha) its.toArray,⟨⟨_,Heap.get?_push_size _ rfl,rfl,rfl⟩,p.isList.push _⟩,fun b hb=>?_,by rw [List.size_toArray,<-hl];exact Nat.succ_pos _,CmpOf.ints_lt _ iv,fun v h' tk hv hk=>?_⟩
 ·rw [Heap.size_push];simp only [List.mem_cons,List.not_mem_nil,or_false] at hb;rcases hb with rfl | rfl
  ·exact Nat.lt_succ_self _
  ·exact Nat.lt_succ_of_lt ha
 ·obtain ⟨t, rfl⟩ := iv _ _ hv;have e:its.toArray.size - 1=ns.length:=by rw [List.size_toArray,<-hl];rfl
  refine ⟨.int _,H,I.kept fun b o hb=>hk b o (fun z=>by rw [List.mem_singleton] at z;subst z;exact absurd (Heap.lt_size hb) (Nat.lt_irrefl _)) (Heap.get?_push_of_some _ hb),⟨_,rfl⟩,?_⟩;rw [e,zoy n ns ns.length (Nat.le_refl _),List.take_length];exact q
theorem ztc:OpR X (binaryOp .Add) (fun x y H Q=>∃a b ys,x=.ref a/\y=.ref b/\SqT X.K H a []/\SqT X.K H b ys/\Q (.ref b) H):=by
 intro pins s σ H x y v u Q I rx ry h;refine aG fun _ qG=>?_;obtain ⟨a,b,ys,rfl,rfl,ha,hb,q⟩:=h;refine qG ?_;clear qG;cases rx;cases ry;refine aG fun _ qG=>?_;obtain ⟨its,r1,p1,_⟩:=I.tuple ha;obtain ⟨its2,r2,p2,_⟩:=I.tuple hb;obtain ⟨⟨c1,d1,t1,l1⟩,g1,k1,n1,q1⟩:=id p1;obtain ⟨⟨c2,d2,t2,l2⟩,g2,k2,n2,q2⟩:=id p2;refine qG ?_;clear qG;simp only at k1 q1 k2 q2;subst k1 q1 k2 q2;have e0:its=[]:=by cases r1;rfl
 subst e0;exact concat_meets (T := "tuple") ⟨_,g1,rfl⟩ ⟨_,g2,rfl⟩ noFill_tuple_add seq_tuple_add PySem.F.slot_tuple_add PySem.F.entry_tuple_add (PySem.F.args_tuple_add_2 _ _)
  (tuple_addW0 a b _ _ n1 n2 d1 d2 l1 l2 rfl) ⟨g1,g2,⟨.ref b,H,I.tok _,rfl,q⟩⟩
theorem zqk:OpR X (binaryOp .FloorDiv) (rI (fun _ j=>0 < j/\j.natAbs.log2 < 9000) fun i j=>.int (i / j)):=opI fun i j _ _ _ _ _ hc q=>by
 have h1:(0:Int) < j:=hc.1;exact floordiv_int (by omega) (by rw [Int.fdiv_eq_ediv_of_nonneg i (by omega)];exact q) (.inl (PyProof.noPylong_of_log2 hc.2))
end
section
variable {K:PySem.W.Frag}
noncomputable def zy7 (K:PySem.W.Frag):R2:=fun x y H Q=>∃a b ys,x=.ref a/\y=.ref b/\SqT K H a []/\SqT K H b ys/\Q (.ref b) H
theorem zp3:OpS K (zy7 K) zuk:=fun F H w1 w2 v1 v2 rv Q s r1 r2 e q=>by
  cases w1 with
  | tup xs =>
    cases xs with
    | cons _ _=>cases w2<;>exact noSome e
    | nil =>
      cases w2 with
      | tup ys =>
        obtain rfl:=sI e;refine aG fun _ qG=>?_;obtain ⟨a,vs,e1,h1,f1,p1⟩:=r1.tup s;obtain ⟨b,us,e2,h2,f2,p2⟩:=r2.tup s;refine qG ?_;clear qG;cases p1;subst e2;exact ⟨a,b,us,e1,rfl,.inl (.inl h1),.inl (.inl h2),q _ _ (.val (.tup f2 p2))⟩
      | _=>exact noSome e
  | _=>exact noSome e
noncomputable def zzg:R2:=fun x y H Q=>∃i j,x=.str i/\y=.str j/\i.length+j.length<=sizeLine/\Q (.str (i++j)) H
theorem zpt:OpS K zzg zqm:=fun F H w1 w2 v1 v2 rv Q s r1 r2 e q=>by
  cases w1 with
  | str x =>
    cases w2 with
    | str y =>
      unfold zqm at e;simp only at e;split at e
      · rename_i z;obtain rfl:=sI e;exact ⟨x,y,r1.str,r2.str,z,q _ _ (.val (.str _))⟩
      · exact noSome e
    | _=>exact noSome e
  | _=>exact noSome e
noncomputable abbrev ON:=List W->Option (W × Bool)
noncomputable def oLen:ON
 | [w]=>(seqW w).bind fun ws=>some (.int ws.length,false)
 | _=>none
theorem oLen_ok:OpSN K (fun xs H Q=>∃p ys,xs=[.ref p]/\(SqL K H p ys\/SqT K H p ys)/\Q (.int ys.length) H) oLen:=fun F H ws vs rv Q s r e q=>by
  cases r with
  | nil=>exact noSome e
  | cons h r =>
    cases r with
    | cons _ _=>exact noSome e
    | nil =>
      obtain ⟨ws,hs,e⟩:=bS (show (seqW _).bind _=_ from e);obtain rfl:=sI e;obtain ⟨a,vs,e1,hq,p⟩:=h.seqW s hs;subst e1;exact ⟨a,vs,rfl,hq,by rw [<-p.length];exact q _ _ (.val (.int _))⟩
noncomputable def oAbs:ON
 | [.int i]=>some (.int (if i < 0 then -i else i),false)
 | _=>none
theorem RepBs.one {F H:Hp}{w:W}{vs:List V} (r:RepBs K F H [w] vs):∃v,vs=[v]/\RepB K F H w v:=by
 cases r with
 | cons h r=>cases r;exact ⟨_,rfl,h⟩
theorem RepBs.two {F H:Hp}{w u:W}{vs:List V} (r:RepBs K F H [w,u] vs):∃v z,vs=[v,z]/\RepB K F H w v/\RepB K F H u z:=by
 cases r with
 | cons h r=>obtain ⟨z,e,h2⟩:=r.one;subst e;exact ⟨_,z,rfl,h,h2⟩
theorem ztd:OpSN K (fun xs H Q=>∃i,xs=[.int i]/\Q (.int (if i < 0 then -i else i)) H) oAbs:=fun F H ws vs rv Q s r e q=>by
  match ws,e with
  | [.int i],e =>
    obtain rfl:=sI e;obtain ⟨v,e1,h⟩:=r.one;subst e1;exact ⟨i,by rw [h.int],q _ _ (.val (.int _))⟩
noncomputable def oInt:ON
 | [.int i]=>some (.int i,false)
 | [.bl k]=>some (.int (if k then 1 else 0),false)
 | _=>none
theorem zs3:OpSN K (fun xs H Q=>(∃i,xs=[.int i]/\Q (.int i) H)\/∃k,xs=[.bl k]/\Q (.int (if k then 1 else 0)) H) oInt:=fun F H ws vs rv Q s r e q=>by
  match ws,e with
  | [.int i],e =>
    obtain rfl:=sI e;obtain ⟨v,e1,h⟩:=r.one;subst e1;exact .inl ⟨i,by rw [h.int],q _ _ (.val (.int _))⟩
  | [.bl k],e =>
    obtain rfl:=sI e;obtain ⟨v,e1,h⟩:=r.one;subst e1;exact .inr ⟨k,by rw [h.bl],q _ _ (.val (.int _))⟩
noncomputable def zj8:ON
 | [.tup ws]=>some (.tup ws,false)
 | [w]=>(seqL w).bind fun ws=>some (.tup ws,false)
 | _=>none
theorem zmn:OpSN K (fun xs H Q=>∃p ys,xs=[.ref p]/\((SqL K H p ys/\∀l,H l=none->Q (.ref l) (upd H l (.tup ys)))\/(SqT K H p ys/\Q (.ref p) H))) zj8:=fun F H ws vs rv Q s r e q=>by
  match ws,e with
  | [.tup ws],e =>
    obtain rfl:=sI e;refine aG fun _ qG=>?_;obtain ⟨v,e1,h⟩:=r.one;obtain ⟨a,us,e2,hq,f,p⟩:=h.tup s;refine qG ?_;clear qG;subst e1 e2;exact ⟨a,us,rfl,.inr ⟨.inl (.inl hq),q _ _ (.val (.tup f p))⟩⟩
  | [.lst ws],e =>
    obtain rfl:=sI e;refine aG fun _ qG=>?_;obtain ⟨v,e1,h⟩:=r.one;obtain ⟨a,us,e2,hq,p⟩:=h.lst s;refine qG ?_;clear qG;subst e1 e2;exact ⟨a,us,rfl,.inl ⟨SqL.of' hq,fun l hl=>q _ _ (.tup hl p)⟩⟩
  | [.frl ws],e =>
    obtain rfl:=sI e;refine aG fun _ qG=>?_;obtain ⟨v,e1,h⟩:=r.one;obtain ⟨a,us,e2,hq,p⟩:=h.frl s;refine qG ?_;clear qG;subst e1 e2;exact ⟨a,us,rfl,.inl ⟨hq,fun l hl=>q _ _ (.tup hl p)⟩⟩
  | [.non],e=>exact noSome e
  | [.bl _],e=>exact noSome e
  | [.int _],e=>exact noSome e
  | [.str _],e=>exact noSome e
  | [.dic],e=>exact noSome e
  | [.dct _ _],e=>exact noSome e
noncomputable def zi0:List W->Option (List Bool)
 | []=>some []
 | .bl b::ws=>(zi0 ws).bind fun bs=>some (b::bs)
 | _=>none
noncomputable def zgk:List W->Option (List Int)
 | []=>some []
 | .int b::ws=>(zgk ws).bind fun bs=>some (b::bs)
 | _=>none
theorem zka:∀{ws:List W}{bs:List Bool},zi0 ws=some bs->ws=bs.map W.bl
  | [],_,e=>by obtain rfl:=sI e;rfl
  | .bl b::ws,_,e=>by
    obtain ⟨bs,h,e⟩:=bS (show (zi0 ws).bind _=_ from e);obtain rfl:=sI e;rw [zka h];rfl
  | .non::_,_,e=>by exact noSome e
  | .int _::_,_,e=>by exact noSome e
  | .str _::_,_,e=>by exact noSome e
  | .tup _::_,_,e=>by exact noSome e
  | .lst _::_,_,e=>by exact noSome e
  | .frl _::_,_,e=>by exact noSome e
theorem zdx:∀{ws:List W}{bs:List Int},zgk ws=some bs->ws=bs.map W.int
  | [],_,e=>by obtain rfl:=sI e;rfl
  | .int b::ws,_,e=>by
    obtain ⟨bs,h,e⟩:=bS (show (zgk ws).bind _=_ from e);obtain rfl:=sI e;rw [zdx h];rfl
  | .non::_,_,e=>by exact noSome e
  | .bl _::_,_,e=>by exact noSome e
  | .str _::_,_,e=>by exact noSome e
  | .tup _::_,_,e=>by exact noSome e
  | .lst _::_,_,e=>by exact noSome e
  | .frl _::_,_,e=>by exact noSome e
theorem zgb:∀(ns:List Bool),zi0 (ns.map W.bl)=some ns
 | []=>rfl
 | n::ns=>by show (zi0 (ns.map W.bl)).bind _=_;rw [zgb ns];rfl
noncomputable def oBl (f:List Bool->Bool):ON
 | [w]=>(seqL w).bind fun ws=>(zi0 ws).bind fun bs=>some (.bl (f bs),false)
 | _=>none
theorem zr6 {f:List Bool->Bool}:OpSN K (fun xs H Q=>∃(a:Addr) (bs:List Bool),xs=[.ref a]/\SqL K H a (bs.map V.bl)/\Q (.bl (f bs)) H) (oBl f):=fun F H ws vs rv Q s r e q=>by
  match ws,e with
  | [w],e =>
    refine aG fun _ qG=>?_;obtain ⟨ws,hs,e⟩:=bS (show (seqL _).bind _=_ from e);obtain ⟨bs,hb,e⟩:=bS e;refine qG ?_;clear qG;obtain rfl:=sI e;refine aG fun _ qG=>?_;obtain ⟨v,e1,h⟩:=r.one;obtain ⟨a,us,e2,hq,p⟩:=h.seqL s hs;refine qG ?_;clear qG;subst e1 e2;rw [zka hb] at p;rw [p.bls] at hq;exact ⟨a,bs,rfl,hq,q _ _ (.val (.bl _))⟩
noncomputable def mnW (w:W):Option (W × Bool):=(seqL w).bind fun ws=>(zgk ws).bind fun ns=>match ns with
 | n::r=>some (.int (mn1 n r),false)
 | []=>none
noncomputable def oMin:ON
 | [.int i,.int j]=>some (.int (if j < i then j else i),false)
 | [w]=>mnW w
 | _=>none
noncomputable def mxW (w:W):Option (W × Bool):=(seqL w).bind fun ws=>(zgk ws).bind fun ns=>match ns with
 | n::r=>some (.int (mx1 n r),false)
 | []=>none
noncomputable def mx2:W->W->Option (W × Bool)
 | .int i,.int j=>some (.int (if j > i then j else i),false)
 | _,_=>none
noncomputable def oMax:ON
 | [w]=>mxW w
 | [a,b]=>mx2 a b
 | _=>none
theorem zs2:OpSN K (fun xs H Q=>(∃i j,xs=[.int i,.int j]/\Q (.int (if j < i then j else i)) H)\/∃(a:Addr) (n:Int) (r:List Int),xs=[.ref a]/\SqL K H a ((n::r).map V.int)/\Q (.int (mn1 n r)) H) oMin:=fun F H ws vs rv Q s r e q=>by
  unfold oMin at e;split at e
  · obtain rfl := sI e
    obtain ⟨v,z,e1,h1,h2⟩:=r.two;subst e1;exact .inl ⟨_,_,by rw [h1.int,h2.int],q _ _ (.val (.int _))⟩
  · rename_i w
    refine aG fun _ qG=>?_;obtain ⟨ws,hs,e⟩:=bS (show (seqL w).bind _=some rv from e);obtain ⟨ns,hb,e⟩:=bS e;obtain ⟨v,e1,h⟩:=r.one;obtain ⟨a,us,e2,hq,p⟩:=h.seqL s hs;refine qG ?_;clear qG;subst e1 e2;rw [zdx hb] at p;rw [p.ints] at hq;cases ns with
    | nil=>exact noSome e
    | cons n ns =>
      obtain rfl:=sI e;exact .inr ⟨a,n,ns,rfl,hq,q _ _ (.val (.int _))⟩
  · exact noSome e
theorem zt8:OpSN K (fun xs H Q=>(∃i j,xs=[.int i,.int j]/\Q (.int (if j > i then j else i)) H)\/∃(a:Addr) (n:Int) (r:List Int),xs=[.ref a]/\SqL K H a ((n::r).map V.int)/\Q (.int (mx1 n r)) H) oMax:=fun F H ws vs rv Q s r e q=>by
  match ws,e with
  | [x,y],e =>
    have e:mx2 x y=some rv:=e;unfold mx2 at e;split at e
    · obtain rfl := sI e
      refine aG fun _ qG=>?_;obtain ⟨v,z,e1,h1,h2⟩:=r.two;refine qG ?_;clear qG;subst e1;exact .inl ⟨_,_,by rw [h1.int,h2.int],q _ _ (.val (.int _))⟩
    · exact noSome e
  | [w],e =>
    refine aG fun _ qG=>?_;obtain ⟨ws,hs,e⟩:=bS (show (seqL w).bind _=some rv from e);obtain ⟨ns,hb,e⟩:=bS e;obtain ⟨v,e1,h⟩:=r.one;obtain ⟨a,us,e2,hq,p⟩:=h.seqL s hs;refine qG ?_;clear qG;subst e1 e2;rw [zdx hb] at p;rw [p.ints] at hq;cases ns with
    | nil=>exact noSome e
    | cons n ns =>
      obtain rfl:=sI e;exact .inr ⟨a,n,ns,rfl,hq,q _ _ (.val (.int _))⟩
noncomputable def tyW:W->Option String
 | .non=>some "NoneType"
 | .bl _=>some "bool"
 | .int _=>some "int"
 | .str _=>some "str"
 | .tup _=>some "tuple"
 | .lst _=>some "list"
 | .frl _=>none
 | .dic=>none
 | .dct _ _=>none
inductive Kd where
 | int | bool | str | tuple | list
 deriving DecidableEq
noncomputable def Kd.nm:Kd->String
 | .int => "int" | .bool => "bool" | .str => "str" | .tuple => "tuple" | .list => "list"
noncomputable def isiW (k:Kd):W->Option Bool
 | .non=>some false
 | .bl _=>some (k == .bool || k == .int)
 | .int _=>some (k == .int)
 | .str _=>some (k == .str)
 | .tup _=>some (k == .tuple)
 | .lst _=>some (k == .list)
 | .frl _=>none
 | .dic=>some false
 | .dct _ _=>none
noncomputable def oIsi (k:Kd) (w:W):Option (W × Bool):=(isiW k w).bind fun b=>some (.bl b,false)
theorem zu6 {F H:Hp}{w:W}{v:V}{k:Kd}{b:Bool} (s:Same F H) (r:RepB K F H w v) (e:isiW k w=some b):∃t,TyOf K H v t/\PySem.W.kitOne K t (.type k.nm)=some b:=by
  cases w with
  | non=>rw [r.non];obtain rfl:=sI e;exact ⟨_,.non,by cases k<;>(with_unfolding_all rfl)⟩
  | bl x=>rw [r.bl];obtain rfl:=sI e;exact ⟨_,.bl x,by cases k<;>(with_unfolding_all rfl)⟩
  | int x=>rw [r.int];obtain rfl:=sI e;exact ⟨_,.int x,by cases k<;>(with_unfolding_all rfl)⟩
  | str x=>rw [r.str];obtain rfl:=sI e;exact ⟨_,.str x,by cases k<;>(with_unfolding_all rfl)⟩
  | tup x=>obtain ⟨a,vs,e1,h,_⟩:=r.tup s;subst e1;obtain rfl:=sI e;exact ⟨_,.tup h,by cases k<;>(with_unfolding_all rfl)⟩
  | lst x=>obtain ⟨a,vs,e1,h,_⟩:=r.lst s;subst e1;obtain rfl:=sI e;exact ⟨_,.lst h,by cases k<;>(with_unfolding_all rfl)⟩
  | frl x=>exact noSome e
  | dic =>
    rcases r with r | ⟨_,_,_,z,_,_,q⟩
    · cases r with
      | dic h=>obtain rfl:=sI e;exact ⟨_,.dK (s _ _ h),by cases k<;>(with_unfolding_all rfl)⟩
    · subst z;cases q
  | dct ks ws=>exact noSome e
noncomputable def rIsi (K:PySem.W.Frag):List V->Hp->VK->Prop:=fun xs H Q=>∃x t c b,xs=[x,.ty c]/\TyOf K H x t/\PySem.W.kitOne K t (.type c)=some b/\Q (.bl b) H
theorem zo8 {k:Kd}{a:GA}{σ:St}{H:Hp}{Q:VK} (h:tE K (gOp1 (oIsi k) a) σ H Q):tCB (rIsi K) (zdn (tA K a) (zdn (tC (.ty k.nm)) tNil)) σ H Q:=by
 refine aG fun _ qG=>?_;obtain ⟨F,pr,en,en',rv,R,h,q⟩:=h;obtain ⟨⟨e1,x1⟩,h1,h⟩:=bS h;obtain ⟨w1,hw1,h⟩:=bS h;obtain ⟨r',hr,h⟩:=bS h;obtain ⟨b,hb,hr⟩:=bS hr;refine qG ?_;clear qG;obtain rfl:=sI hr;cases h;refine ⟨F,pr,en,e1,x1,R,h1,fun F1 H1 v1 s1 R1 a1=>?_⟩;obtain ⟨t,ty,ek⟩:=zu6 R1.sub (a1.repB R1 hw1) hb;exact ⟨v1,t,_,b,rfl,ty,ek,q F1 H1 _ s1 R1 (.bl b)⟩
noncomputable abbrev GO:=En->Option (En × Option Int)
noncomputable def zbm:GO:=fun en=>some (en,none)
noncomputable def zeo (g:GE):GO:=fun en=>match g en with
 | some (en',(.int i,_))=>some (en',some i)
 | _=>none
noncomputable def tO (K:PySem.W.Frag) (g:GO):TO:=fun σ H Q=>∃F pr en en' o,Rel K F pr en σ H/\g en=some (en',o)/\∀F' H',Same F F'->Rel K F' pr en' σ H'->Q o H'
theorem Res.isInt {F H:Hp}{pr:Prt}{en:En}{σ:St}{i:Int}{fl:Bool}{v:V} (h:Res K F H pr en σ (.int i,fl) v):v=.int i:=by
 cases fl with
 | false=>cases (show Rep K F (.int i) v from h);rfl
 | true=>obtain ⟨_,_,_,e,_,_,_,q,_⟩:=h;subst e;cases q
theorem zjf {σ:St}{H:Hp}{Q:Option Int->Hp->Prop} (h:tO K zbm σ H Q):zoc σ H Q:=by
 obtain ⟨F,pr,en,en',o,R,h,q⟩:=h;cases h;exact q F H (.refl F) R
theorem zm5 {g:GE}{σ:St}{H:Hp}{Q:Option Int->Hp->Prop} (h:tO K (zeo g) σ H Q):zvu (tE K g) σ H Q:=by
  refine aG fun _ qG=>?_;obtain ⟨F,pr,en,en',o,R,h,q⟩:=h;refine qG ?_;clear qG;unfold zeo at h;cases e:g en with
  | none=>simp only [e] at h;exact noSome h
  | some p =>
    obtain ⟨e1,w,fl⟩:=p;cases w with
    | int c=>simp only [e] at h;cases h;exact ⟨F,pr,en,_,_,R,e,fun F' H' v s' R' z=>⟨c,z.isInt,q F' H' s' R'⟩⟩
    | _=>simp only [e] at h;exact noSome h
open HT in
theorem zkn {prog:Program}{w:World}{A:Around}{E:Value->Shared->Prop}{s:Shared}{t sl:Addr}{items:Array Value}{vl vu:Value}{lo hi:Option Int}{Q:Value->Shared->Prop} (ht:IsTup s.heap t items) (hs:s.heap.IsSliceOf sl vl vu .none) (pl:IsPart vl lo) (pu:IsPart vu hi)
  (h0:sIx items.size 0 lo=0) (h1:sIx items.size items.size hi=items.size) (h:Q (.ref t) s):wpAny (model prog w) A (getItem (.ref t) (.ref sl)) Q E s:=by
 obtain ⟨os,g1,g2,_⟩:=id hs;have ty:s.TypeIs (.ref sl) "slice" := ⟨os,g1,g2⟩;unfold getItem
 try with_reducible refine wpAny_holding ?_
 first | refine wpAny_bind (wpAny_pure ?_) | skip
 refine wpAny_bind (wpAny_sequenceKey ht.typeIs (by decide) ?_);refine wpAny_bind (wpAny_callSpecial?_slot (name:=Str.ofString "__getitem__") ht.typeIs PyProof.Rows.slot_tuple_getitem (wpAny_call_entry PyProof.Rows.slot_tuple_getitem ht.typeIs entry_tuple_getitem ?_ (args_tuple_getitem _ _)));show wpAny _ _ (Builtin.Tuple.tupleItemsOf (.ref t) >>= _) _ _ s;refine wpAny_bind (tupleItemsOf_ ht ?_);refine wpAny_bind (wpAny_typeOf ty ?_);rw [if_pos (by decide)];refine wpAny_bind (zb7 hs pl pu ?_);rw [h0,h1];show wpAny _ _ (if ((((0:Nat):Int) == 0 && (1:Int) == 1 && (items.size - 0) == items.size)=true) then _ else _) _ _ s;rw [if_pos (by simp)];unfold Builtin.Tuple.tupleIsExact;refine wpAny_bind (wpAny_bind (wpAny_typeOf ht.typeIs (wpAny_pure ?_)));rw [if_pos (by decide)];refine wpAny_bind (wpAny_rule (wpAny_pure ⟨_,rfl,?_⟩));exact wpAny_pure h
noncomputable def rSlW (K:PySem.W.Frag):V->Option Int->Option Int->Hp->VK->Prop:=fun x lo hi H Q=>∃a xs,x=.ref a/\SqT K H a xs/\HT.sIx xs.length 0 lo=0/\HT.sIx xs.length xs.length hi=xs.length/\Q x H
theorem zuc {X:Cx}:SlR X (rSlW X.K):=by
 intro pins s σ H x v vl vu lo hi sl Q I rx hs pl pu h;refine aG fun _ qG=>?_;obtain ⟨a,xs,rfl,hx,h0,h1,q⟩:=h;refine qG ?_;clear qG;cases rx;refine aG fun _ qG=>?_;obtain ⟨its,r,ht,hz⟩:=I.tuple hx;refine qG ?_;clear qG;have hlen:its.toArray.size=xs.length:=by rw [List.size_toArray];exact r.length.symm
 exact ⟨"tuple",_,PyProof.Rows.slot_tuple_getitem.lookup,ht.typeIs,zkn ht hs pl pu (by rw [hlen];exact h0) (by rw [hlen];exact h1) ⟨.ref a,H,I,rfl,q⟩⟩
noncomputable def cutW (xs:List W) (lo hi:Option Int):List W:=(xs.drop (HT.sIx xs.length 0 lo)).take (HT.sIx xs.length xs.length hi - HT.sIx xs.length 0 lo)
noncomputable def oSl (w:W) (lo hi:Option Int):Option (W × Bool):=match w with
 | .lst ws=>some (.lst (cutW ws lo hi),true)
 | .frl ws=>some (.lst (cutW ws lo hi),true)
 | .tup ws=>some (.tup (cutW ws lo hi),false)
 | _=>none
noncomputable def rSlB (K:PySem.W.Frag):V->Option Int->Option Int->Hp->VK->Prop:=fun x lo hi H Q=>(rSlL K x lo hi H Q\/rSlT K x lo hi H Q)\/rSlW K x lo hi H Q
theorem zv7 {F H:Hp}{w:W}{v:V}{lo hi:Option Int}{rv:W × Bool}{Q:VK} (s:Same F H) (r:RepB K F H w v) (e:oSl w lo hi=some rv) (q:∀u H',Out K F H rv u H'->Q u H'):rSlB K v lo hi H Q:=by
  have cut:∀{ws:List W}{vs:List V},Reps K F ws vs->Reps K F (cutW ws lo hi) (cutV vs lo hi):=fun {ws vs} p=>by
    unfold cutW cutV;rw [<-p.length];exact (p.drop _).take _
  cases w with
  | lst ws=>obtain rfl:=sI e;obtain ⟨a,vs,e1,h,p⟩:=r.lst s;exact .inl (.inl ⟨a,vs,e1,SqL.of' h,fun l hl=>q _ _ (.lst hl (cut p))⟩)
  | frl ws=>obtain rfl:=sI e;obtain ⟨a,vs,e1,h,p⟩:=r.frl s;exact .inl (.inl ⟨a,vs,e1,h,fun l hl=>q _ _ (.lst hl (cut p))⟩)
  | tup ws =>
    obtain rfl:=sI e;obtain ⟨a,vs,e1,h,hf,p⟩:=r.tup s;by_cases y:HT.sIx vs.length 0 lo=0/\HT.sIx vs.length vs.length hi=vs.length
    · refine .inr ⟨a, vs, e1, .inl (.inl h), y.1, y.2, ?_⟩
      have ew:cutW ws lo hi=ws:=by
        unfold cutW;rw [p.length,y.1,y.2,List.drop_zero,Nat.sub_zero,<-p.length,List.take_length]
      rw [ew] at q;subst e1;exact q _ _ (.val (.tup hf p))
    · exact .inl (.inr ⟨a,vs,e1,.inl (.inl h),y,fun l hl=>q _ _ (.tup hl (cut p))⟩)
  | _=>exact noSome e
noncomputable def gSl (a:GA) (lo hi:GO):GE:=fun en=>(a en).bind fun p=>(lo p.1).bind fun l=>(hi l.1).bind fun h=>(resA h.1 p.2).bind fun w=>(oSl w l.2 h.2).bind fun r=>some (h.1,r)
theorem zve {a:GA}{lo hi:GO}{σ:St}{H:Hp}{Q:VK} (h:tE K (gSl a lo hi) σ H Q):tSl (rSlB K) (tA K a) (tO K lo) (tO K hi) σ H Q:=by
 refine aG fun _ qG=>?_;obtain ⟨F,pr,en,en',rv,R,h,q⟩:=h;obtain ⟨⟨e1,x1⟩,h1,h⟩:=bS h;obtain ⟨⟨e2,l⟩,h2,h⟩:=bS h;obtain ⟨⟨e3,u⟩,h3,h⟩:=bS h;obtain ⟨w1,hw1,h⟩:=bS h;obtain ⟨r',hr,h⟩:=bS h;refine qG ?_;clear qG;cases h;refine ⟨F,pr,en,e1,x1,R,h1,fun F1 H1 v1 s1 R1 a1=>⟨F1,pr,e1,e2,l,R1,h2,fun F2 H2 s2 R2=>⟨F2,pr,e2,e3,u,R2,h3,fun F3 H3 s3 R3=>?_⟩⟩⟩;refine zv7 R3.sub ((a1.mono (s2.trans s3)).repB R3 hw1) hr fun v H' z=>?_;refine aG fun _ qG=>?_;obtain ⟨F4,s4,R4,y⟩:=z.close R3;refine qG ?_;clear qG;exact q F4 H' v (s1.trans (s2.trans (s3.trans s4))) R4 y
end
end L2
namespace L2
open PySem PySem.Spec PyProof.Rows
structure ItOk (K:PySem.W.Frag) (F:Hp) (J:It) (ws:List W):Prop where
 go:∀i H,Same F H->i < ws.length->J.go i H
 stop:∀H,Same F H->J.stop ws.length H
 yld:∀i H x H',Same F H->i < ws.length->J.yld i H x H'->∃w,ws[i]?=some w/\Out K F H (w,false) x H'
noncomputable def tI (K:PySem.W.Frag) (g:GL):TI:=fun σ H R=>∃F pr en en' ws,Rel K F pr en σ H/\g en=some (en',ws)/\∀F' H' J,Same F F'->Rel K F' pr en' σ H'->ItOk K F' J ws->R J H'
section
variable {K:PySem.W.Frag}{F H:Hp}
theorem zbd {F F' : Hp}{a:Addr}{vs:List V} (s:Same F F') (h:SqT K F a vs):SqT K F' a vs:=by
 rcases h with (h | ⟨o,h⟩) | h
 ·exact .inl (.inl (s _ _ h))
 ·exact .inl (.inr ⟨o,s _ _ h⟩)
 ·exact .inr h
theorem zfs {a:Addr}{vs:List V}{ws:List W} (h:SqL K F a vs) (r:Reps K F ws vs):ItOk K F (Itl K a) ws where
 go:=fun i H s hi=>⟨vs,vs[i]'(by rw [<-r.length];exact hi),s.seq h,by rw [List.getElem?_eq_getElem]⟩
 stop:=fun H s=>⟨vs,s.seq h,by rw [r.length];exact Nat.le_refl _⟩
 yld:=fun i H x H' s hi y=>by
  obtain ⟨e,y⟩:=y;subst e;obtain ⟨w,e,q⟩:=r.getV (y vs (s.seq h));exact ⟨w,e,.val q⟩
theorem zr2 {a:Addr}{vs:List V}{ws:List W} (h:SqT K F a vs) (r:Reps K F ws vs):ItOk K F (Itt K a) ws where
 go:=fun i H s hi=>⟨vs,vs[i]'(by rw [<-r.length];exact hi),zbd s h,by rw [List.getElem?_eq_getElem]⟩
 stop:=fun H s=>⟨vs,zbd s h,by rw [r.length];exact Nat.le_refl _⟩
 yld:=fun i H x H' s hi y=>by
  obtain ⟨e,y⟩:=y;subst e;obtain ⟨w,e,q⟩:=r.getV (y vs (zbd s h));exact ⟨w,e,.val q⟩
noncomputable def rngW (lo:Int) (n:Nat):List W:=(List.range n).map fun k=>W.int (lo+(k:Nat))
theorem zq3 (lo:Int) (n:Nat):ItOk K F (Itr lo n) (rngW lo n) where
 go:=fun i H s hi=>by unfold rngW at hi;rw [List.length_map,List.length_range] at hi;exact hi
 stop:=fun H s=>by unfold rngW;rw [List.length_map,List.length_range];exact Nat.le_refl n
 yld:=fun i H x H' s hi y=>by
  obtain ⟨e,y⟩:=y;subst e y;unfold rngW at hi ⊢;rw [List.length_map,List.length_range] at hi;exact ⟨_,by rw [List.getElem?_map,List.getElem?_range hi];rfl,.val (.int _)⟩
noncomputable def zde (ws:List W) (k:Nat):List W:=match ws with
 | []=>[]
 | w::ws=>.tup [.int k,w]::zde ws (k+1)
theorem za4:∀(ws:List W) (k:Nat),(zde ws k).length=ws.length
 | [],_=>rfl
 | _::ws,k=>congrArg (· + 1) (za4 ws (k+1))
theorem zca:∀{ws:List W}{k i:Nat}{w:W},ws[i]?=some w->(zde ws k)[i]?=some (.tup [.int (k+i:Nat),w])
  | [],_,_,_,e=>by simp at e
  | w::ws,k,0,_,e=>by simp at e;subst e;rfl
  | w::ws,k,i+1,u,e=>by
    have:=zca (ws:=ws) (k:=k+1) (i:=i) (w:=u) (by simpa using e);show (zde ws (k+1))[i]?=_;rw [this];have:k+1+i=k+(i+1):=by omega
    rw [this]
theorem ztk {a:Addr}{vs:List V}{ws:List W} (h:SqL K F a vs) (r:Reps K F ws vs):ItOk K F (Ite K a) (zde ws 0) where
 go:=fun i H s hi=>by rw [za4] at hi;exact ⟨vs,vs[i]'(by rw [<-r.length];exact hi),s.seq h,by rw [List.getElem?_eq_getElem]⟩
 stop:=fun H s=>⟨vs,s.seq h,by rw [za4,r.length];exact Nat.le_refl _⟩
 yld:=fun i H x H' s hi y=>by
  refine aG fun _ qG=>?_;obtain ⟨p,v,e,hp,e2,y⟩:=y;refine qG ?_;clear qG;subst e e2;obtain ⟨w,e,q⟩:=r.getV (y vs (s.seq h));refine ⟨_,zca e,?_⟩;rw [Nat.zero_add];exact .tup hp (.cons (.int _) (.cons q .nil))
theorem zxp {a:Addr}{vs:List V}{ws:List W} (h:SqL K F a vs) (r:Reps K F ws vs):ItOk K F (Itv K a vs.length) ws.reverse where
 go:=fun i H s hi=>by rw [List.length_reverse,r.length] at hi;exact ⟨hi,vs,s.seq h,rfl⟩
 stop:=fun H s=>by rw [List.length_reverse,r.length];rfl
 yld:=fun i H x H' s hi y=>by
  obtain ⟨e,y⟩:=y;subst e;obtain ⟨w,e,q⟩:=r.getV (y vs (s.seq h));refine ⟨w,?_,.val q⟩;rw [List.length_reverse] at hi;rw [List.getElem?_reverse hi,r.length];exact e
end
section
variable {X:Cx}{tg:Expr}
noncomputable def iSeq (K:PySem.W.Frag) (tl:TE):TI:=fun σ H R=>tl σ H fun x H1=>∃a,x=.ref a/\((∃xs,SqL K H1 a xs)/\R (Itl K a) H1\/(∃xs,SqT K H1 a xs)/\R (Itt K a) H1)
theorem zr8 {l:Expr}{tl:TE} (hl:PE X l tl):PI X tg l (iSeq X.K tl):=fun pins s σ H R I h =>
 thn (hl pins s σ H _ I h) fun v s1 ⟨x,H1,I1,r1,a,e,q1⟩=>by
  subst e;cases r1;have fp:∀b∈[s1.heap.objs.size],FpOk X pins H1 b:=fun b hb=>by
   rw [List.mem_singleton] at hb;subst hb;exact I1.fpOk (Nat.le_refl _) (I1.hok.fresh (Nat.le_refl _))
  rcases q1 with ⟨⟨xs,hq⟩,q⟩ | ⟨⟨xs,hq⟩,q⟩
  ·obtain ⟨its, _, p, _⟩ := I1.list hq;exact wpAny_pyIter_list p.isList ⟨_,_,_,_,H1,rfl,I1.kept (t':=s1.toks) fun b o e=>Heap.get?_push_of_some _ e,zgs a _,⟨_,Heap.get?_push_size _ rfl,rfl,rfl⟩,fp,q⟩
  ·obtain ⟨its, _, p, _⟩ := I1.tuple hq;exact wpAny_pyIter_tuple (show s1.heap.IsTuple a its.toArray from p) ⟨_,_,_,_,H1,rfl,I1.kept (t':=s1.toks) fun b o e=>Heap.get?_push_of_some _ e,ze8 a _,⟨_,Heap.get?_push_size _ rfl,rfl,rfl⟩,fp,q⟩
end
noncomputable def zeu (g:GE):GL:=fun en=>(g en).bind fun p=>(seqW p.2.1).bind fun ws=>some (p.1,ws)
noncomputable def zc5 (i:Int):Bool:=decide (-(2 ^ 62)<=i) && decide (i < 2 ^ 62)
noncomputable def zc9 (as:GAs):GL:=fun en=>(as en).bind fun p=>match zar p.1 p.2 with
 | some [.int j]=>if zc5 j then some (p.1,rngW 0 j.toNat) else none
 | _=>none
noncomputable def zzm (as:GAs):GL:=fun en=>(as en).bind fun p=>match zar p.1 p.2 with
 | some [.int i,.int j]=>if zc5 i && zc5 j then some (p.1,rngW i (j - i).toNat) else none
 | _=>none
noncomputable def gRev (g:GE):GL:=fun en=>(g en).bind fun p=>(seqL p.2.1).bind fun ws=>some (p.1,ws.reverse)
theorem zkg {i:Int} (h:zc5 i=true):-(2 ^ 62)<=i/\i < 2 ^ 62:=by
 unfold zc5 at h;rw [Bool.and_eq_true] at h;exact ⟨of_decide_eq_true h.1,of_decide_eq_true h.2⟩
section
variable {K:PySem.W.Frag}{σ:St}{H:Hp}
theorem zf3 {g:GE}{R:It->Hp->Prop} (h:tI K (zeu g) σ H R):iSeq K (tE K g) σ H R:=by
  refine aG fun _ qG=>?_;obtain ⟨F,pr,en,en',ws,Re,h,q⟩:=h;obtain ⟨⟨e1,rv⟩,h1,h⟩:=bS h;obtain ⟨us,hs,h⟩:=bS h;refine qG ?_;clear qG;cases h;refine ⟨F,pr,en,e1,rv,Re,h1,fun F1 H1 v s1 R1 z=>?_⟩;refine aG fun _ qG=>?_;obtain ⟨F2,s2,R2,y⟩:=z.freeze R1;obtain ⟨w,fl⟩:=rv;refine qG ?_;clear qG;cases w with
  | lst xs=>obtain rfl:=sI hs;cases y with
    | lst y r=>exact ⟨_,rfl,.inl ⟨⟨_,SqL.of' (R2.sub _ _ y)⟩,q F2 H1 _ (s1.trans s2) R2 (zfs (SqL.of' y) r)⟩⟩
  | frl xs=>obtain rfl:=sI hs;cases y with
    | frl y r=>exact ⟨_,rfl,.inl ⟨⟨_,R2.sub.seq y⟩,q F2 H1 _ (s1.trans s2) R2 (zfs y r)⟩⟩
  | tup xs=>obtain rfl:=sI hs;cases y with
    | tup y r=>exact ⟨_,rfl,.inr ⟨⟨_,.inl (.inl (R2.sub _ _ y))⟩,q F2 H1 _ (s1.trans s2) R2 (zr2 (.inl (.inl y)) r)⟩⟩
  | _=>cases hs
theorem zno {as:GAs}{R:It->Hp->Prop} (h:tI K (zc9 as) σ H R):zya (tAs K as) σ H R:=by
  refine aG fun _ qG=>?_;obtain ⟨F,pr,en,en',ws,Re,h,q⟩:=h;obtain ⟨⟨e1,xs⟩,h1,h⟩:=bS h;refine qG ?_;clear qG;refine ⟨F,pr,en,e1,xs,Re,h1,fun F1 H1 vs s1 R1 a1=>?_⟩;cases e:zar e1 xs with
  | none=>simp only [e] at h;exact noSome h
  | some us =>
    have rr:=a1.repBs R1 e
    match us,e,rr with
    | [.int j],e,rr =>
      simp only [e] at h;split at h
      · rename_i z
        cases h;obtain ⟨v,e1,hv⟩:=rr.one;subst e1;exact ⟨j,by rw [hv.int],(zkg z).1,(zkg z).2,q F1 H1 _ s1 R1 (zq3 0 j.toNat)⟩
      · exact noSome h
    | [],e,_=>simp only [e] at h;exact noSome h
    | .non::_,e,_=>simp only [e] at h;exact noSome h
    | .bl _::_,e,_=>simp only [e] at h;exact noSome h
    | .str _::_,e,_=>simp only [e] at h;exact noSome h
    | .tup _::_,e,_=>simp only [e] at h;exact noSome h
    | .lst _::_,e,_=>simp only [e] at h;exact noSome h
    | .frl _::_,e,_=>simp only [e] at h;exact noSome h
    | .dic::_,e,_=>simp only [e] at h;exact noSome h
    | .dct _ _::_,e,_=>simp only [e] at h;exact noSome h
    | .int _::_::_,e,_=>simp only [e] at h;exact noSome h
theorem zif {F:Hp}{w:W}{ws:List W}{v:V} (y:Rep K F w v) (hs:seqL w=some ws):∃a vs,v=.ref a/\SqL K F a vs/\Reps K F ws vs:=by
  cases w with
  | lst xs=>obtain rfl:=sI hs;cases y with
    | lst y r=>exact ⟨_,_,rfl,SqL.of' y,r⟩
  | frl xs=>obtain rfl:=sI hs;cases y with
    | frl y r=>exact ⟨_,_,rfl,y,r⟩
  | _=>cases hs
theorem zq1 {g:GE}{R:It->Hp->Prop} (h:tI K (gRev g) σ H R):iRev K (zdn (tE K g) tNil) σ H R:=by
 refine aG fun _ qG=>?_;obtain ⟨F,pr,en,en',ws,Re,h,q⟩:=h;obtain ⟨⟨e1,rv⟩,h1,h⟩:=bS h;obtain ⟨us,hs,h⟩:=bS h;refine qG ?_;clear qG;cases h;refine ⟨F,pr,en,e1,rv,Re,h1,fun F1 H1 v s1 R1 z=>?_⟩;refine aG fun _ qG=>?_;obtain ⟨F2,s2,R2,y⟩:=z.freeze R1;obtain ⟨a,vs,e,hq,r⟩:=zif y hs;refine qG ?_;clear qG;subst e;exact ⟨a,vs,rfl,R2.sub.seq hq,q F2 H1 _ (s1.trans s2) R2 (zxp hq r)⟩
end
inductive Tg where
 | nm (i:Nat)
 | tp (is:List Nat)
noncomputable def setAll (mp:List Nat):List Nat->List W->En->Option En
 | [],[],en=>some en
 | i::is,w::ws,en=>if mp.contains i || !decide (i < en.length) then none else setAll mp is ws (en.set i (some (w,false)))
 | _,_,_=>none
noncomputable def tgSet (mp:List Nat):Tg->W->En->Option En
 | .nm i,w,en=>if mp.contains i || !decide (i < en.length) then none else some (en.set i (some (w,false)))
 | .tp is,.tup ws,en=>setAll mp is ws en
 | .tp is,.lst ws,en=>setAll mp is ws en
 | _,_,_=>none
noncomputable def zj6:List Nat->TGs
 | []=>gNil
 | i::is=>zwu (zk6 i) (zj6 is)
noncomputable def zxo (K:PySem.W.Frag) (n:Nat) (t:TGs):TG:=fun v σ H Q=>∃a xs,v=.ref a/\(SqT K H a xs\/SqL K H a xs)/\xs.length=n/\t xs σ H Q
theorem zus {X:Cx}{es:List Expr}{k:Nat}{t:TGs}{n:Nat}{pos:Pos} (hc:X.calm=true) (h:PGs X es t) (hn:(assignEach es X.env).length=n) (hst:(assignEach es X.env).findIdx? (·.1)=none):PG X (.Tuple es k pos) (zxo X.K n t):=by
 intro pins s σ H v u Q I r hw;refine aG fun _ qG=>?_;obtain ⟨a,xs,e1,hq,hl,hw⟩:=hw;refine qG ?_;clear qG;rcases hq with hq | hq
 ·exact zwy hc h hn hst pins s σ H v u Q I r ⟨a,xs,e1,hq,hl,hw⟩
 ·subst e1;cases r;refine aG fun _ qG=>?_;obtain ⟨its,rv,⟨o,m,q1,q2,_,q3⟩,hz⟩:=I.list hq;refine qG ?_;clear qG;rw [assign_Tuple];refine wpAny_bind (wpAny_standAt ?_);unfold unpack;have hs:(assignEach es X.env).length=its.toArray.size:=by rw [List.size_toArray,hn,<-hl,rv.length]
  rw [hs,hst];refine wpAny_bind (wpAny_holding (PySem.W.kun_itemsOf (I.ok.hd hc) ⟨o,q1,q2,m,q3⟩ fun h' hx=>?_));have I1:Inv X pins σ H { s with heap:=h' }:=I.kept (t':=s.toks) fun b o e=>hx b o (Nat.ne_of_lt (Heap.lt_size e)) e;exact h pins _ σ H xs _ Q I1 (by simpa using rv) hw
noncomputable def TGof (K:PySem.W.Frag):Tg->TG
 | .nm i=>zk6 i
 | .tp is=>zxo K is.length (zj6 is)
noncomputable def Keep (mp:List Nat) (σ σ' : St):Prop:=∀i∈mp,σ'[i]?=σ[i]?
theorem Keep.refl (mp:List Nat) (σ:St):Keep mp σ σ:=fun _ _=>rfl
theorem Keep.trans {mp:List Nat}{σ σ1 σ2:St} (a:Keep mp σ σ1) (b:Keep mp σ1 σ2):Keep mp σ σ2:=fun i h=>(b i h).trans (a i h)
theorem Keep.set {mp:List Nat}{σ:St}{i:Nat} (h:mp.contains i=false) (v:Option V):Keep mp σ (σ.set i v):=fun j hj=>by
 have:i≠j:=fun e=>by subst e;rw [List.contains_iff_mem.mpr hj] at h;cases h
 exact List.getElem?_set_ne this
section
variable {K:PySem.W.Frag}{F H:Hp}{pr:Prt}
theorem zcs {mp:List Nat}{Q:St->Hp->Prop}:∀{is:List Nat}{ws:List W}{vs:List V}{en en' : En}{σ:St},Rel K F pr en σ H->Reps K F ws vs->setAll mp is ws en=some en'->(∀σ',Rel K F pr en' σ' H->Keep mp σ σ'->Q σ' H)->zj6 is vs σ H Q
  | [],[],_,en,en',σ,R,.nil,h,q=>by obtain rfl:=sI h;exact ⟨rfl,q σ R (.refl _ _)⟩
  | i::is,w::ws,_,en,en',σ,R,.cons (v:=v) (vs:=vs) h0 r,h,q=>by
    unfold setAll at h;split at h
    · exact noSome h
    · rename_i z
      rw [Bool.or_eq_true,not_or,Bool.not_eq_true,Bool.not_eq_true,Bool.not_eq_false'] at z;refine ⟨v,vs,rfl,?_⟩;exact zcs (R.store (r:=(w,false)) (i:=i) h0 (of_decide_eq_true z.2)) r h fun σ' R' k=>q σ' R' ((Keep.set z.1 _).trans k)
  | [],_::_,_,_,_,_,_,_,h,_=>by exact noSome h
  | _::_,[],_,_,_,_,_,_,h,_=>by exact noSome h
theorem zm3 {mp:List Nat}{T:Tg}{w:W}{v:V}{en en' : En}{σ:St}{Q:St->Hp->Prop} (R:Rel K F pr en σ H) (h0:Rep K F w v) (h:tgSet mp T w en=some en') (q:∀σ',Rel K F pr en' σ' H->Keep mp σ σ'->Q σ' H):TGof K T v σ H Q:=by
  cases T with
  | nm i =>
    unfold tgSet at h;simp only at h;split at h
    · exact noSome h
    · rename_i z
      rw [Bool.or_eq_true,not_or,Bool.not_eq_true,Bool.not_eq_true,Bool.not_eq_false'] at z;obtain rfl:=sI h;exact q _ (R.store (r:=(w,false)) h0 (of_decide_eq_true z.2)) (Keep.set z.1 _)
  | tp is =>
    have go:∀(is:List Nat) (ws:List W) (en en' : En),setAll mp is ws en=some en'->is.length=ws.length:=by
      intro is
      induction is with
      | nil=>intro ws en en' h;cases ws with
        | nil=>rfl
        | cons _ _=>exact noSome h
      | cons i is ih=>intro ws en en' h;cases ws with
        | nil=>exact noSome h
        | cons w ws =>
          unfold setAll at h;split at h
          · exact noSome h
          · exact congrArg (· + 1) (ih _ _ _ h)
    cases w with
    | tup ws =>
      cases h0 with
      | tup hf r =>
        exact ⟨_,_,rfl,.inl (.inl (.inl (R.sub _ _ hf))),by rw [go is ws en en' h,r.length],zcs R r h q⟩
    | lst ws =>
      cases h0 with
      | lst hf r =>
        exact ⟨_,_,rfl,.inr (SqL.of' (R.sub _ _ hf)),by rw [go is ws en en' h,r.length],zcs R r h q⟩
    | _=>exact noSome h
end
inductive Fl where
 | nx | ret (r:W × Bool) | brk | cnt
noncomputable abbrev GS:=En->Option (En × Fl)
noncomputable def zrj (K:PySem.W.Frag) (mp:List Nat) (F:Hp) (pr:Prt) (σ:St) (D:Ends) (en' : En):Fl->Prop
 | .nx=>∀F' σ' H',Same F F'->Rel K F' pr en' σ' H'->Keep mp σ σ'->D.nx σ' H'
 | .brk=>∀F' σ' H',Same F F'->Rel K F' pr en' σ' H'->Keep mp σ σ'->D.bk σ' H'
 | .cnt=>∀F' σ' H',Same F F'->Rel K F' pr en' σ' H'->Keep mp σ σ'->D.ct σ' H'
 | .ret r=>∀F' σ' H' v,Same F F'->Rel K F' pr en' σ' H'->Keep mp σ σ'->Res K F' H' pr en' σ' r v->D.rt v H'
noncomputable def tS (K:PySem.W.Frag) (mp:List Nat) (g:GS):TS:=fun D σ H=>∃F pr en en' fl,Rel K F pr en σ H/\g en=some (en',fl)/\zrj K mp F pr σ D en' fl
theorem zrj.step {K:PySem.W.Frag}{mp:List Nat}{F F1:Hp}{pr:Prt}{σ σ1:St}{D:Ends}{en' : En}{fl:Fl} (s:Same F F1) (k:Keep mp σ σ1) (h:zrj K mp F pr σ D en' fl):zrj K mp F1 pr σ1 D en' fl:=by
 cases fl with
 | nx=>exact fun F' σ' H' s' R' k'=>h F' σ' H' (s.trans s') R' (k.trans k')
 | brk=>exact fun F' σ' H' s' R' k'=>h F' σ' H' (s.trans s') R' (k.trans k')
 | cnt=>exact fun F' σ' H' s' R' k'=>h F' σ' H' (s.trans s') R' (k.trans k')
 | ret r=>exact fun F' σ' H' v s' R' k' z=>h F' σ' H' v (s.trans s') R' (k.trans k') z
noncomputable def zco:GS:=fun en=>some (en,.nx)
noncomputable def gBrk:GS:=fun en=>some (en,.brk)
noncomputable def gCnt:GS:=fun en=>some (en,.cnt)
noncomputable def gSeq (a b:GS):GS:=fun en=>match a en with
 | some (en',.nx)=>b en'
 | some (en',f)=>some (en',f)
 | none=>none
noncomputable def gRet (g:GE):GS:=fun en=>(g en).bind fun p=>some (p.1,.ret p.2)
noncomputable def zyu:GS:=fun en=>some (en,.ret (.non,false))
noncomputable def gIfS (c:GT) (a b:GS):GS:=fun en=>match c en with
 | some (en',true)=>a en'
 | some (en',false)=>b en'
 | none=>none
noncomputable def zd3 (g:GE):GS:=fun en=>(g en).bind fun p=>some (p.1,.nx)
noncomputable def gSet (mp:List Nat) (i:Nat) (g:GE):GS:=fun en=>(g en).bind fun p=>if mp.contains i || !decide (i < p.1.length) then none else some (p.1.set i (some p.2),.nx)
noncomputable def gAsg (mp:List Nat) (T:Tg) (g:GE):GS:=fun en=>(g en).bind fun p=>(tgSet mp T p.2.1 p.1).bind fun e=>some (e,.nx)
section
variable {K:PySem.W.Frag}{mp:List Nat}{D:Ends}{σ:St}{H:Hp}
theorem zgd (h:tS K mp zco D σ H):zun D σ H:=by
 obtain ⟨F,pr,en,en',fl,R,h,q⟩:=h;cases h;exact q F σ H (.refl F) R (.refl _ _)
theorem zqy {a b:GS} (h:tS K mp (gSeq a b) D σ H):tSeq (tS K mp a) (tS K mp b) D σ H:=by
  refine aG fun _ qG=>?_;obtain ⟨F,pr,en,en',fl,R,h,q⟩:=h;refine qG ?_;clear qG;unfold gSeq at h;cases e:a en with
  | none=>simp only [e] at h;exact noSome h
  | some p =>
    obtain ⟨e1,f1⟩:=p;refine ⟨F,pr,en,e1,f1,R,e,?_⟩;cases f1 with
    | nx =>
      simp only [e] at h;exact fun F1 σ1 H1 s1 R1 k1=>⟨F1,pr,e1,en',fl,R1,h,q.step s1 k1⟩
    | brk=>simp only [e] at h;cases h;exact q
    | cnt=>simp only [e] at h;cases h;exact q
    | ret r=>simp only [e] at h;cases h;exact q
theorem zqq {g:GE} (h:tS K mp (gRet g) D σ H):tRet (tE K g) D σ H:=by
 refine aG fun _ qG=>?_;obtain ⟨F,pr,en,en',fl,R,h,q⟩:=h;obtain ⟨⟨e1,r⟩,h1,h⟩:=bS h;refine qG ?_;clear qG;cases h;exact ⟨F,pr,en,e1,r,R,h1,fun F' H' v s' R' z=>q F' σ H' v s' R' (.refl _ _) z⟩
theorem zpj {c:GT}{a b:GS} (h:tS K mp (gIfS c a b) D σ H):tIfS (tT K c) (tS K mp a) (tS K mp b) D σ H:=by
  refine aG fun _ qG=>?_;obtain ⟨F,pr,en,en',fl,R,h,q⟩:=h;refine qG ?_;clear qG;unfold gIfS at h;cases e:c en with
  | none=>simp only [e] at h;exact noSome h
  | some p =>
    obtain ⟨e1,d⟩:=p;refine ⟨F,pr,en,e1,d,R,e,fun F1 H1 s1 R1=>?_⟩;cases d with
    | true=>simp only [e] at h;exact iteT ⟨F1,pr,e1,en',fl,R1,h,q.step s1 (.refl _ _)⟩
    | false=>simp only [e] at h;exact iteF ⟨F1,pr,e1,en',fl,R1,h,q.step s1 (.refl _ _)⟩
theorem zns {g:GE} (h:tS K mp (zd3 g) D σ H):zvm (tE K g) D σ H:=by
 refine aG fun _ qG=>?_;obtain ⟨F,pr,en,en',fl,R,h,q⟩:=h;obtain ⟨⟨e1,r⟩,h1,h⟩:=bS h;refine qG ?_;clear qG;cases h;exact ⟨F,pr,en,e1,r,R,h1,fun F' H' v s' R' z=>q F' σ H' s' R' (.refl _ _)⟩
theorem zfn {i:Nat}{g:GE} (h:tS K mp (gSet mp i g) D σ H):tAsg (tE K g) (zk6 i) D σ H:=by
 refine aG fun _ qG=>?_;obtain ⟨F,pr,en,en',fl,R,h,q⟩:=h;obtain ⟨⟨e1,r⟩,h1,h⟩:=bS h;refine qG ?_;clear qG;split at h
 ·exact noSome h
 ·rename_i z;rw [Bool.or_eq_true,not_or,Bool.not_eq_true,Bool.not_eq_true,Bool.not_eq_false'] at z;cases h;exact ⟨F,pr,en,e1,r,R,h1,fun F' H' v s' R' y=>q F' _ H' s' (R'.store y (of_decide_eq_true z.2)) (Keep.set z.1 _)⟩
noncomputable def gPar (mp:List Nat) (i j:Nat) (a b:GE):GS:=fun en=>(a en).bind fun p=>(b p.1).bind fun q=>if mp.contains i || mp.contains j || !decide (i < q.1.length) || !decide (j < q.1.length) then none else some ((q.1.set i (some (p.2.1,false))).set j (some q.2),.nx)
noncomputable def zax (i:Nat) (k:GE) (g:GE):GS:=fun en=>(g en).bind fun p=>match p.1[i]? with
  | some (some _)=>(k p.1).bind fun q=>match q.2,q.1[i]? with
    | (.int n,_),some (some (.lst ws,true))=>(ixN ws.length n).bind fun j=>some (q.1.set i (some (.lst (ws.set j p.2.1),true)),.nx)
    | _,_=>none
  | _=>none
theorem zkr {i:Nat}{k g:GE} (h:tS K mp (zax i k g) D σ H):tAsg (tE K g) (gSub (tVar i) (tE K k) zwv) D σ H:=by
 obtain ⟨F,pr,en,en',fl,R,h,q⟩:=h;obtain ⟨⟨e1,r1⟩,h1,h⟩:=bS h;refine ⟨F,pr,en,e1,r1,R,h1,fun F1 H1 v1 s1 R1 y1=>?_⟩;obtain ⟨F2,s2,R2,x1⟩:=y1.freeze R1;split at h
 ·rename_i x0 hx0;obtain ⟨⟨e2,r2⟩,h2,h⟩:=bS h;obtain ⟨w0,f0⟩:=x0;obtain ⟨v0,hv0⟩:=R2.has hx0;refine ⟨v0,hv0,F2,pr,e1,e2,r2,R2,h2,fun F3 H3 v2 s3 R3 y2=>?_⟩;split at h
  ·rename_i n fl2 ws eq1 eq2;simp only at eq1;subst eq1;obtain ⟨j,hj,h⟩:=bS h;cases h;obtain ⟨a,vs,ws',q1,q2,q3,q4,q5⟩:=R3.ownL eq2;cases q1;rw [hv0] at q2;cases q2;refine ⟨a,vs,n,j,rfl,y2.isInt,q3,by rw [<-q5.length];exact hj,?_⟩;exact q F3 σ _ (s1.trans (s2.trans s3)) (R3.change eq2 hv0 (q5.set (x1.mono s3) j)) (.refl _ _)
  ·exact noSome h
 ·exact noSome h
noncomputable def gApp (i:Nat) (g:GE):GE:=fun en=>match en[i]? with
  | some (some (.lst _,true))=>(g en).bind fun p=>match p.1[i]? with
    | some (some (.lst ws,true))=>if ws.length < sizeLine then some (p.1.set i (some (.lst (ws++[p.2.1]),true)),(.non,false)) else none
    | _=>none
  | _=>none
theorem zq0 {i:Nat}{g:GE}{Q:VK} (h:tE K (gApp i g) σ H Q):tBM K "list" zmv (tVar i) (zdn (tE K g) tNil) σ H Q:=by
 refine aG fun _ qG=>?_;obtain ⟨F,pr,en,en',r,R,h,q⟩:=h;refine qG ?_;clear qG;unfold gApp at h;split at h
 ·rename_i w0 hx0;refine aG fun _ qG=>?_;obtain ⟨a,vs,ws0,q1,q2,q3,q4,q5⟩:=R.ownL hx0;obtain ⟨⟨e1,r1⟩,h1,h⟩:=bS h;refine qG ?_;clear qG;refine ⟨.ref a,q2,.inl ⟨rfl,vs,SqL.of' q3⟩,F,pr,en,e1,r1,R,h1,fun F1 H1 v1 s1 R1 y1=>?_⟩;refine aG fun _ qG=>?_;obtain ⟨F2,s2,R2,x1⟩:=y1.freeze R1;refine qG ?_;clear qG;split at h
  ·rename_i ws hx1;split at h
   ·rename_i hz;cases h;refine aG fun _ qG=>?_;obtain ⟨a',vs',ws',p1,p2,p3,p4,p5⟩:=R2.ownL hx1;refine qG ?_;clear qG;cases p1;rw [q2] at p2;cases p2;refine ⟨a,vs',v1,rfl,rfl,p3,by rw [<-p5.length];exact hz,?_⟩;exact q F2 _ _ (s1.trans s2) (R2.change hx1 q2 (p5.append (.cons x1 .nil))) .non
   ·exact noSome h
  ·exact noSome h
 ·exact noSome h
noncomputable def gExt (i:Nat) (g:GE):GE:=fun en=>match en[i]? with
  | some (some (.lst _,true))=>(g en).bind fun p=>match p.2.1,p.1[i]? with
    | .lst us,some (some (.lst ws,true))=>if ws.length+us.length<=sizeLine then some (p.1.set i (some (.lst (ws++us),true)),(.non,false)) else none
    | _,_=>none
  | _=>none
noncomputable def gAug (mp:List Nat) (o:O2) (i:Nat) (g:GA):GS:=fun en=>match en[i]? with
 | some (some (w,false))=>(g en).bind fun p=>(resA p.1 p.2).bind fun u=>(o w u).bind fun r=>if mp.contains i || !decide (i < p.1.length) then none else some (p.1.set i (some r),.nx)
 | _=>none
theorem zpa {i:Nat}{o:O2}{r:R2}{g:GA} (ho:OpS K r o) (h:tS K mp (gAug mp o i g) D σ H):tAug i (tA K g) r D σ H:=by
 refine aG fun _ qG=>?_;obtain ⟨F,pr,en,en',fl,R,h,q⟩:=h;refine qG ?_;clear qG;unfold gAug at h;split at h
 ·rename_i w hx;refine aG fun _ qG=>?_;obtain ⟨v,hv,rw'⟩:=R.val i w hx;obtain ⟨⟨e1,x1⟩,h1,h⟩:=bS h;obtain ⟨u,hu,h⟩:=bS h;obtain ⟨rv,hr,h⟩:=bS h;refine qG ?_;clear qG;split at h
  ·exact noSome h
  ·rename_i z;rw [Bool.or_eq_true,not_or,Bool.not_eq_true,Bool.not_eq_true,Bool.not_eq_false'] at z;cases h;refine ⟨v,hv,F,pr,en,e1,x1,R,h1,fun F1 H1 v1 s1 R1 a1=>?_⟩;refine ho F1 H1 w u v v1 rv _ R1.sub (.inl (rw'.mono s1)) (a1.repB R1 hu) hr fun v2 H2 o2=>?_;refine aG fun _ qG=>?_;obtain ⟨F3,s3,R3,y⟩:=o2.close R1;refine qG ?_;clear qG;exact q F3 _ H2 (s1.trans s3) (R3.store y (of_decide_eq_true z.2)) (Keep.set z.1 _)
 ·exact noSome h
noncomputable def zgl (mp:List Nat) (T:Tg) (body:GS):List W->En->Option (En × Fl)
  | [],en=>some (en,.nx)
  | w::ws,en=>(tgSet mp T w en).bind fun e1=>match body e1 with
    | some (e2,.nx)=>zgl mp T body ws e2
    | some (e2,.cnt)=>zgl mp T body ws e2
    | some (e2,.brk)=>some (e2,.nx)
    | some (e2,.ret r)=>some (e2,.ret r)
    | none=>none
noncomputable def gFor (mp:List Nat) (T:Tg) (it:GL) (body:GS):GS:=fun en=>(it en).bind fun p=>zgl mp T body p.2 p.1
theorem zqr {T:Tg}{it:GL}{body:GS} (h:tS K mp (gFor mp T it body) D σ H):tFor (tI K it) (TGof K T) (tS K mp body) D σ H:=by
  refine aG fun _ qG=>?_;obtain ⟨F,pr,en,en',fl,R,h,q⟩:=h;obtain ⟨⟨e1,ws⟩,h1,h⟩:=bS h;refine qG ?_;clear qG;refine ⟨F,pr,en,e1,ws,R,h1,fun F1 H1 J s1 R1 ok=>?_⟩;refine ⟨fun i m σ' H'=>m=ws.length - i/\i<=ws.length/\∃F' e',Same F1 F'/\Rel K F' pr e' σ' H'/\Keep mp σ σ'/\zgl mp T body (ws.drop i) e'=some (en',fl),⟨_,rfl,Nat.zero_le _,F1,e1,.refl _,R1,.refl _ _,by simpa using h⟩,?_⟩;rintro i m σ' H' ⟨rfl,hi,F',e',s',R',k',hl⟩;by_cases hlt:i < ws.length
  · refine .inr ⟨ok.go i H' (s'.trans R'.sub) hlt, ?_⟩
    have hd:ws.drop i=ws[i]::ws.drop (i+1):=(List.drop_eq_getElem_cons hlt);rw [hd] at hl;obtain ⟨e2,h2,hl⟩:=bS (show (tgSet mp T ws[i] e').bind _=_ from hl);refine ⟨fun σ2 H2=>∃F2 e3,Same F1 F2/\Rel K F2 pr e3 σ2 H2/\Keep mp σ σ2/\zgl mp T body (ws.drop (i+1)) e3=some (en',fl),?_,?_⟩
    · rintro σ2 H2 ⟨F2, e3, s2, R2, k2, hl2⟩
      exact ⟨ws.length - (i+1),by omega,rfl,hlt,F2,e3,s2,R2,k2,hl2⟩
    · intro x H2 y
      obtain ⟨w,ew,out⟩:=ok.yld i H' x H2 (s'.trans R'.sub) hlt y;rw [List.getElem?_eq_getElem hlt] at ew;obtain rfl:=sI ew;refine aG fun _ qG=>?_;obtain ⟨F3,s3,R3,z⟩:=(out.mono s').close R';refine qG ?_;clear qG;refine zm3 (w:=ws[i]) R3 z h2 fun σ3 R4 k4=>?_;cases eb:body e2 with
      | none=>simp only [eb] at hl;exact noSome hl
      | some p =>
        obtain ⟨e5,f5⟩:=p;refine ⟨F3,pr,e2,e5,f5,R4,eb,?_⟩;have sF:Same F1 F3:=s'.trans s3;cases f5 with
        | nx =>
          simp only [eb] at hl;exact fun F6 σ6 H6 s6 R6 k6=>⟨F6,e5,sF.trans s6,R6,(k'.trans k4).trans k6,hl⟩
        | cnt =>
          simp only [eb] at hl;exact fun F6 σ6 H6 s6 R6 k6=>⟨F6,e5,sF.trans s6,R6,(k'.trans k4).trans k6,hl⟩
        | brk =>
          simp only [eb] at hl;cases hl;exact fun F6 σ6 H6 s6 R6 k6=>q F6 σ6 H6 (s1.trans (sF.trans s6)) R6 ((k'.trans k4).trans k6)
        | ret r =>
          simp only [eb] at hl;cases hl;exact fun F6 σ6 H6 v s6 R6 k6 z=>q F6 σ6 H6 v (s1.trans (sF.trans s6)) R6 ((k'.trans k4).trans k6) z
  · have e : i = ws.length := by omega
    subst e;rw [List.drop_length] at hl;cases hl;exact .inl ⟨ok.stop H' (s'.trans R'.sub),q F' σ' H' (s1.trans s') R' k'⟩
end
section
variable {X:Cx}
end
section
variable {K:PySem.W.Frag}{σ:St}{H:Hp}
end
end L2
namespace L2
open PySem PySem.Spec PyProof.Rows
noncomputable abbrev Cap:=List (Option Nat)
noncomputable def zdp (cap:Cap) (en:En):En:=cap.map fun o=>match o with
 | some i=>(en[i]?).getD none
 | none=>none
noncomputable def zaj (cap:Cap) (i:Nat):Option Nat:=cap.findIdx? (· == some i)
noncomputable def zbl (cap:Cap):Bool:=(List.range cap.length).all fun j=>match cap[j]? with
 | some (some i)=>zaj cap i == some j
 | _=>true
noncomputable def capKeep (cap:Cap):List Nat:=(List.range cap.length).filter fun j=>match cap[j]? with
 | some (some _)=>true
 | _=>false
noncomputable def zaw (cap:Cap) (en ce:En):En:=en.mapIdx fun i x=>match zaj cap i with
 | some j=>(ce[j]?).getD none
 | none=>x
theorem za1 {cap:Cap}{i j:Nat} (h:zaj cap i=some j):cap[j]?=some (some i):=by
 unfold zaj at h;obtain ⟨hl,h1,_⟩:=List.findIdx?_eq_some_iff_getElem.mp h;rw [List.getElem?_eq_getElem hl];have:cap[j]=some i:=by simpa using h1
 rw [this]
theorem zbs {cap:Cap}{i:Nat} (h:zaj cap i=none) (j:Nat):cap[j]?≠some (some i):=fun e=>by
 unfold zaj at h;have:=List.findIdx?_eq_none_iff.mp h (some i) (List.mem_of_getElem? e);simp at this
theorem zdr {cap:Cap} (h:zbl cap=true) {i j:Nat} (e:cap[j]?=some (some i)):zaj cap i=some j:=by
 unfold zbl at h;have hj:j < cap.length:=(List.getElem?_eq_some_iff.mp e).1;have:=List.all_eq_true.mp h j (List.mem_range.mpr hj);simp only [e] at this;simpa using this
theorem zia {cap:Cap}{i j:Nat} (e:cap[j]?=some (some i)):j∈capKeep cap:=by
 unfold capKeep;exact List.mem_filter.mpr ⟨List.mem_range.mpr (List.getElem?_eq_some_iff.mp e).1,by simp only [e]⟩
theorem zce {cap:Cap}{en:En}{j:Nat}{x:W × Bool} (h:(zdp cap en)[j]?=some (some x)):∃i,cap[j]?=some (some i)/\en[i]?=some (some x):=by
  unfold zdp at h;rw [List.getElem?_map] at h;cases e:cap[j]? with
  | none=>rw [e] at h;exact noSome h
  | some o =>
    rw [e] at h;cases o with
    | none=>cases h
    | some i =>
      refine ⟨i,rfl,?_⟩;have h' : (en[i]?).getD none=some x:=sI h;cases e2:en[i]? with
      | none=>rw [e2] at h';exact noSome h'
      | some z=>rw [e2] at h';exact congrArg some h'
theorem zkh {cap:Cap}{σ:St}{i j:Nat} (h:cap[j]?=some (some i)):(capSt cap σ)[j]?=some ((σ[i]?).getD none):=by
 unfold capSt;rw [List.getElem?_map,h]
 rfl
theorem zc6 {cap:Cap}{σ:St}{i j:Nat}{v:V} (h:cap[j]?=some (some i)) (hv:σ[i]?=some (some v)):(capSt cap σ)[j]?=some (some v):=by
 rw [zkh h,hv];rfl
theorem backEn_get {cap:Cap}{en ce:En}{i:Nat}{x:W × Bool} (h:(zaw cap en ce)[i]?=some (some x)):(∃j,zaj cap i=some j/\ce[j]?=some (some x))\/(zaj cap i=none/\en[i]?=some (some x)):=by
  unfold zaw at h;rw [List.getElem?_mapIdx] at h;cases e:en[i]? with
  | none=>rw [e] at h;exact noSome h
  | some o =>
    rw [e] at h;cases c:zaj cap i with
    | none=>simp only [c,Option.map_some] at h;exact .inr ⟨rfl,h⟩
    | some j =>
      simp only [c,Option.map_some] at h;have h' : (ce[j]?).getD none=some x:=sI h;refine .inl ⟨j,rfl,?_⟩;cases e2:ce[j]? with
      | none=>rw [e2] at h';exact noSome h'
      | some z=>rw [e2] at h';exact congrArg some h'
noncomputable def zbe (pr:Prt) (cap:Cap) (en:En) (σ:St) (H:Hp):Prt:=fun b o=>pr b o\/∃(j:Nat) (w:W),en[j]?=some (some (w,true))/\zaj cap j=none/\σ[j]?=some (some (V.ref b))/\H b=some o
noncomputable def zev (pb:Prt) (acc:Addr) (vs:List V):Prt:=fun b o=>pb b o\/(b=acc/\o=.lst vs)
section
variable {K:PySem.W.Frag}{F H:Hp}{pr pb:Prt}{en:En}{σ:St}
theorem Rel.ownT (R:Rel K F pr en σ H) {j:Nat}{w:W}{b:Addr}{ps:Array Value} (e:en[j]?=some (some (w,true))) (s:σ[j]?=some (some (V.ref b))):H b≠some (.tbl ps):=fun z=>by
 obtain ⟨a,o,w',_,h2,h3,_,h5⟩:=R.own j w e;rw [s] at h2;cases h2;rw [z] at h3;obtain rfl:=sI h3;cases h5
theorem ze5 {cap:Cap}{b:Addr}{ps:Array Value} (R:Rel K F pr en σ H) (e:H b=some (.tbl ps)) (hh:∀o,¬ pr b o):∀o,¬ zbe pr cap en σ H b o:=fun o z=>by
 rcases z with z | ⟨j,w,q1,_,q2,_⟩
 ·exact hh o z
 ·exact R.ownT q1 q2 e
theorem Rel.accUpd {acc:Addr}{vs us:List V} (R:Rel K F (zev pb acc vs) en σ H) (hb:∀b o,pb b o->b≠acc):Rel K F (zev pb acc us) en σ (upd H acc (.lst us)):=by
 obtain ⟨a1,a2,a3⟩:=R.prt acc (.lst vs) (.inr ⟨rfl,rfl⟩);have nt:∀b ps,H b=some (.tbl ps)->b≠acc:=fun b ps e z=>by subst z;rw [a1] at e;cases e
 have nx:∀b φ,H b=some (.ext φ)->b≠acc:=fun b φ e z=>by subst z;rw [a1] at e;cases e
 refine ⟨R.len,fun b o e=>?_,R.val,fun i w e=>?_,R.inj,fun b o q=>?_,R.tb.go (fun b ps e f=>⟨by rw [upd_ne (nt b ps e)];exact e,f⟩) (.refl F) fun b ps e hh o z=>z.elim (fun z=>hh o (.inl z)) fun z=>nt b ps e z.1⟩
 ·have : b ≠ acc := fun z => by subst z; rw [a2] at e; exact noSome e
  rw [upd_ne this];exact R.sub _ _ e
 ·refine aG fun Gg qG => ?_;obtain ⟨a,vs',ws,h1,h2,h3,h4,h5⟩:=R.own i w e;refine qG ?_;clear qG;have:a≠acc:=fun z=>by subst z;exact a3 i w e h2
  exact ⟨a,vs',ws,h1,h2,by rw [upd_ne this];exact h3,h4,h5⟩
 ·rcases q with q | ⟨rfl, rfl⟩
  ·obtain ⟨b1, b2, b3⟩ := R.prt b o (.inl q);exact ⟨by rw [upd_ne (hb b o q)];exact b1,b2,b3⟩
  ·exact ⟨upd_same,a2,a3⟩
theorem zmz {cap:Cap}{acc:Addr} (R:Rel K F pr en σ H) (hn:H acc=none):∀b o,zbe pr cap en σ H b o->b≠acc:=fun b o q=>by
 rcases q with q | ⟨j,w,_,_,_,q⟩
 ·exact zac (R.prt b o q).1 hn
 ·exact zac q hn
theorem Rel.block {cap:Cap}{acc:Addr} (R:Rel K F pr en σ H) (hn:H acc=none) (nd:zbl cap=true):Rel K F (zev (zbe pr cap en σ H) acc []) (zdp cap en) (capSt cap σ) (upd H acc (.lst [])):=by
 have fa:F acc=none:=R.sub.free hn;have R2:=R.lay hn (.lst []);refine ⟨by unfold zdp capSt;rw [List.length_map,List.length_map],R2.sub,fun j w e=>?_,fun j w e=>?_,fun j l a w w' e1 e2 q1 q2=>?_,fun b o q=>?_,R.tb.go (fun b ps e f=>⟨by rw [upd_ne (zac e hn)];exact e,f⟩) (.refl F) fun b ps e hh o z=>z.elim (ze5 R e hh o) fun z=>zac e hn z.1⟩
 ·refine aG fun Gg qG => ?_;obtain ⟨i,c,e⟩:=zce e;obtain ⟨v,h1,h2⟩:=R.val i w e;refine qG ?_;clear qG;exact ⟨v,zc6 c h1,h2⟩
 ·refine aG fun Gg qG => ?_;obtain ⟨i,c,e⟩:=zce e;obtain ⟨a,vs,ws,h1,h2,h3,h4,h5⟩:=R2.own i w e;refine qG ?_;clear qG;exact ⟨a,vs,ws,h1,zc6 c h2,h3,h4,h5⟩
 ·refine aG fun Gg qG => ?_;obtain ⟨i,c1,e1⟩:=zce e1;obtain ⟨k,c2,e2⟩:=zce e2;obtain ⟨i',c1',q1⟩:=capSt_get q1;obtain ⟨k',c2',q2⟩:=capSt_get q2;refine qG ?_;clear qG;rw [c1] at c1';cases c1';rw [c2] at c2';cases c2';have:=R.inj i k a _ _ e1 e2 q1 q2;subst this;have x:=zdr nd c1;rw [zdr nd c2] at x;exact (sI x).symm
 ·have own2:∀(j:Nat) (w:W),(zdp cap en)[j]?=some (some (w,true))->∃(i:Nat) (a:Addr),cap[j]?=some (some i)/\en[i]?=some (some (w,true))/\σ[i]?=some (some (V.ref a))/\(capSt cap σ)[j]?=some (some (V.ref a))/\∃o,H a=some o:=fun j w e=>by
   refine aG fun _ qG=>?_;obtain ⟨i,c,e⟩:=zce e;obtain ⟨a,vs,ws,h1,h2,h3,h4,h5⟩:=R.own i w e;refine qG ?_;clear qG;exact ⟨i,a,c,e,h2,zc6 c h2,_,h3⟩
  rcases q with (q | ⟨j0,w0,e0,c0,s0,h0⟩) | ⟨rfl,rfl⟩
  ·obtain ⟨b1, b2, b3⟩ := R2.prt b o q;refine ⟨b1,b2,fun j w e=>?_⟩;refine aG fun _ qG=>?_;obtain ⟨i,a,_,e,h2,h3,_⟩:=own2 j w e;refine qG ?_;clear qG;rw [h3];intro z;cases z;exact b3 i w e h2
  ·refine aG fun Gg qG => ?_;obtain ⟨a,vs,ws,h1,h2,h3,h4,h5⟩:=R.own j0 w0 e0;refine qG ?_;clear qG;rw [s0] at h2;cases h2;refine ⟨by rw [upd_ne (zac h0 hn)];exact h0,h4,fun j w e=>?_⟩;refine aG fun _ qG=>?_;obtain ⟨i,a,c,e,h2,h3,_⟩:=own2 j w e;refine qG ?_;clear qG;rw [h3];intro z;cases z;have:=R.inj i j0 _ _ _ e e0 h2 s0;subst this;exact zbs c0 j c
  ·refine ⟨upd_same, fa, fun j w e => ?_⟩;refine aG fun _ qG=>?_;obtain ⟨i,a,c,e,h2,h3,o,h4⟩:=own2 j w e;refine qG ?_;clear qG;rw [h3];intro z;cases z;rw [hn] at h4;exact noSome h4
theorem Rel.unblock {cap:Cap}{acc:Addr}{F' H' : Hp}{ce:En}{σc:St}{vs:List V}{ws:List W} (R:Rel K F pr en σ H) (hn:H acc=none) (s:Same F F') (Rc:Rel K F' (zev (zbe pr cap en σ H) acc vs) ce σc H') (kp:Keep (capKeep cap) (capSt cap σ) σc) (rs:Reps K F' ws vs) :
  Rel K F' pr (zaw cap en ce) σ H'/\Res K F' H' pr (zaw cap en ce) σ (.lst ws,true) (.ref acc):=by
 have slot:∀(i j:Nat) (v:V),zaj cap i=some j->σc[j]?=some (some v)->σ[i]?=some (some v):=fun i j v c e=>by
  have c':=za1 c;rw [kp j (zia c'),zkh c'] at e;have e' : (σ[i]?).getD none=some v:=sI e;cases q:σ[i]? with
  | none=>rw [q] at e';exact noSome e'
  | some z=>rw [q] at e';exact congrArg some e'
 obtain ⟨a1,a2,a3⟩:=Rc.prt acc (.lst vs) (.inr ⟨rfl,rfl⟩);have un:∀(i:Nat) (w:W),zaj cap i=none->en[i]?=some (some (w,true))->∃(a:Addr) (vs:HO) (ws:W),w=ws/\σ[i]?=some (some (V.ref a))/\H a=some vs/\H' a=some vs/\F' a=none/\OwnR K F ws vs/\∀(j:Nat) (w' : W),ce[j]?=some (some (w',true))->σc[j]?≠some (some (V.ref a)):=fun i w c e=>by
  refine aG fun _ qG=>?_;obtain ⟨a,vs,ws,h1,h2,h3,h4,h5⟩:=R.own i w e;obtain ⟨b1,b2,b3⟩:=Rc.prt a vs (.inl (.inr ⟨i,w,e,c,h2,h3⟩));refine qG ?_;clear qG;exact ⟨a,vs,ws,h1,h2,h3,b1,b2,h5,b3⟩
 have capt:∀(i j:Nat) (w:W),zaj cap i=some j->ce[j]?=some (some (w,true))->∃(a:Addr) (vs:HO) (ws:W),w=ws/\σ[i]?=some (some (V.ref a))/\σc[j]?=some (some (V.ref a))/\H' a=some vs/\F' a=none/\OwnR K F' ws vs:=fun i j w c e=>by
  refine aG fun _ qG=>?_;obtain ⟨a,vs,ws,h1,h2,h3,h4,h5⟩:=Rc.own j w e;refine qG ?_;clear qG;exact ⟨a,vs,ws,h1,slot i j _ c h2,h2,h3,h4,h5⟩
 refine ⟨⟨by unfold zaw;rw [List.length_mapIdx];exact R.len,Rc.sub,fun i w e=>?_,fun i w e=>?_,fun i k a w w' e1 e2 q1 q2=>?_,fun b o q=>?_,Rc.tb.go (fun b ps e f=>⟨e,f⟩) (.refl F') fun b ps e hh o z=>hh o (.inl (.inl z))⟩,acc,_,_,rfl,rfl,a1,a2,.lst rs,fun i w e=>?_,fun b o q=>zac (R.prt b o q).1 hn⟩
 ·rcases backEn_get e with ⟨j, c, e⟩ | ⟨c, e⟩
  ·obtain ⟨v, h1, h2⟩ := Rc.val j w e;exact ⟨v,slot i j v c h1,h2⟩
  ·obtain ⟨v, h1, h2⟩ := R.val i w e;exact ⟨v,h1,h2.mono s⟩
 ·rcases backEn_get e with ⟨j, c, e⟩ | ⟨c, e⟩
  ·refine aG fun Gg qG => ?_;obtain ⟨a,vs,ws,h1,h2,_,h3,h4,h5⟩:=capt i j w c e;refine qG ?_;clear qG;exact ⟨a,vs,ws,h1,h2,h3,h4,h5⟩
  ·refine aG fun Gg qG => ?_;obtain ⟨a,vs,ws,h1,h2,_,h3,h4,h5,_⟩:=un i w c e;refine qG ?_;clear qG;exact ⟨a,vs,ws,h1,h2,h3,h4,h5.mono s⟩
 ·rcases backEn_get e1 with ⟨j, c, e1⟩ | ⟨c, e1⟩
  ·refine aG fun Gg qG => ?_;obtain ⟨a',_,_,_,h2,h3,_⟩:=capt i j w c e1;refine qG ?_;clear qG;rw [q1] at h2;cases h2;rcases backEn_get e2 with ⟨l,c2,e2⟩ | ⟨c2,e2⟩
   ·refine aG fun Gg qG => ?_;obtain ⟨a',_,_,_,g2,g3,_⟩:=capt k l w' c2 e2;refine qG ?_;clear qG;rw [q2] at g2;cases g2;have:=Rc.inj j l a _ _ e1 e2 h3 g3;subst this;have x:=za1 c;rw [za1 c2] at x;cases x;rfl
   ·refine aG fun Gg qG => ?_;obtain ⟨a',_,_,_,g2,_,_,_,_,g3⟩:=un k w' c2 e2;refine qG ?_;clear qG;rw [q2] at g2;cases g2;exact absurd h3 (g3 j w e1)
  ·refine aG fun Gg qG => ?_;obtain ⟨a',_,_,_,h2,_,_,_,_,h3⟩:=un i w c e1;refine qG ?_;clear qG;rw [q1] at h2;cases h2;rcases backEn_get e2 with ⟨l,c2,e2⟩ | ⟨c2,e2⟩
   ·refine aG fun Gg qG => ?_;obtain ⟨a',_,_,_,g2,g3,_⟩:=capt k l w' c2 e2;refine qG ?_;clear qG;rw [q2] at g2;cases g2;exact absurd g3 (h3 l w' e2)
   ·exact R.inj i k a _ _ e1 e2 q1 q2
 ·obtain ⟨b1, b2, b3⟩ := Rc.prt b o (.inl (.inl q));refine ⟨b1,b2,fun i w e=>?_⟩;rcases backEn_get e with ⟨j,c,e⟩ | ⟨c,e⟩
  ·refine aG fun Gg qG => ?_;obtain ⟨a,_,_,_,h2,h3,_⟩:=capt i j w c e;refine qG ?_;clear qG;rw [h2];intro z;cases z;exact b3 j w e h3
  ·exact (R.prt b o q).2.2 i w e
 ·rcases backEn_get e with ⟨j, c, e⟩ | ⟨c, e⟩
  ·refine aG fun Gg qG => ?_;obtain ⟨a,_,_,_,h2,h3,_⟩:=capt i j w c e;refine qG ?_;clear qG;rw [h2];intro z;cases z;exact a3 j w e h3
  ·refine aG fun Gg qG => ?_;obtain ⟨a,_,_,_,h2,h3,_⟩:=un i w c e;refine qG ?_;clear qG;rw [h2];intro z;cases z;rw [hn] at h3;exact noSome h3
end
noncomputable def zej (mp:List Nat) (T:Tg) (tc:GT) (te:GE):List W->En->Option (En × List W)
  | [],ce=>some (ce,[])
  | w::ws,ce=>(tgSet mp T w ce).bind fun c1=>match tc c1 with
    | some (c2,true)=>(te c2).bind fun p=>(zej mp T tc te ws p.1).bind fun q=>some (q.1,p.2.1::q.2)
    | some (c2,false)=>zej mp T tc te ws c2
    | none=>none
noncomputable def ze2 (cap:Cap) (T:Tg) (it:GL) (tc:GT) (te:GE):GE:=fun en=>(it en).bind fun p=>if zbl cap && decide (p.2.length<=sizeLine) then (zej (capKeep cap) T tc te p.2 (zdp cap p.1)).bind fun q=>some (zaw cap p.1 q.1,(.lst q.2,true)) else none
noncomputable def gYes:GT:=fun en=>some (en,true)
noncomputable def zc7 (mp:List Nat) (T:Tg) (tc:GT) (em:GL):List W->En->Option (En × List W)
  | [],ce=>some (ce,[])
  | w::ws,ce=>(tgSet mp T w ce).bind fun c1=>match tc c1 with
    | some (c2,true)=>(em c2).bind fun p=>(zc7 mp T tc em ws p.1).bind fun q=>some (q.1,p.2++q.2)
    | some (c2,false)=>zc7 mp T tc em ws c2
    | none=>none
noncomputable def gOne (te:GE):GL:=fun en=>(te en).bind fun p=>some (p.1,[p.2.1])
noncomputable def zr7 (cap:Cap) (T:Tg) (it:GL) (tc:GT) (em:GL):GE:=fun en=>(it en).bind fun p=>if zbl cap then (zc7 (capKeep cap) T tc em p.2 (zdp cap p.1)).bind fun q=>if q.2.length<=sizeLine then some (zaw cap p.1 q.1,(.lst q.2,true)) else none else none
theorem zef {mp:List Nat}{T:Tg}{tc:GT}{te:GE}:∀{ws:List W}{ce ce' : En}{out:List W},zej mp T tc te ws ce=some (ce',out)->zc7 mp T tc (gOne te) ws ce=some (ce',out)/\out.length<=ws.length
  | [],_,_,_,h=>by cases h;exact ⟨rfl,Nat.le_refl _⟩
  | w::ws,ce,ce',out,h=>by
    obtain ⟨c1,h1,h⟩:=bS (show (tgSet mp T w ce).bind _=_ from h);have e:zc7 mp T tc (gOne te) (w::ws) ce=match tc c1 with
      | some (c2,true)=>(gOne te c2).bind fun p=>(zc7 mp T tc (gOne te) ws p.1).bind fun q=>some (q.1,p.2++q.2)
      | some (c2,false)=>zc7 mp T tc (gOne te) ws c2
      | none=>none:=by rw [zc7,h1];rfl
    rw [e];cases et:tc c1 with
    | none=>simp only [et] at h;exact noSome h
    | some p =>
      obtain ⟨c2,b⟩:=p;cases b with
      | false=>simp only [et] at h;exact ⟨(zef h).1,Nat.le_succ_of_le (zef h).2⟩
      | true =>
        simp only [et] at h;obtain ⟨⟨c3,rv⟩,h5,h⟩:=bS h;obtain ⟨⟨c4,rest⟩,h6,h⟩:=bS h;cases h;refine ⟨?_,Nat.succ_le_succ (zef h6).2⟩;show (gOne te c2).bind _=_;rw [gOne,h5];show (zc7 mp T tc (gOne te) ws c3).bind _=_;rw [(zef h6).1]
        rfl
noncomputable def MOk (K:PySem.W.Frag) (mp:List Nat) (pb:Prt) (acc:Addr) (em:GL) (tm:TM):Prop:=∀(F:Hp) (ce:En) (σ:St) (H:Hp) (vs:List V) (ce' : En) (out:List W) (N:St->Hp->Prop),Rel K F (zev pb acc vs) ce σ H->em ce=some (ce',out)->vs.length+out.length<=sizeLine ->
 (∀F' σ' H' us,Same F F'->Rel K F' (zev pb acc (vs++us)) ce' σ' H'->Keep mp σ σ'->Reps K F' out us->N σ' H')->tm σ H N
section
variable {K:PySem.W.Frag}{mp:List Nat}{pb:Prt}{acc:Addr}
theorem zy6 {te:GE} (hb:∀b o,pb b o->b≠acc):MOk K mp pb acc (gOne te) (zp9 acc (tE K te)):=by
 intro F ce σ H vs ce' out N R h hz q;refine aG fun _ qG=>?_;obtain ⟨⟨c3,rv⟩,h5,h⟩:=bS h;refine qG ?_;clear qG;cases h;refine ⟨F,_,ce,c3,rv,R,h5,fun F6 H6 v s6 R6 y6=>?_⟩;refine aG fun _ qG=>?_;obtain ⟨F7,s7,R7,y7⟩:=y6.freeze R6;obtain ⟨a1,_,_⟩:=R7.prt acc (.lst vs) (.inr ⟨rfl,rfl⟩);refine qG ?_;clear qG;exact ⟨vs,a1,hz,q F7 σ _ [v] (s6.trans s7) (R7.accUpd hb) (.refl _ _) (.cons y7 .nil)⟩
theorem zsh {em:GL}{tm:TM}{T:Tg}{tc:GT}{F1:Hp}{vs0:List V}{ce0 ce' : En}{σ0:St}{H0:Hp}{J:It}{ws out:List W}{N0:St->Hp->Prop} (M:MOk K mp pb acc em tm) (R:Rel K F1 (zev pb acc vs0) ce0 σ0 H0) (ok:ItOk K F1 J ws) (h:zc7 mp T tc em ws ce0=some (ce',out)) (hz:vs0.length+out.length<=sizeLine)
    (q:∀F' σ' H' us,Same F1 F'->Rel K F' (zev pb acc (vs0++us)) ce' σ' H'->Keep mp σ0 σ'->Reps K F' out us->N0 σ' H'):zkb J (TGof K T) (tT K tc) tm σ0 H0 N0:=by
  refine ⟨fun i m σc Hc=>m=ws.length - i/\i<=ws.length/\∃F' ce dn us rest,Same F1 F'/\Rel K F' (zev pb acc (vs0++us)) ce σc Hc/\Keep mp σ0 σc/\Reps K F' dn us/\zc7 mp T tc em (ws.drop i) ce=some (ce',rest)/\dn++rest=out,
    ⟨_,rfl,Nat.zero_le _,F1,ce0,[],[],out,.refl _,by rw [List.append_nil];exact R,.refl _ _,.nil,h,rfl⟩,?_⟩
  rintro i m σc Hc ⟨rfl,hi,F',ce,dn,us,rest,s',R',k',rd,hl,ho⟩;by_cases hlt:i < ws.length
  · refine .inr ⟨ok.go i Hc (s'.trans R'.sub) hlt, ?_⟩
    have hd:ws.drop i=ws[i]::ws.drop (i+1):=(List.drop_eq_getElem_cons hlt);rw [hd] at hl;obtain ⟨c1,h3,hl⟩:=bS (show (tgSet mp T ws[i] ce).bind _=_ from hl);refine ⟨fun σ2 H2=>∃F' ce dn us rest,Same F1 F'/\Rel K F' (zev pb acc (vs0++us)) ce σ2 H2/\Keep mp σ0 σ2/\Reps K F' dn us/\zc7 mp T tc em (ws.drop (i+1)) ce=some (ce',rest)/\dn++rest=out,fun σ2 H2 z=>⟨ws.length - (i+1),by omega,rfl,hlt,z⟩,?_⟩;intro x H2 y;obtain ⟨w,ew,o⟩:=ok.yld i Hc x H2 (s'.trans R'.sub) hlt y;rw [List.getElem?_eq_getElem hlt] at ew;obtain rfl:=sI ew;refine aG fun _ qG=>?_;obtain ⟨F3,s3,R3,z3⟩:=(o.mono s').close R';refine qG ?_;clear qG;refine zm3 (w:=ws[i]) R3 z3 h3 fun σ3 R4 k4=>?_;cases et:tc c1 with
    | none=>simp only [et] at hl;exact noSome hl
    | some p =>
      obtain ⟨c2,b⟩:=p;refine ⟨F3,_,c1,c2,b,R4,et,fun F5 H5 s5 R5=>?_⟩;cases b with
      | false =>
        simp only [et] at hl;exact iteF ⟨F5,c2,dn,us,rest,s'.trans (s3.trans s5),R5,k'.trans k4,rd.mono (s3.trans s5),hl,ho⟩
      | true =>
        simp only [et] at hl;refine aG fun _ qG=>?_;obtain ⟨⟨c3,o1⟩,h5,hl⟩:=bS hl;obtain ⟨⟨c4,rest'⟩,h6,hl⟩:=bS hl;refine qG ?_;clear qG;cases hl;refine iteT (M F5 c2 σ3 H5 (vs0++us) c3 o1 _ R5 h5 ?_ fun F6 σ6 H6 us2 s6 R6 k6 r6=>?_)
        · dsimp only at ho
          rw [<-ho,List.length_append,List.length_append,rd.length] at hz;rw [List.length_append];omega
        · have sAll : Same F' F6 := s3.trans (s5.trans s6)
          exact ⟨F6,c3,dn++o1,us++us2,rest',s'.trans sAll,by rw [<-List.append_assoc];exact R6,k'.trans (k4.trans k6),(rd.mono sAll).append r6,h6,by rw [List.append_assoc];exact ho⟩
  · have e : i = ws.length := by omega
    subst e;rw [List.drop_length] at hl;cases hl;rw [List.append_nil] at ho;subst ho;exact .inl ⟨ok.stop Hc (s'.trans R'.sub),q F' σc Hc us s' R' k' rd⟩
end
theorem zk5 {K:PySem.W.Frag}{cap:Cap}{T:Tg}{it:GL}{tc:GT}{em:GL}{tm:Addr->TM}{σ:St}{H:Hp}{Q:VK} (M:∀(pb:Prt) (acc:Addr),(∀b o,pb b o->b≠acc)->MOk K (capKeep cap) pb acc em (tm acc)) (h:tE K (zr7 cap T it tc em) σ H Q):zmf (tI K it) cap (TGof K T) (tT K tc) tm σ H Q:=by
 refine aG fun _ qG=>?_;obtain ⟨F,pr,en,en',r,R,h,q⟩:=h;obtain ⟨⟨e1,ws⟩,h1,h⟩:=bS h;refine qG ?_;clear qG;refine ⟨F,pr,en,e1,ws,R,h1,fun F1 H1 J s1 R1 ok acc hacc=>?_⟩;split at h
 ·rename_i nd;refine aG fun _ qG=>?_;obtain ⟨⟨ce',out⟩,h2,h⟩:=bS h;refine qG ?_;clear qG;split at h
  ·rename_i hz;cases h;refine zsh (M _ acc (zmz (cap:=cap) R1 hacc)) (R1.block hacc nd) ok h2 (by rw [List.length_nil,Nat.zero_add];exact hz) fun F' σ' H' us s' R' k' rd=>?_;obtain ⟨Ro,rz⟩:=R1.unblock hacc s' R' k' rd;exact q F' H' _ (s1.trans s') Ro rz
  ·exact noSome h
 ·exact noSome h
theorem zme {K:PySem.W.Frag}{cap:Cap}{T:Tg}{it:GL}{tc:GT}{te:GE}{σ:St}{H:Hp}{Q:VK} (h:tE K (ze2 cap T it tc te) σ H Q):zmf (tI K it) cap (TGof K T) (tT K tc) (fun acc=>zp9 acc (tE K te)) σ H Q:=by
 refine zk5 (fun pb acc hb=>zy6 hb) ?_;obtain ⟨F,pr,en,en',r,R,h,q⟩:=h;refine ⟨F,pr,en,en',r,R,?_,q⟩;refine aG fun _ qG=>?_;obtain ⟨⟨e1,ws⟩,h1,h⟩:=bS h;refine qG ?_;clear qG;split at h
 ·rename_i z;rw [Bool.and_eq_true] at z;refine aG fun _ qG=>?_;obtain ⟨⟨ce',out⟩,h2,h⟩:=bS h;refine qG ?_;clear qG;obtain ⟨h3,h4⟩:=zef h2;rw [zr7,h1];show (if zbl cap=true then (zc7 (capKeep cap) T tc (gOne te) ws (zdp cap e1)).bind _ else none)=_;rw [if_pos z.1,h3];show (if out.length<=sizeLine then _ else none)=_;rw [if_pos (Nat.le_trans h4 (of_decide_eq_true z.2))];exact h
 ·exact noSome h
noncomputable def zzq:GE:=fun en=>some (en,(.dic,false))
noncomputable def keyW:W->Bool
 | .int _=>true
 | .str _=>true
 | _=>false
noncomputable def zy4 (k v:GE):GE:=fun en=>(k en).bind fun p=>if keyW p.2.1 then (v p.1).bind fun q=>some (q.1,(.dic,false)) else none
end L2
namespace L2
open PySem PySem.Spec PyProof.Rows
noncomputable def Src (h:Heap) (it l:Addr) (k:Nat) (xs:Array Value):Prop:=(h.IsListIter it l k/\h.IsList l xs)\/(h.IsTupleIter it l k/\h.IsTuple l xs)
section
variable {prog:Program}{w:World}{A:Around}{E:Value->Shared->Prop}{s:Shared}
theorem zpy {it l:Addr}{k:Nat}{xs:Array Value}{x:Value}{Q:Value->Shared->Prop} (c:Src s.heap it l k xs) (hx:xs[k]?=some x) (ne:l≠it)
  (q:∀h',Src h' it l (k+1) xs->Heap.SameBut it s.heap h'->Q x { s with heap:=h' }):wpAny (model prog w) A (Builtin.SmallTypes.nextOf (.ref it)) Q E s:=by
 rcases c with ⟨c1,c2⟩ | ⟨c1,c2⟩
 ·exact wpAny_nextOf_list_item c1 c2 hx fun h' a b=>q h' (.inl ⟨a,c2.at fun o e=>(b.2 l ne).trans e⟩) b
 ·refine aG fun Gg qG => ?_;obtain ⟨oi,ei,ci,di⟩:=id c1;obtain ⟨os,es,cs,ns,ds⟩:=id c2;refine qG ?_;clear qG;unfold Builtin.SmallTypes.nextOf;refine wpAny_bind (wpAny_callSpecial?_slot (name:=Str.ofString "__next__") c1.typeIs F.slot_tuple_iterator_next (wpAny_call_entry F.slot_tuple_iterator_next c1.typeIs F.entry_tuple_iterator_next ?_ (F.args_tuple_iterator_next_1 _)));refine (show wpAny _ _ (field (.ref it) 0 >>= _) _ _ s from wpAny_bind (wpAny_field ei di (x:=.ref l) rfl ?_));refine (show wpAny _ _ (if (Value.ref l == Value.none)=true then _ else _) _ _ s from ?_);rw [if_neg (by intro z;cases z)];refine (show wpAny _ _ (field (.ref it) 1 >>= _) _ _ s from wpAny_bind (wpAny_field ei di (x:=.int k 0) rfl ?_));refine (show wpAny _ _ (seqItems? (.ref l) >>= _) _ _ s from wpAny_bind (wpAny_seqItems es ds ?_));simp only [Int.toNat_natCast,hx];refine wpAny_bind (wpAny_setField ei di (by simp) (wpAny_pure ⟨x,rfl,wpAny_pure ?_⟩));refine q _ (.inr ⟨⟨_,Heap.get?_update_self _ ei (Obj.isFreed_of_fields (Obj.data_mapFields di _)),(Obj.cls_mapFields ..).trans ci,by rw [Obj.data_mapFields di];simp [rawInt]⟩,os,?_,cs,ns,ds⟩) (Heap.SameBut.update ..);exact ((Heap.SameBut.update ..).2 l ne).trans es
theorem znk {it l:Addr}{k:Nat}{xs:Array Value}{Q:Value->Shared->Prop} (hn:A.handled=none) (c:Src s.heap it l k xs) (hx:xs[k]?=none)
  (q:∀h' e,Heap.ExtBut it s.heap h'->(∃o,h'.get? e=some o/\o.cls=.type "StopIteration")->E (.ref e) { s with heap:=h' }):wpAny (model prog w) A (Builtin.SmallTypes.nextOf (.ref it)) Q E s:=by
 rcases c with ⟨c1,c2⟩ | ⟨c1,c2⟩
 ·exact wpAny_nextOf_list_end hn c1 c2 hx q
 ·obtain ⟨oi, ei, ci, di⟩ := id c1;obtain ⟨os,es,cs,ns,ds⟩:=id c2;unfold Builtin.SmallTypes.nextOf;refine wpAny_bind (wpAny_callSpecial?_slot (name:=Str.ofString "__next__") c1.typeIs F.slot_tuple_iterator_next (wpAny_call_entry F.slot_tuple_iterator_next c1.typeIs F.entry_tuple_iterator_next ?_ (F.args_tuple_iterator_next_1 _)));refine (show wpAny _ _ (field (.ref it) 0 >>= _) _ _ s from wpAny_bind (wpAny_field ei di (x:=.ref l) rfl ?_));refine (show wpAny _ _ (if (Value.ref l == Value.none)=true then _ else _) _ _ s from ?_);rw [if_neg (by intro z;cases z)];refine (show wpAny _ _ (field (.ref it) 1 >>= _) _ _ s from wpAny_bind (wpAny_field ei di (x:=.int k 0) rfl ?_));refine (show wpAny _ _ (seqItems? (.ref l) >>= _) _ _ s from wpAny_bind (wpAny_seqItems es ds ?_));simp only [Int.toNat_natCast,hx];refine wpAny_bind (wpAny_rule (wpAny_bind (wpAny_setField ei di (by simp) (show wpAny _ _ (newExc (.type "StopIteration") [] >>= _) _ _ _ from wpAny_bind ?_))));simp only [newExc,newTuple];refine wpAny_bind (wpAny_newObj_type (wpAny_bind (m:=firstArgMember _ _) (wpAny_of_eq (a:=Value.none) (by first | rfl | (simp only [firstArgMember];rfl)) (wpAny_newObj_type ?_ (by size_fits)))) (by size_fits));simp only [raiseNew];refine wpAny_bind (wpAny_handled ?_);rw [show A.in1.handled=none from hn];exact wpAny_bind (wpAny_pure (wpAny_throw (q _ _ (((Heap.SameBut.update ..).extBut.push _).push _) ⟨_,Heap.get?_push_size _ rfl,rfl⟩)))
end
end L2
namespace L2
open PySem PySem.Spec PyProof.Rows
noncomputable def SrcO (h:Heap) (b:Bool) (l:Addr) (xs:Array Value):Prop:=match b with
 | true=>h.IsList l xs
 | false=>h.IsTuple l xs
section
variable {prog:Program}{w:World}{A:Around}{E:Value->Shared->Prop}{s:Shared}
end
section
variable {prog:Program}{w:World}{A:Around}{E:Value->Shared->Prop}{s:Shared}
end
noncomputable def SqK (K:PySem.W.Frag) (k:Bool) (H:Hp) (a:Addr) (xs:List V):Prop:=match k with
 | true=>SqL K H a xs
 | false=>SqT K H a xs
section
variable {X:Cx}
end
noncomputable def zipW:List W->List W->List W
 | x::xs,y::ys=>.tup [x,y]::zipW xs ys
 | _,_=>[]
noncomputable def gZip (g g' : GE):GL:=fun en=>(g en).bind fun p=>(g' p.1).bind fun q=>(seqW p.2.1).bind fun ws=>(seqW q.2.1).bind fun us=>some (q.1,zipW ws us)
section
variable {K:PySem.W.Frag}{F H:Hp}{σ:St}
theorem zen {w:W}{ws:List W}{v:V} (y:Rep K F w v) (hs:seqW w=some ws):∃a k vs,v=.ref a/\SqK K k F a vs/\Reps K F ws vs:=by
  cases w with
  | lst xs=>obtain rfl:=sI hs;cases y with
    | lst y r=>exact ⟨_,true,_,rfl,SqL.of' y,r⟩
  | frl xs=>obtain rfl:=sI hs;cases y with
    | frl y r=>exact ⟨_,true,_,rfl,y,r⟩
  | tup xs=>obtain rfl:=sI hs;cases y with
    | tup y r=>exact ⟨_,false,_,rfl,.inl (.inl y),r⟩
  | _=>exact noSome hs
end
end L2
namespace L2
open PySem PySem.Spec PyProof.Rows
open AutoSeq1 (wpAny_loadPart')
section
variable {prog:Program}{w:World}{A:Around}{E:Value->Shared->Prop}{s:Shared}
theorem zl2 {it l:Addr}{xs:Array Value} (ne:l≠it) (hn:A.handled=none):Draws prog w A.in1 it [it,l] xs.size (fun i x=>xs[i]?=some x) (fun k h=>h.IsTupleIter it l k/\h.IsTuple l xs) where
 live:=fun i h st=>let ⟨⟨o,e,_⟩,_⟩:=st;⟨o,e⟩
 frame:=fun i h h' st k=>⟨st.1.at fun o e=>k it (by simp) o e,let ⟨o,e,r⟩:=st.2;⟨o,k l (by simp) o e,r⟩⟩
 item:=fun i s Q E hi st q=>zpy (k:=i) (xs:=xs) (x:=xs[i]) (.inr st) (Array.getElem?_eq_getElem hi) ne fun h' c sb=>by
  rcases c with ⟨⟨o,e,c1,_⟩,c2⟩ | c
  ·obtain ⟨o', e', c1', _⟩ := st.1;have:=st.2;exact absurd c2 (fun c2=>by
    obtain ⟨o2,e2,c3,_⟩:=c2;obtain ⟨o3,e3,c4,_⟩:=st.2;rw [(sb.2 l ne).trans e3] at e2;obtain rfl:=sI e2;rw [c4] at c3;exact absurd (Value.type.inj c3) (by decide))
  ·exact q xs[i] h' s.toks (Array.getElem?_eq_getElem hi) c sb
 done:=fun s Q E st q=>znk (k:=xs.size) (xs:=xs) (show A.in1.handled=none from hn) (.inr st) (Array.getElem?_eq_none (Nat.le_refl _)) q
theorem zh0 (l:Addr) (items:Array Value) (n:Nat) (dct:Option Addr) (sl:Array (Option Value)) :
  Meets (Builtin.«enumerate.__new__» ⟨[.type "enumerate",.ref l],[]⟩) (fun _ R s=>s.heap.get? l=some { cls:=.type "tuple",dict:=dct,data:=.seq items n,slots:=sl } /\
   R (.ok (.ret (.ref (s.heap.push { cls:=.type "tuple_iterator",data:=.fields #[.ref l,.int 0 0] }).objs.size)))
    { s with heap:=(s.heap.push { cls:=.type "tuple_iterator",data:=.fields #[.ref l,.int 0 0] }).push { cls:=.type "enumerate",data:=.fields #[.none,.bool false,.ref s.heap.objs.size,rawInt 0,.none,.none] } }) :=
 .of_wp fun prog w A R s h=>by
  obtain ⟨hp,g,d,tk,os⟩:=s;obtain ⟨hl,h⟩:=h;have hsub:=sub_enumerate;have hL:Heap.IsTuple (Shared.heap ⟨hp,g,d,tk,os⟩) l items:=⟨_,hl,rfl,n,rfl⟩
  wp_walk using wpAny_loadPart' hl
  refine wpAny_stack_any fun st=>wpAny_pure ?_;split
  ·rename_i c _ _ _ _ _;cases (c == Value.type "enumerate")<;>(wp_walk using wpAny_loadPart' hl,wpAny_pyIter_tuple hL)<;>exact ⟨_,rfl,h⟩
  ·wp_walk using wpAny_loadPart' hl, wpAny_pyIter_tuple hL
   exact ⟨_,rfl,h⟩
theorem zk7 {l:Addr}{items:Array Value}{Q:Value->Shared->Prop} (hL:s.heap.IsTuple l items)
  (h:∀h',IsEnum h' (s.heap.objs.size+1) s.heap.objs.size 0 .none->h'.IsTupleIter s.heap.objs.size l 0->(∀b o,s.heap.get? b=some o->h'.get? b=some o)->Q (.ref (s.heap.objs.size+1)) { s with heap:=h' }) :
  wpAny (model prog w) A (call (.type "enumerate") [.ref l]) Q E s:=by
 refine aG fun _ qG=>?_;obtain ⟨⟨c,dct,dt,sl⟩,hl,hc,n,hd⟩:=hL;refine qG ?_;clear qG;cases (show c=.type "tuple" from hc);cases (show dt=.seq items n from hd);refine callType_new F.called_enumerate (by decide) (F.typeCall_enumerate_1 _) (F.newCall_enumerate_1 _) (fun obj=>F.args_object_init_2 obj _) F.entry_enumerate_new (zh0 l items n dct sl) ⟨hl,?_⟩;have hz:(s.heap.push { cls:=.type "tuple_iterator",data:=.fields #[.ref l,.int 0 0] }).objs.size=s.heap.objs.size+1:=Heap.size_push ..;show _/\_;rw [hz];have he:=Heap.get?_push_size (s.heap.push { cls:=.type "tuple_iterator",data:=.fields #[.ref l,.int 0 0] }) (o:={ cls:=.type "enumerate",data:=.fields #[.none,.bool false,.ref s.heap.objs.size,rawInt 0,.none,.none] }) rfl;rw [hz] at he;exact ⟨⟨_,he,rfl⟩,h _ he ⟨_,Heap.get?_push_of_some _ (Heap.get?_push_size _ rfl),rfl,rfl⟩ fun b o x=>Heap.get?_push_of_some _ (Heap.get?_push_of_some _ x)⟩
end
noncomputable def IteT (K:PySem.W.Frag) (a:Addr):It :=
 ⟨fun i H=>∃xs x,SqT K H a xs/\xs[i]?=some x,fun i H x H'=>∃p v,x=.ref p/\H p=none/\H'=upd H p (.tup [.int i,v])/\∀xs,SqT K H a xs->xs[i]?=some v,fun i H=>∃xs,SqT K H a xs/\xs.length<=i⟩
theorem zks {P:Program}{w:World}{K:PySem.W.Frag}{es:List Expr}{x1}{px:Pos} (a e it:Addr) (hei:e≠it) (hea:e≠a) (hai:a≠it):Turn P w K (.Tuple es x1 px) (IteT K a) [e,it] e (fun i h=>(∃old,IsEnum h e it i old)/\h.IsTupleIter it a i) where
 mem:=by simp
 obj:=fun i h st b hb=>by
  refine aG fun _ qG=>?_;obtain ⟨⟨old,he⟩,o,hi,c,d⟩:=st;refine qG ?_;clear qG;rcases List.mem_cons.mp hb with rfl | hb
  ·exact ⟨_,he,fun v z=>by cases z⟩
  ·have : b = it := by simpa using hb
   subst this;exact ⟨o,hi,fun v z=>by rw [d] at z;cases z⟩
 keep:=fun i h h' st k=>⟨let ⟨old,he⟩:=st.1;⟨old,k e (by simp) _ he⟩,st.2.at fun o z=>k it (by simp) o z⟩
 item:=by
  intro X hP hw hK hc i pins s σ H E I hf st hg;subst hP hw hK;refine aG fun _ qG=>?_;obtain ⟨xs,x,hq,hx⟩:=hg;obtain ⟨its,rv,p,hz⟩:=I.tuple hq;obtain ⟨u,hu,ru⟩:=rv.get hx;obtain ⟨⟨old,he⟩,hit⟩:=st;refine qG ?_;clear qG;have hT:s.heap.IsTuple a its.toArray:=p;have lt:i < its.toArray.size:=by
   rw [List.size_toArray];exact (List.getElem?_eq_some_iff.mp hu).1
  refine wpAny_pyNext_enum_itemD (zl2 hai (I.ok.hd hc)) he ⟨hit,hT⟩ lt hei (by simp [hei,hea]) fun y h' tk hy ho hst hT' hsz hk=>⟨_,rfl,?_⟩;have eu:y=u:=by
   have:its[i]?=some y:=by simpa using hy
   rw [hu] at this;exact (sI this).symm
  subst eu;refine wpAny_letOwnedTupleGo_enum ho fun h'' he'' hs''=>?_;have kk:∀b o,b ∉ [e,it]->s.heap.get? b=some o->h''.get? b=some o:=fun b o hb q=>by
   have h1:b≠e:=fun z=>hb (by simp [z]);have h2:b≠it:=fun z=>hb (by simp [z]);exact (hs''.2 b h1).trans (hk b o h1 h2 q)
  have hTe:s.heap.objs.size≠e:=fun z=>absurd (Heap.lt_size he) (by rw [z];exact Nat.lt_irrefl _);have hit'' : h''.IsTupleIter it a (i+1):=hst.1.at fun o y=>(hs''.2 it hei.symm).trans y;refine ⟨.ref s.heap.objs.size,upd H s.heap.objs.size (.tup [.int i,x]),I.turnLay kk (fun b hb=>?_) hf (Nat.le_refl _) ⟨by show 2<=sizeLine;decide,[.int i tk,y],.cons ⟨_,rfl⟩ (.cons ru .nil),?_⟩,rfl,⟨_,x,rfl,I.hok.fresh (Nat.le_refl _),rfl,fun ys hy=>by rw [I.tuple_inj hy hq];exact hx⟩,⟨⟨_,by simpa using he''⟩,hit''⟩,fun b hb=>?_⟩
  ·rcases List.mem_cons.mp hb with rfl | hb
   ·exact ⟨_,he''⟩
   ·have : b = it := by simpa using hb
    subst this;obtain ⟨o,z,_⟩:=hit'';exact ⟨o,z⟩
  ·exact ⟨_,(hs''.2 _ hTe).trans hT',rfl,_,rfl⟩
  ·have:b≠s.heap.objs.size:=by
    rcases List.mem_cons.mp hb with rfl | hb
    ·exact hTe.symm
    ·have e2 : b = it := by simpa using hb
     subst e2;obtain ⟨o,z,_⟩:=hit;exact Nat.ne_of_lt (Heap.lt_size z)
   rw [upd_ne this];exact (hf b hb).1
 done:=by
  intro X hP hw hK hc i pins s σ H E I hf st hg;subst hP hw hK;refine aG fun _ qG=>?_;obtain ⟨xs,hq,hx⟩:=hg;obtain ⟨its,rv,p,hz⟩:=I.tuple hq;obtain ⟨⟨old,he⟩,hit⟩:=st;obtain ⟨f0,f1,f2,f3,f4,f5⟩:=hf it (by simp);refine qG ?_;clear qG;have hl:=rv.length;have hT:s.heap.IsTuple a its.toArray:=p;have hTy:s.TypeIs (.ref e) "enumerate" := ⟨_,he,rfl⟩;unfold pyNext;refine wpAny_bind (wpAny_attempt (wpAny_callSpecial?_slot (name:=Str.ofString "__next__") hTy F.slot_enumerate_next (wpAny_call_entry F.slot_enumerate_next hTy F.entry_enumerate_next ?_ (F.args_enumerate_next_1 _))));show wpAny _ _ (field (.ref e) 2 >>= _) _ _ _;refine wpAny_bind (wpAny_field he rfl (x:=.ref it) rfl ?_);refine wpAny_bind (znk (show _=none from I.ok.hd hc) (.inr ⟨hit,hT⟩) (Array.getElem?_eq_none (by simp;omega)) fun h' x eb hx'=>?_);obtain ⟨o,ho,hc'⟩:=hx';refine wpAny_bind (wpAny_isInstance (T := "StopIteration") (b:=true) ⟨o,ho,hc'⟩ isSubtype_stop ?_);exact wpAny_pure ⟨rfl,I.turned (t':=s.toks) (fun b o hb e=>eb b o hb e) f0 f1 f3 f4 f5⟩
 self:=fun _ _ _ _ _ st h=>let ⟨_,he⟩:=st.1;wpAny_pyIter_enum he h
section
variable {X:Cx}
noncomputable def zrv (K:PySem.W.Frag) (ta:TA):TI:=fun σ H R=>ta σ H fun vs H1=>∃a xs,vs=[.ref a]/\(SqL K H1 a xs/\R (Ite K a) H1\/SqT K H1 a xs/\R (IteT K a) H1)
theorem zpk {es:List Expr}{x1}{px:Pos}{l:Expr}{tl:TA}{p pos:Pos} (hg:Gl X "enumerate") (hm:X.mg "enumerate" = none) (hl:PA X [l] tl) (hs:starEach [l] X.env=[(false,eval l X.env)]:=by rfl) :
    PI X (.Tuple es x1 px) (.Call (.Name "enumerate" p) [l] [] pos) (zrv X.K tl):=by
  intro pins s σ H R I h;refine Call_ (zed I hg hm boot_enumerate (PyProof.Rows.callWith_type1 (thn (hl pos pins s σ H _ I h) fun us s1 ⟨vs,H1,I1,r1,q1⟩=>?_) hs rfl));obtain ⟨a,xs,e,q⟩:=q1;subst e;cases r1 with
  | cons r rr =>
    cases rr;cases r;have fp:∀b∈[s1.heap.objs.size+1,s1.heap.objs.size],FpOk X pins H1 b:=fun b hb=>by
      have e:s1.heap.objs.size<=b:=by
        rcases List.mem_cons.mp hb with rfl | hb
        · exact Nat.le_succ _
        · have e2 : b = s1.heap.objs.size := by simpa using hb
          rw [e2];exact Nat.le_refl _
      exact I1.fpOk e (I1.hok.fresh e)
    rcases q with ⟨hq,q⟩ | ⟨hq,q⟩
    · obtain ⟨its, rv, p', hz⟩ := I1.list hq
      refine call_enumerate_list p'.isList fun h' he hit hsz hk=>wpAny_pyIter_enum he ?_;exact ⟨s1.heap.objs.size+1,[s1.heap.objs.size+1,s1.heap.objs.size],_,_,H1,rfl,I1.kept (t':=s1.toks) hk,zn9 a _ _ (Nat.succ_ne_self _),⟨⟨_,by simpa using he⟩,hit⟩,fp,q⟩
    · obtain ⟨its, rv, p', hz⟩ := I1.tuple hq
      have hT:s1.heap.IsTuple a its.toArray:=p';have al:a < s1.heap.objs.size:=let ⟨o,e,_⟩:=hT;Heap.lt_size e;refine zk7 hT fun h' he hit hk=>wpAny_pyIter_enum he ?_;exact ⟨s1.heap.objs.size+1,[s1.heap.objs.size+1,s1.heap.objs.size],_,_,H1,rfl,I1.kept (t':=s1.toks) hk,zks a _ _ (Nat.succ_ne_self _) (Nat.ne_of_gt (Nat.lt_succ_of_lt al)) (Nat.ne_of_lt al),⟨⟨_,by simpa using he⟩,hit⟩,fp,q⟩
end
section
variable {K:PySem.W.Frag}{F H:Hp}{σ:St}
theorem zpr {a:Addr}{vs:List V}{ws:List W} (h:SqT K F a vs) (r:Reps K F ws vs):ItOk K F (IteT K a) (zde ws 0) where
 go:=fun i H s hi=>by rw [za4] at hi;exact ⟨vs,vs[i]'(by rw [<-r.length];exact hi),zbd s h,by rw [List.getElem?_eq_getElem]⟩
 stop:=fun H s=>⟨vs,zbd s h,by rw [za4,r.length];exact Nat.le_refl _⟩
 yld:=fun i H x H' s hi y=>by
  refine aG fun _ qG=>?_;obtain ⟨p,v,e,hp,e2,y⟩:=y;refine qG ?_;clear qG;subst e e2;obtain ⟨w,e,q⟩:=r.getV (y vs (zbd s h));refine ⟨_,zca e,?_⟩;rw [Nat.zero_add];exact .tup hp (.cons (.int _) (.cons q .nil))
noncomputable def zlm (g:GE):GL:=fun en=>(g en).bind fun p=>(seqW p.2.1).bind fun ws=>some (p.1,zde ws 0)
theorem zoz {g:GE}{R:It->Hp->Prop} (h:tI K (zlm g) σ H R):zrv K (zdn (tE K g) tNil) σ H R:=by
 refine aG fun _ qG=>?_;obtain ⟨F,pr,en,en',ws,Re,h,q⟩:=h;obtain ⟨⟨e1,rv⟩,h1,h⟩:=bS h;obtain ⟨us,hs,h⟩:=bS h;refine qG ?_;clear qG;cases h;refine ⟨F,pr,en,e1,rv,Re,h1,fun F1 H1 v s1 R1 z=>?_⟩;refine aG fun _ qG=>?_;obtain ⟨F2,s2,R2,y⟩:=z.freeze R1;obtain ⟨a,k,vs,e,hq,r⟩:=zen y hs;refine qG ?_;clear qG;subst e;cases k with
 | true=>exact ⟨a,vs,rfl,.inl ⟨R2.sub.seq hq,q F2 H1 _ (s1.trans s2) R2 (ztk hq r)⟩⟩
 | false=>exact ⟨a,vs,rfl,.inr ⟨zbd R2.sub hq,q F2 H1 _ (s1.trans s2) R2 (zpr hq r)⟩⟩
end
end L2
namespace L2
open PySem PySem.Spec PyProof.Rows
section
variable {X:Cx}{pins:List (Addr × Obj)}{σ:St}{H:Hp}{s:Shared}
noncomputable def okD (d:PyData):Bool:=d.showable && !d.hasDict && decide (d.depth<=100) && decide (d.shown.length<=sizeLine)
noncomputable def zsb:List V->Hp->VK->Prop:=fun xs H Q=>∃a d,xs=[.ref a]/\DV H (.ref a) d/\okD d=true/\Q (.str d.shown) H
theorem zoj {d:PyData} (h:okD d=true):d.showable=true/\d.hasDict=false/\d.depth<=100/\d.shown.length<=sizeLine:=by
 unfold okD at h;rw [Bool.and_eq_true,Bool.and_eq_true,Bool.and_eq_true] at h;exact ⟨h.1.1.1,by simpa using h.1.1.2,of_decide_eq_true h.1.2,of_decide_eq_true h.2⟩
noncomputable def znw:List V->Hp->VK->Prop:=fun xs H Q=>(∃i,xs=[.int i]/\i.natAbs.log2 < 1920/\Q (.str (toString i)) H)\/(xs=[.non]/\Q (.str "None") H)\/(∃b:Bool,xs=[.bl b]/\Q (.str (if b then "True" else "False")) H)\/zsb xs H Q
theorem zf4 {k:Nat} (hr:Room k X.A):zbc X (.builtin "repr") znw:=by
 intro pins s σ H xs us Q I r h;rcases h with h | h | h | h
 ·refine aG fun Gg qG => ?_;obtain ⟨i,rfl,hi,q⟩:=h;obtain ⟨u,rfl,ru⟩:=r.one;obtain ⟨t,rfl⟩:=(show ∃t,u=Value.int i t from ru);refine qG ?_;clear qG;exact PySem.P.repr_of_int hi ⟨.str _,H,I.tok _,⟨_,rfl⟩,q⟩
 ·obtain ⟨rfl, q⟩ := h;obtain ⟨u,rfl,ru⟩:=r.one;obtain rfl:=(show u=Value.none from ru);exact PySem.P.repr_of_none ⟨.str _,H,I.tok _,⟨_,rfl⟩,q⟩
 ·obtain ⟨b, rfl, q⟩ := h;obtain ⟨u,rfl,ru⟩:=r.one;obtain rfl:=(show u=Value.bool b from ru);exact PySem.P.repr_of_bool ⟨.str _,H,I.tok _,⟨_,rfl⟩,q⟩
 ·refine aG fun Gg qG => ?_;obtain ⟨a,d,rfl,dv,ok,q⟩:=h;obtain ⟨u,rfl,ru⟩:=r.one;refine qG ?_;clear qG;cases ru;refine aG fun _ qG=>?_;obtain ⟨as,rd⟩:=dv.reads I rfl;obtain ⟨o1,o2,o3,o4⟩:=zoj ok;refine qG ?_;clear qG;exact repr_of_reads' rd o1 (fun z=>by rw [o2] at z;cases z) hr.gd (by have:=hr.un;omega) (fun _ _ e=>e) (fun h' u tk hk=>⟨.str _,H,I.kept (t':=tk) hk,⟨_,rfl⟩,q⟩) o4
theorem zmh {k:Nat} (hr:Room k X.A):zbc X (.type "str") (fun xs H Q=>(∃i,xs=[.int i]/\i.natAbs.log2 < 1920/\Q (.str (toString i)) H)\/zsb xs H Q):=by
 intro pins s σ H xs us Q I r h;rcases h with h | h
 ·exact zhs pins s σ H xs us Q I r h
 ·refine aG fun Gg qG => ?_;obtain ⟨a,d,rfl,dv,ok,q⟩:=h;obtain ⟨u,rfl,ru⟩:=r.one;refine qG ?_;clear qG;cases ru;refine aG fun _ qG=>?_;obtain ⟨as,rd⟩:=dv.reads I rfl;obtain ⟨o1,o2,o3,o4⟩:=zoj ok;refine qG ?_;clear qG;exact str_of_reads rd o1 (fun z=>by rw [o2] at z;cases z) hr.gd (by have:=hr.un;omega) (fun _ _ e=>e) (fun h' u tk hk=>⟨.str _,H,I.kept (t':=tk) hk,⟨_,rfl⟩,q⟩) o4
end
section
variable {K:PySem.W.Frag}{F H:Hp}
noncomputable def zqn (w:W):Option (W × Bool):=(seqW w).bind fun _=>(dW w).bind fun d=>if okD d then some (.str d.shown,false) else none
noncomputable def zey:ON
 | [.int i]=>if i.natAbs.log2 < 1920 then some (.str (toString i),false) else none
 | [.non]=>some (.str "None",false)
 | [.bl b]=>some (.str (if b then "True" else "False"),false)
 | [w]=>zqn w
 | _=>none
noncomputable def zpq:ON
 | [.int i]=>if i.natAbs.log2 < 1920 then some (.str (toString i),false) else none
 | [w]=>zqn w
 | _=>none
theorem zmk {w:W}{v:V}{rv:W × Bool} (s:Same F H) (r:RepB K F H w v) (e:zqn w=some rv):∃a d,v=.ref a/\DV H (.ref a) d/\okD d=true/\rv=(.str d.shown,false):=by
  unfold zqn at e;refine aG fun _ qG=>?_;obtain ⟨ws,hs,e⟩:=bS e;obtain ⟨d,hd,e⟩:=bS e;refine qG ?_;clear qG;split at e
  · rename_i ok
    obtain rfl:=sI e;rcases r with r | ⟨a,o,us,z,rfl,h,q⟩
    · have dv := rep_dv s r hd
      cases r with
      | tup h _=>exact ⟨_,d,rfl,dv,ok,rfl⟩
      | lst h _=>exact ⟨_,d,rfl,dv,ok,rfl⟩
      | frl h _=>exact ⟨_,d,rfl,dv,ok,rfl⟩
      | _=>exact noSome hs
    · subst z
      cases q with
      | dct hl q=>exact noSome hs
      | dctT hl q=>exact noSome hs
      | lst q =>
        rw [dW] at hd;obtain ⟨ds,e1,e2⟩:=bS hd;obtain rfl:=sI e2;exact ⟨a,_,rfl,.lst h (zes s q e1),ok,rfl⟩
  · exact noSome e
theorem oRepr_ok:OpSN K znw zey:=fun F H ws vs rv Q s r e q=>by
  match ws,e with
  | [w],e =>
    obtain ⟨v,e1,hv⟩:=r.one;subst e1;cases w with
    | int i =>
      have e' : (if i.natAbs.log2 < 1920 then some (W.str (toString i),false) else none)=some rv:=e;by_cases z:i.natAbs.log2 < 1920
      · rw [if_pos z] at e'
        obtain rfl:=sI e';exact .inl ⟨i,by rw [hv.int],z,q _ _ (.val (.str _))⟩
      · rw [if_neg z] at e'
        exact noSome e'
    | non =>
      obtain rfl:=sI e;exact .inr (.inl ⟨by rw [hv.non],q _ _ (.val (.str _))⟩)
    | bl b =>
      obtain rfl:=sI e;exact .inr (.inr (.inl ⟨b,by rw [hv.bl],q _ _ (.val (.str _))⟩))
    | _ =>
      obtain ⟨a,d,rfl,dv,ok,rfl⟩:=zmk s hv e;exact .inr (.inr (.inr ⟨a,d,rfl,dv,ok,q _ _ (.val (.str _))⟩))
  | [],e=>exact noSome e
  | a::b::l,e=>cases a<;>exact noSome e
theorem zqs:OpSN K (fun xs H Q=>(∃i,xs=[.int i]/\i.natAbs.log2 < 1920/\Q (.str (toString i)) H)\/zsb xs H Q) zpq:=fun F H ws vs rv Q s r e q=>by
  match ws,e with
  | [w],e =>
    obtain ⟨v,e1,hv⟩:=r.one;subst e1;cases w with
    | int i =>
      have e' : (if i.natAbs.log2 < 1920 then some (W.str (toString i),false) else none)=some rv:=e;by_cases z:i.natAbs.log2 < 1920
      · rw [if_pos z] at e'
        obtain rfl:=sI e';exact .inl ⟨i,by rw [hv.int],z,q _ _ (.val (.str _))⟩
      · rw [if_neg z] at e'
        exact noSome e'
    | _ =>
      obtain ⟨a,d,rfl,dv,ok,rfl⟩:=zmk s hv e;exact .inr ⟨a,d,rfl,dv,ok,q _ _ (.val (.str _))⟩
  | [],e=>exact noSome e
  | a::b::l,e=>cases a<;>exact noSome e
end
end L2
namespace L2
open PySem PySem.Spec PyProof.Rows
noncomputable abbrev Fn:=List W->Option (List W × (W × Bool))
noncomputable def zav (m:List Bool) (ws:List W):En:=List.zipWith (fun w b=>some (w,b)) ws m
noncomputable def spF (K:PySem.W.Frag) (m:List Bool) (Φ:Fn):Sp:=fun vs H Q _=>∃F pr ws ws' r,ws.length=m.length/\ws'.length=m.length/\Rel K F pr (zav m ws) (vs.map some) H/\Φ ws=some (ws',r) /\
 ∀F' H' v,Same F F'->Rel K F' pr (zav m ws') (vs.map some) H'->Res K F' H' pr (zav m ws') (vs.map some) r v->Q v H'
theorem zcx {m:List Bool}{ws:List W}{k:Nat}{w:W}{b:Bool}:(zav m ws)[k]?=some (some (w,b))↔ws[k]?=some w/\m[k]?=some b:=by
 unfold zav;rw [List.getElem?_zipWith];cases ws[k]?<;>cases m[k]?<;>simp
theorem zc4 {m:List Bool}{ws:List W} (h:ws.length=m.length):(zav m ws).length=m.length:=by
 unfold zav;rw [List.length_zipWith,h,Nat.min_self]
theorem zm4 {K:PySem.W.Frag}{m:List Bool}{Φ:Fn}{vs:List V}{H:Hp}{Q:VK}{E:XK} (h:spF K m Φ vs H Q E):vs.length=m.length:=by
 obtain ⟨F,pr,ws,ws',r,h1,_,R,_⟩:=h;have:=R.len;rw [zc4 h1,List.length_map] at this;exact this.symm
noncomputable def isR:W ⊕ Nat->Bool
 | .inr _=>true
 | .inl _=>false
noncomputable def zau (xs:List (W ⊕ Nat)):Cap:=xs.map fun x=>match x with
 | .inr i=>some i
 | .inl _=>none
noncomputable def zak (en:En) (xs:List (W ⊕ Nat)):Bool:=xs.all fun x=>match x with
  | .inr i=>match en[i]? with
    | some (some (_,true))=>true
    | _=>false
  | .inl _=>true
noncomputable def zae (m:List Bool) (Φ:Fn) (as:GAs):GE:=fun en=>(as en).bind fun p=>if decide (p.2.map isR=m) && zak p.1 p.2 && zbl (zau p.2) then (zar p.1 p.2).bind fun ws=>(Φ ws).bind fun q=>if q.1.length=m.length then some (zaw (zau p.2) p.1 (zav m q.1),q.2) else none else none
theorem ArgRs.get {K:PySem.W.Frag}{F:Hp}{σ:St}:∀{xs:List (W ⊕ Nat)}{vs:List V}{k:Nat}{x:W ⊕ Nat},ArgRs K F σ xs vs->xs[k]?=some x->∃v,vs[k]?=some v/\ArgR K F σ x v
  | _,_,_,_,.nil,e=>by simp at e
  | _,_,0,_,.cons h _,e=>by simp at e;subst e;exact ⟨_,rfl,h⟩
  | _,_,k+1,x,.cons _ r,e=>by
    obtain ⟨v,h1,h2⟩:=ArgRs.get (k:=k) (x:=x) r (by simpa using e);exact ⟨v,by simpa using h1,h2⟩
theorem ArgRs.length {K:PySem.W.Frag}{F:Hp}{σ:St}:∀{xs:List (W ⊕ Nat)}{vs:List V},ArgRs K F σ xs vs->xs.length=vs.length
 | _,_,.nil=>rfl
 | _,_,.cons _ r=>congrArg (· + 1) (ArgRs.length r)
theorem zgc {en:En}:∀{xs:List (W ⊕ Nat)}{ws:List W},zar en xs=some ws->ws.length=xs.length
  | [],_,e=>by obtain rfl:=sI e;rfl
  | x::xs,_,e=>by
    obtain ⟨w,_,e⟩:=bS e;obtain ⟨ws,h,e⟩:=bS e;obtain rfl:=sI e;exact congrArg (· + 1) (zgc h)
theorem zg3 {en:En}:∀{xs:List (W ⊕ Nat)}{ws:List W}{k:Nat}{w:W},zar en xs=some ws->ws[k]?=some w->∃x,xs[k]?=some x/\resA en x=some w
  | [],_,_,_,e,h=>by obtain rfl:=sI e;simp at h
  | x::xs,_,k,w,e,h=>by
    obtain ⟨u,hu,e⟩:=bS e;obtain ⟨us,h2,e⟩:=bS e;obtain rfl:=sI e;cases k with
    | zero=>simp at h;subst h;exact ⟨x,rfl,hu⟩
    | succ k=>obtain ⟨y,h3,h4⟩:=zg3 (k:=k) h2 (by simpa using h);exact ⟨y,by simpa using h3,h4⟩
theorem zc3 {xs:List (W ⊕ Nat)}{k i:Nat}:(zau xs)[k]?=some (some i)↔xs[k]?=some (.inr i):=by
 unfold zau;rw [List.getElem?_map];cases e:xs[k]? with
 | none=>simp
 | some x=>cases x<;>simp
section
variable {K:PySem.W.Frag}{F H:Hp}{pr:Prt}{en:En}{σ:St}
theorem Rel.back {cap:Cap}{F' H' : Hp}{ce:En}{σc:St} (R:Rel K F pr en σ H) (s:Same F F') (Rc:Rel K F' (zbe pr cap en σ H) ce σc H') (slot:∀(i j:Nat) (v:V),zaj cap i=some j->σc[j]?=some (some v)->σ[i]?=some (some v)) :
    Rel K F' pr (zaw cap en ce) σ H'/\∀r v,Res K F' H' (zbe pr cap en σ H) ce σc r v->Res K F' H' pr (zaw cap en ce) σ r v:=by
  have un:∀(i:Nat) (w:W),zaj cap i=none->en[i]?=some (some (w,true))->∃(a:Addr) (vs:HO) (ws:W),w=ws/\σ[i]?=some (some (V.ref a))/\H a=some vs/\H' a=some vs/\F' a=none/\OwnR K F ws vs/\∀(j:Nat) (w' : W),ce[j]?=some (some (w',true))->σc[j]?≠some (some (V.ref a)):=fun i w c e=>by
    obtain ⟨a,vs,ws,h1,h2,h3,h4,h5⟩:=R.own i w e;obtain ⟨b1,b2,b3⟩:=Rc.prt a vs (.inr ⟨i,w,e,c,h2,h3⟩);exact ⟨a,vs,ws,h1,h2,h3,b1,b2,h5,b3⟩
  have capt:∀(i j:Nat) (w:W),zaj cap i=some j->ce[j]?=some (some (w,true))->∃(a:Addr) (vs:HO) (ws:W),w=ws/\σ[i]?=some (some (V.ref a))/\σc[j]?=some (some (V.ref a))/\H' a=some vs/\F' a=none/\OwnR K F' ws vs:=fun i j w c e=>by
    obtain ⟨a,vs,ws,h1,h2,h3,h4,h5⟩:=Rc.own j w e;exact ⟨a,vs,ws,h1,slot i j _ c h2,h2,h3,h4,h5⟩
  refine ⟨⟨by unfold zaw;rw [List.length_mapIdx];exact R.len,Rc.sub,fun i w e=>?_,fun i w e=>?_,fun i k a w w' e1 e2 q1 q2=>?_,fun b o q=>?_,Rc.tb.go (fun b ps e f=>⟨e,f⟩) (.refl F') fun b ps e hh o z=>hh o (.inl z)⟩,fun r v z=>?_⟩
  · rcases backEn_get e with ⟨j, c, e⟩ | ⟨c, e⟩
    · obtain ⟨v, h1, h2⟩ := Rc.val j w e
      exact ⟨v,slot i j v c h1,h2⟩
    · obtain ⟨v, h1, h2⟩ := R.val i w e
      exact ⟨v,h1,h2.mono s⟩
  · rcases backEn_get e with ⟨j, c, e⟩ | ⟨c, e⟩
    · obtain ⟨a, vs, ws, h1, h2, _, h3, h4, h5⟩ := capt i j w c e
      exact ⟨a,vs,ws,h1,h2,h3,h4,h5⟩
    · obtain ⟨a, vs, ws, h1, h2, _, h3, h4, h5, _⟩ := un i w c e
      exact ⟨a,vs,ws,h1,h2,h3,h4,h5.mono s⟩
  · rcases backEn_get e1 with ⟨j, c, e1⟩ | ⟨c, e1⟩
    · obtain ⟨a', _, _, _, h2, h3, _⟩ := capt i j w c e1
      rw [q1] at h2;cases h2;rcases backEn_get e2 with ⟨l,c2,e2⟩ | ⟨c2,e2⟩
      · obtain ⟨a', _, _, _, g2, g3, _⟩ := capt k l w' c2 e2
        rw [q2] at g2;cases g2;have:=Rc.inj j l a _ _ e1 e2 h3 g3;subst this;have x:=za1 c;rw [za1 c2] at x;cases x;rfl
      · obtain ⟨a', _, _, _, g2, _, _, _, _, g3⟩ := un k w' c2 e2
        rw [q2] at g2;cases g2;exact absurd h3 (g3 j w e1)
    · obtain ⟨a', _, _, _, h2, _, _, _, _, h3⟩ := un i w c e1
      rw [q1] at h2;cases h2;rcases backEn_get e2 with ⟨l,c2,e2⟩ | ⟨c2,e2⟩
      · obtain ⟨a', _, _, _, g2, g3, _⟩ := capt k l w' c2 e2
        rw [q2] at g2;cases g2;exact absurd g3 (h3 l w' e2)
      · exact R.inj i k a _ _ e1 e2 q1 q2
  · obtain ⟨b1, b2, b3⟩ := Rc.prt b o (.inl q)
    refine ⟨b1,b2,fun i w e=>?_⟩;rcases backEn_get e with ⟨j,c,e⟩ | ⟨c,e⟩
    · obtain ⟨a, _, _, _, h2, h3, _⟩ := capt i j w c e
      rw [h2];intro z;cases z;exact b3 j w e h3
    · exact (R.prt b o q).2.2 i w e
  · obtain ⟨w, fl⟩ := r
    cases fl with
    | false=>exact z
    | true =>
      obtain ⟨a,vs,ws,q1,q2,q3,q4,q5,q6,q7⟩:=z;refine ⟨a,vs,ws,q1,q2,q3,q4,q5,fun i w' e=>?_,fun b o p=>q7 b o (.inl p)⟩;rcases backEn_get e with ⟨j,c,e⟩ | ⟨c,e⟩
      · obtain ⟨a', _, _, _, h2, h3, _⟩ := capt i j w' c e
        rw [h2];intro z;cases z;exact q6 j w' e h3
      · obtain ⟨a', vs', ws', h1, h2, h3, h4, h5⟩ := R.own i w' e
        rw [h2];intro z;cases z;exact q7 a vs' (.inr ⟨i,w',e,c,h2,h3⟩) rfl
theorem zt4 {m:List Bool}{Φ:Fn}{xs:List (W ⊕ Nat)}{e1 en' : En}{F1 H1:Hp}{vs:List V}{r:W × Bool}{Q:VK}{E:XK} (R1:Rel K F1 pr e1 σ H1) (a1:ArgRs K F1 σ xs vs)
    (h:(if decide (xs.map isR=m) && zak e1 xs && zbl (zau xs) then (zar e1 xs).bind fun ws=>(Φ ws).bind fun q=>if q.1.length=m.length then some (zaw (zau xs) e1 (zav m q.1),q.2) else none else none)=some (en',r))
    (q:∀F' H' v,Same F1 F'->Rel K F' pr en' σ H'->Res K F' H' pr en' σ r v->Q v H'):spF K m Φ vs H1 Q E:=by
  split at h
  · rename_i z
    rw [Bool.and_eq_true,Bool.and_eq_true] at z;obtain ⟨⟨z1,z2⟩,nd⟩:=z;have hm:xs.map isR=m:=of_decide_eq_true z1;refine aG fun _ qG=>?_;obtain ⟨ws,h2,h⟩:=bS h;obtain ⟨⟨ws',r'⟩,h3,h⟩:=bS h;refine qG ?_;clear qG;split at h
    · rename_i hl
      cases h;have lx:ws.length=xs.length:=zgc h2;have lm:xs.length=m.length:=by rw [<-hm,List.length_map]
      have lv:=a1.length;have at' : ∀(k:Nat) (w:W) (b:Bool),(zav m ws)[k]?=some (some (w,b))->∃x v,xs[k]?=some x/\isR x=b/\resA e1 x=some w/\vs[k]?=some v/\ArgR K F1 σ x v:=fun k w b e=>by
        refine aG fun _ qG=>?_;obtain ⟨g1,g2⟩:=zcx.mp e;obtain ⟨x,g3,g4⟩:=zg3 h2 g1;obtain ⟨v,g5,g6⟩:=a1.get g3;refine qG ?_;clear qG;rw [<-hm,List.getElem?_map,g3] at g2;exact ⟨x,v,g3,sI g2,g4,g5,g6⟩
      have ow:∀(k:Nat) (w:W),(zav m ws)[k]?=some (some (w,true))->∃i v,xs[k]?=some (.inr i)/\e1[i]?=some (some (w,true))/\vs[k]?=some v/\σ[i]?=some (some v):=fun k w e=>by
        refine aG fun _ qG=>?_;obtain ⟨x,v,g1,g2,g3,g4,g5⟩:=at' k w true e;refine qG ?_;clear qG;cases x with
        | inl _=>cases g2
        | inr i =>
          refine ⟨i,v,g1,?_,g4,g5⟩;have o:=List.all_eq_true.mp z2 _ (List.mem_of_getElem? g1);simp only at o;split at o
          · rename_i w0 e0
            unfold resA at g3;simp only [e0] at g3;obtain rfl:=sI g3;exact e0
          · cases o
      have RC:Rel K F1 (zbe pr (zau xs) e1 σ H1) (zav m ws) (vs.map some) H1:=by
        refine ⟨by rw [zc4 (by omega),List.length_map];omega,R1.sub,fun k w e=>?_,fun k w e=>?_,fun k l a w w' g1 g2 g3 g4=>?_,fun b o p=>?_,R1.tb.go (fun b ps e f=>⟨e,f⟩) (.refl F1) fun b ps e hh o z=>ze5 R1 e hh o z⟩
        · refine aG fun Gg qG => ?_
          obtain ⟨x,v,g1,g2,g3,g4,g5⟩:=at' k w false e;refine qG ?_;clear qG;cases x with
          | inr _=>cases g2
          | inl u=>obtain rfl:=sI g3;exact ⟨v,by rw [List.getElem?_map,g4];rfl,g5⟩
        · refine aG fun Gg qG => ?_
          obtain ⟨i,v,g1,g2,g3,g4⟩:=ow k w e;obtain ⟨a,us,wz,p1,p2,p3,p4,p5⟩:=R1.own i w g2;refine qG ?_;clear qG;rw [g4] at p2;cases p2;exact ⟨a,us,wz,p1,by rw [List.getElem?_map,g3];rfl,p3,p4,p5⟩
        · refine aG fun Gg qG => ?_
          obtain ⟨i,v,k1,k2,k3,k4⟩:=ow k w g1;obtain ⟨i',v',l1,l2,l3,l4⟩:=ow l w' g2;refine qG ?_;clear qG;rw [List.getElem?_map,k3] at g3;cases g3;rw [List.getElem?_map,l3] at g4;cases g4;have:=R1.inj i i' a _ _ k2 l2 k4 l4;subst this;have y:=zdr nd (zc3.mpr k1);rw [zdr nd (zc3.mpr l1)] at y;exact (sI y).symm
        · rcases p with p | ⟨j, w, p1, p2, p3, p4⟩
          · obtain ⟨b1, b2, b3⟩ := R1.prt b o p
            refine ⟨b1,b2,fun k w e=>?_⟩;refine aG fun _ qG=>?_;obtain ⟨i,v,g1,g2,g3,g4⟩:=ow k w e;refine qG ?_;clear qG;rw [List.getElem?_map,g3];intro y;cases y;exact b3 i w g2 g4
          · refine aG fun Gg qG => ?_
            obtain ⟨a,us,wz,p1',p2',p3',p4',p5'⟩:=R1.own j w p1;refine qG ?_;clear qG;rw [p3] at p2';cases p2';refine ⟨p4,p4',fun k w' e=>?_⟩;refine aG fun _ qG=>?_;obtain ⟨i,v,g1,g2,g3,g4⟩:=ow k w' e;refine qG ?_;clear qG;rw [List.getElem?_map,g3];intro y;cases y;have:=R1.inj i j _ _ _ g2 p1 g4 p3;subst this;exact zbs p2 k (zc3.mpr g1)
      refine ⟨F1,zbe pr (zau xs) e1 σ H1,ws,ws',_,by omega,hl,RC,h3,fun F2 H2 v s2 R2 y2=>?_⟩;obtain ⟨Ro,rz⟩:=R1.back s2 R2 fun i j v c e=>by
        have c':=zc3.mp (za1 c);obtain ⟨v',g1,g2⟩:=a1.get c';rw [List.getElem?_map,g1] at e;cases e;exact g2
      exact q F2 H2 v s2 Ro (rz _ _ y2)
    · cases h
  · cases h
theorem zl8 {m:List Bool}{Φ:Fn}{as:GAs}{Q:VK} (h:tE K (zae m Φ as) σ H Q):zs1 (spF K m Φ) [] E0 (tAs K as) σ H Q:=by
 refine aG fun _ qG=>?_;obtain ⟨F,pr,en,en',r,R,h,q⟩:=h;obtain ⟨⟨e1,xs⟩,h1,h⟩:=bS h;refine qG ?_;clear qG;refine ⟨F,pr,en,e1,xs,R,h1,fun F1 H1 vs s1 R1 a1=>?_⟩;show spF K m Φ (vs++[]) H1 Q E0;rw [List.append_nil];exact zt4 R1 a1 h fun F' H' v s'=>q F' H' v (s1.trans s')
end
noncomputable def zbr:List Bool->List W->En->Option (List W)
 | [],[],_=>some []
 | true::m,_::ws,some (w,true)::en=>(zbr m ws en).bind fun r=>some (w::r)
 | false::m,w::ws,_::en=>(zbr m ws en).bind fun r=>some (w::r)
 | _,_,_=>none
noncomputable def mpOf (m:List Bool):List Nat:=(List.range m.length).filter fun k=>m[k]? == some true
noncomputable def zal (m:List Bool) (n:Nat) (g:GS):Fn:=fun ws=>if ws.length=m.length then match g (zav m ws++List.replicate (n - m.length) none) with
 | some (en,.ret r)=>(zbr m ws en).bind fun ws'=>some (ws',r)
 | some (en,.nx)=>(zbr m ws en).bind fun ws'=>some (ws',(.non,false))
 | _=>none else none
theorem zfr:∀{m:List Bool}{ws:List W}{en:En}{ws' : List W},zbr m ws en=some ws'->ws'.length=m.length/\∀(k:Nat) (w:W),ws'[k]?=some w->(m[k]?=some true->en[k]?=some (some (w,true)))/\(m[k]?=some false->ws[k]?=some w)
  | [],[],_,_,e=>by obtain rfl:=sI e;exact ⟨rfl,fun k w h=>by simp at h⟩
  | true::m,_::ws,some (u,true)::en,_,e=>by
    obtain ⟨r,h,e⟩:=bS (show (zbr m ws en).bind _=_ from e);obtain rfl:=sI e;obtain ⟨h1,h2⟩:=zfr h;refine ⟨congrArg (· + 1) h1,fun k w hk=>?_⟩;cases k with
    | zero=>simp at hk;subst hk;exact ⟨fun _=>rfl,fun z=>by simp at z⟩
    | succ k =>
      have:=h2 k w (by simpa using hk);exact ⟨fun z=>by simpa using this.1 (by simpa using z),fun z=>by simpa using this.2 (by simpa using z)⟩
  | false::m,u::ws,_::en,_,e=>by
    obtain ⟨r,h,e⟩:=bS (show (zbr m ws en).bind _=_ from e);obtain rfl:=sI e;obtain ⟨h1,h2⟩:=zfr h;refine ⟨congrArg (· + 1) h1,fun k w hk=>?_⟩;cases k with
    | zero=>simp at hk;subst hk;exact ⟨fun z=>by simp at z,fun _=>rfl⟩
    | succ k =>
      have:=h2 k w (by simpa using hk);exact ⟨fun z=>by simpa using this.1 (by simpa using z),fun z=>by simpa using this.2 (by simpa using z)⟩
  | [],_::_,_,_,e=>by exact noSome e
  | true::_,[],_,_,e=>by exact noSome e
  | false::_,[],_,_,e=>by exact noSome e
  | true::_,_::_,[],_,e=>by exact noSome e
  | false::_,_::_,[],_,e=>by exact noSome e
  | true::_,_::_,none::_,_,e=>by exact noSome e
  | true::_,_::_,some (_,false)::_,_,e=>by exact noSome e
theorem ztx {K:PySem.W.Frag}{m:List Bool}{N:List Str}{g:GS}{vs:List V}{H:Hp}{Q:VK}{E:XK} (h:spF K m (zal m N.length g) vs H Q E):tS K (mpOf m) g { nx:=fun _ H'=>Q .non H',rt:=Q } (start N vs) H:=by
  have hv:=zm4 h;refine aG fun _ qG=>?_;obtain ⟨F,pr,ws,ws',r,h1,h2,R,h3,q⟩:=h;refine qG ?_;clear qG;unfold zal at h3;rw [if_pos h1] at h3;have la:=zc4 h1;have pad:∀(i:Nat) (x:W × Bool),(zav m ws++List.replicate (N.length - m.length) none)[i]?=some (some x)->(zav m ws)[i]?=some (some x):=fun i x e=>by
    by_cases hi:i < (zav m ws).length
    · rw [List.getElem?_append_left hi] at e;exact e
    · rw [List.getElem?_append_right (by omega), List.getElem?_replicate] at e
      split at e<;>cases e
  have st:∀(i:Nat) (v:V),(vs.map some)[i]?=some (some v)->(start N vs)[i]?=some (some v):=fun i v e=>by
    unfold start;rw [List.getElem?_append_left (by have:=(List.getElem?_eq_some_iff.mp e).1;exact this)];exact e
  have st' : ∀(i:Nat) (v:V),i < m.length->(start N vs)[i]?=some (some v)->(vs.map some)[i]?=some (some v):=fun i v hi e=>by
    unfold start at e;rw [List.getElem?_append_left (by rw [List.length_map];omega)] at e;exact e
  have R0:Rel K F pr (zav m ws++List.replicate (N.length - m.length) none) (start N vs) H:=by
    refine ⟨?_,R.sub,fun i w e=>?_,fun i w e=>?_,fun i j a w w' e1 e2 q1 q2=>?_,fun b o p=>?_,R.tb⟩
    · unfold start
      rw [List.length_append,List.length_append,List.length_replicate,List.length_replicate,List.length_map,la,hv]
    · obtain ⟨v, g1, g2⟩ := R.val i w (pad i _ e)
      exact ⟨v,st i v g1,g2⟩
    · refine aG fun Gg qG => ?_
      obtain ⟨a,us,wz,g1,g2,g3⟩:=R.own i w (pad i _ e);refine qG ?_;clear qG;exact ⟨a,us,wz,g1,st i _ g2,g3⟩
    · have l1 : i < m.length := by have := (List.getElem?_eq_some_iff.mp (pad i _ e1)).1; omega
      have l2:j < m.length:=by have:=(List.getElem?_eq_some_iff.mp (pad j _ e2)).1;omega
      exact R.inj i j a w w' (pad i _ e1) (pad j _ e2) (st' i _ l1 q1) (st' j _ l2 q2)
    · obtain ⟨b1, b2, b3⟩ := R.prt b o p
      refine ⟨b1,b2,fun i w e z=>?_⟩;have l1:i < m.length:=by have:=(List.getElem?_eq_some_iff.mp (pad i _ e)).1;omega
      exact b3 i w (pad i _ e) (st' i _ l1 z)
  have back:∀(en:En) (wz:List W) (F' : Hp) (σ' : St) (H' : Hp),zbr m ws en=some wz->Same F F'->Rel K F' pr en σ' H'->Keep (mpOf m) (start N vs) σ' ->
      Rel K F' pr (zav m wz) (vs.map some) H'/\∀r v,Res K F' H' pr en σ' r v->Res K F' H' pr (zav m wz) (vs.map some) r v:=fun en wz F' σ' H' ho s' R' k'=>by
    obtain ⟨o1,o2⟩:=zfr ho;have own:∀(k:Nat) (w:W),(zav m wz)[k]?=some (some (w,true))->en[k]?=some (some (w,true))/\∀v,σ'[k]?=some (some v)↔(vs.map some)[k]?=some (some v):=fun k w e=>by
      obtain ⟨g1,g2⟩:=zcx.mp e;have lk:k < m.length:=(List.getElem?_eq_some_iff.mp g2).1;have hk:k∈mpOf m:=List.mem_filter.mpr ⟨List.mem_range.mpr lk,by rw [g2];simp⟩;refine ⟨(o2 k w g1).1 g2,fun v=>?_⟩;rw [k' k hk];exact ⟨st' k v lk,st k v⟩
    refine ⟨⟨by rw [zc4 o1,List.length_map,hv],R'.sub,fun k w e=>?_,fun k w e=>?_,fun k l a w w' e1 e2 q1 q2=>?_,fun b o p=>?_,R'.tb⟩,fun r v z=>?_⟩
    · refine aG fun Gg qG => ?_
      obtain ⟨g1,g2⟩:=zcx.mp e;obtain ⟨v,g3,g4⟩:=R.val k w (zcx.mpr ⟨(o2 k w g1).2 g2,g2⟩);refine qG ?_;clear qG;exact ⟨v,g3,g4.mono s'⟩
    · refine aG fun Gg qG => ?_
      obtain ⟨g1,g2⟩:=own k w e;obtain ⟨a,us,wz,p1,p2,p3⟩:=R'.own k w g1;refine qG ?_;clear qG;exact ⟨a,us,wz,p1,(g2 _).mp p2,p3⟩
    · obtain ⟨g1, g2⟩ := own k w e1
      obtain ⟨g3,g4⟩:=own l w' e2;exact R'.inj k l a _ _ g1 g3 ((g2 _).mpr q1) ((g4 _).mpr q2)
    · obtain ⟨b1, b2, b3⟩ := R'.prt b o p
      refine ⟨b1,b2,fun k w e z=>?_⟩;obtain ⟨g1,g2⟩:=own k w e;exact b3 k w g1 ((g2 _).mpr z)
    · obtain ⟨w0, fl⟩ := r
      cases fl with
      | false=>exact z
      | true =>
        refine aG fun _ qG=>?_;obtain ⟨a,us,wz',q1,q2,q3,q4,q5,q6,q7⟩:=z;refine qG ?_;clear qG;refine ⟨a,us,wz',q1,q2,q3,q4,q5,fun k w e y=>?_,q7⟩;obtain ⟨g1,g2⟩:=own k w e;exact q6 k w g1 ((g2 _).mpr y)
  cases eg:g (zav m ws++List.replicate (N.length - m.length) none) with
  | none=>simp only [eg] at h3;exact noSome h3
  | some p =>
    obtain ⟨en,fl⟩:=p;refine ⟨F,pr,_,en,fl,R0,eg,?_⟩;cases fl with
    | brk=>simp only [eg] at h3;exact noSome h3
    | cnt=>simp only [eg] at h3;exact noSome h3
    | nx =>
      simp only [eg] at h3;obtain ⟨wz,ho,h3⟩:=bS h3;cases h3;intro F' σ' H' s' R' k';obtain ⟨Rb,_⟩:=back en ws' F' σ' H' ho s' R' k';exact q F' H' .non s' Rb .non
    | ret r' =>
      simp only [eg] at h3;obtain ⟨wz,ho,h3⟩:=bS h3;cases h3;intro F' σ' H' v s' R' k' z;obtain ⟨Rb,rb⟩:=back en ws' F' σ' H' ho s' R' k';exact q F' H' v s' Rb (rb _ _ z)
end L2
set_option maxHeartbeats 4000000
namespace L2
open PySem PyProof.Rows
namespace Tim
theorem aG {P:Prop} (h:∀G:Prop,(P->G)->G):P:=h P id
structure Ord (lt:Keyed->Keyed->Bool) (bf le:Keyed->Keyed->Prop):Prop where
 tr:∀{x y z},le x y->le y z->le x z
 tot:∀x y,le x y\/le y x
 f1:∀{x y},bf x y->(lt y x=false↔le x y)
 f2:∀{x y},lt x y=true->le x y
 irr:∀x,lt x x=false
 ltr:∀{x y z},lt x y=true->lt y z=true->lt x z=true
 nt:∀{x z} (y),lt x z=true->lt x y=true\/lt y z=true
section
variable {lt:Keyed->Keyed->Bool}{bf le:Keyed->Keyed->Prop} (O:Ord lt bf le)
include O
end
noncomputable abbrev d0:Keyed:=(Value.none,Value.none)
noncomputable def G (xs:Array Keyed) (i:Nat):Keyed:=(xs[i]?).getD d0
section
variable {prog:Program}{w:World}{A:Around}{E:Value->Shared->Prop}{s:Shared}{κ:SortKind}{a₀:Array Keyed}{lt:Keyed->Keyed->Bool}{st:SortSt}
end
end Tim
end L2
namespace L2
open PySem PyProof.Rows
namespace Tim
noncomputable def Srt (le:Keyed->Keyed->Prop) (xs:Array Keyed) (lo hi:Nat):Prop:=∀i j,lo<=i->i < j->j < hi->le (G xs i) (G xs j)
noncomputable def Cut (bf:Keyed->Keyed->Prop) (xs:Array Keyed) (c:Nat):Prop:=∀i j,i < c->c<=j->j < xs.size->bf (G xs i) (G xs j)
section
variable {prog:Program}{w:World}{A:Around}{E:Value->Shared->Prop}{s:Shared}{κ:SortKind}{a₀:Array Keyed}{lt:Keyed->Keyed->Bool}{bf le:Keyed->Keyed->Prop}{st:SortSt}{pd:Array (Nat × Nat × Nat)}
end
end Tim
end L2
namespace L2
open PySem PyProof.Rows
namespace Tim
section
variable {prog:Program}{w:World}{A:Around}{E:Value->Shared->Prop}{s:Shared}{κ:SortKind}{a₀:Array Keyed}{lt:Keyed->Keyed->Bool}{bf le:Keyed->Keyed->Prop}{st:SortSt}{pd:Array (Nat × Nat × Nat)}
end
end Tim
end L2
namespace L2
open PySem PyProof.Rows
namespace Tim
structure Fin (le:Keyed->Keyed->Prop) (a b:Array Keyed) (r:List Keyed):Prop where
 p:r.Perm (a.toList++b.toList)
 s:r.Pairwise le
section
variable {lt:Keyed->Keyed->Bool}{bf le:Keyed->Keyed->Prop} (O:Ord lt bf le) {a b:Array Keyed}{o:List Keyed}{ia ib na nb:Nat} (Sa:Srt le a 0 a.size) (Sb:Srt le b 0 b.size)
end
end Tim
end L2
namespace L2
open PySem PyProof.Rows
namespace Tim
section
variable {prog:Program}{w:World}{A:Around}{E:Value->Shared->Prop}{s:Shared}{κ:SortKind}{a₀:Array Keyed}{lt:Keyed->Keyed->Bool}{bf le:Keyed->Keyed->Prop}{st:SortSt}{pd:Array (Nat × Nat × Nat)}
end
end Tim
end L2
namespace L2
open PySem PyProof.Rows
namespace Tim
section
variable {prog:Program}{w:World}{A:Around}{E:Value->Shared->Prop}{s:Shared}{κ:SortKind}{a₀:Array Keyed}{lt:Keyed->Keyed->Bool}{bf le:Keyed->Keyed->Prop}{st:SortSt}{pd:Array (Nat × Nat × Nat)}
variable {a b out:Array Keyed}{o:List Keyed}{na nb at_:Nat}
end
end Tim
end L2
namespace L2
open PySem PyProof.Rows
namespace Tim
section
variable (bf le:Keyed->Keyed->Prop)
noncomputable def zw4 (xs:Array Keyed):Nat->List (Nat × Nat × Nat)->Nat->Prop
 | c,[],hi=>c=hi
 | c,(s0,n,_)::r,hi=>s0=c/\1<=n/\Srt le xs c (c+n)/\Cut bf xs c/\zw4 xs (c+n) r hi
end
section
variable {bf le:Keyed->Keyed->Prop}{xs ys:Array Keyed}
end
section
variable {prog:Program}{w:World}{A:Around}{E:Value->Shared->Prop}{s:Shared}{κ:SortKind}{a₀:Array Keyed}{lt:Keyed->Keyed->Bool}{bf le:Keyed->Keyed->Prop}{st:SortSt}{pd:Array (Nat × Nat × Nat)}
end
end Tim
end L2
namespace L2
open PySem PyProof.Rows
namespace Tim
section
variable {prog:Program}{w:World}{A:Around}{E:Value->Shared->Prop}{s:Shared}{κ:SortKind}{a₀:Array Keyed}{lt:Keyed->Keyed->Bool}{bf le:Keyed->Keyed->Prop}{st:SortSt}{pd:Array (Nat × Nat × Nat)}
structure SP (κ:SortKind) (bf le:Keyed->Keyed->Prop) (a₀:Array Keyed) (lo:Nat) (st:SortSt):Prop where
 kind:kindOf st=κ
 failed:failedOf st=none
 perm:(arrOf st).Perm a₀
 ch:zw4 bf le (arrOf st) 0 (pendingOf st).toList lo
 cut:∀c,lo<=c->Cut bf (arrOf st) c
end
end Tim
end L2
namespace L2
open PySem PySem.Spec PyProof.Rows
open PySem.AutoSeq1 (wpAny_loadPart')
open PySem.SeqAt
section
variable {prog:Program}{w:World}{A:Around}{E:Value->Shared->Prop}{s:Shared}{a₀:Array Keyed}
end
end L2
namespace L2
open PySem PySem.Spec PyProof.Rows
section
variable {prog:Program}{w:World}{A:Around}{E:Value->Shared->Prop}{s:Shared}{a kS:Addr}{e e1:Nat}{keys:Array Value}{vs:List Value}{P:PySem.Fin->Shared->Prop}
end
end L2
namespace L2
open PySem PySem.Spec PyProof.Rows
end L2
namespace L2
open PySem PySem.Spec PyProof.Rows
section
variable {X:Cx}{pins:List (Addr × Obj)}{σ:St}{H:Hp}{s:Shared}
end
end L2
namespace L2
open PySem PySem.Spec PyProof.Rows
section
variable {X:Cx}{pins:List (Addr × Obj)}{σ:St}{H F:Hp}{s:Shared}
end
end L2
namespace L2
open PySem PySem.Spec PyProof.Rows
section
variable {X:Cx}{pins:List (Addr × Obj)}{σ:St}{H F:Hp}{s:Shared}{pr:Prt}{en:En}
end
end L2
namespace L2
open PySem PySem.Spec PyProof.Rows
section
variable {prog:Program}{w:World}{A:Around}{E:Value->Shared->Prop}{s:Shared}{a:Addr}{vs:List Value}{P:PySem.Fin->Shared->Prop}
end
section
variable {X:Cx}
end
end L2
namespace L2
open PySem PySem.Spec PyProof.Rows
structure Sx where
 N:List Str
 kd:List (Str × NameKind)
 bn:List Str
 fs:List (Str × (List Bool × Fn))
 mp:List Nat
 top:Bool
 nm:Str := ""
 dp:Nat:=0
noncomputable def Sx.rd (S:Sx) (x:Str):Option Nat:=if x == ("__debug__" : Str) || x == ("__classdict__" : Str) then none else match S.kd.lookup x with
 | some .local=>S.N.findIdx? (· == x)
 | some .cell=>S.N.findIdx? (· == x)
 | some .free=>S.N.findIdx? (· == x)
 | _=>none
noncomputable def Sx.wr (S:Sx) (x:Str):Option Nat:=match S.kd.lookup x with
 | some .local=>S.N.findIdx? (· == x)
 | some .cell=>S.N.findIdx? (· == x)
 | _=>none
noncomputable def Sx.bl (S:Sx) (x:Str):Bool:=S.kd.lookup x == some .globalImplicit && S.bn.contains x
structure CxOk (X:Cx) (S:Sx) (d:Nat):Prop where
 N:X.N=S.N
 nd:S.N.Nodup
 loc:∀x,S.kd.lookup x=some .local->X.env.scope.names.lookup x=some .local
 cel:∀x,S.kd.lookup x=some .cell->X.env.scope.names.lookup x=some .cell/\X.fn x=true
 vis:∀x,S.kd.lookup x=some .cell\/S.kd.lookup x=some .free->X.env.scope.names.lookup x=some .cell\/X.env.scope.names.lookup x=some .free
 gl:∀x,S.kd.lookup x=some .globalImplicit->Gl X x
 calm:X.calm=true
 xe:X.xe=fun _ _=>False
 bn:∀x∈S.bn,X.mg x=none
 fs:∀x m Φ,S.fs.lookup x=some (m,Φ)->∃ps,ps.length=m.length/\Cal X.prog X.w X.K X.mg X.base d x ps (spF X.K m Φ)
 room:Room d X.A
 sl:X.A.units+16 * d+205 < cLine
 bk:X.env.blockKind=.function
 lam:S.nm∈lams->∃c P,PySem.W.tabIn X.K S.nm=some (c,P)/\PySem.W.codeHdIn X.K c P=true/\X.env.code=.ref c/\X.env.qual=S.nm++".<locals>."
 dpo:S.dp<=d
theorem zd1 {N:List Str}{x:Str}{i:Nat} (h:N.findIdx? (· == x)=some i):N[i]?=some x:=by
 obtain ⟨hl,h1,_⟩:=List.findIdx?_eq_some_iff_getElem.mp h;rw [List.getElem?_eq_getElem hl];have:N[i]=x:=by simpa using h1
 rw [this]
section
variable {X:Cx}{S:Sx}{d:Nat}
theorem zny (C:CxOk X S d) {x:Str}{i:Nat}{pos:Pos} (h:S.rd x=some i):PE X (.Name x pos) (tVar i):=by
 unfold Sx.rd at h;split at h
 ·exact noSome h
 ·rename_i z;rw [Bool.or_eq_true,not_or,Bool.not_eq_true,Bool.not_eq_true] at z;split at h
  ·rename_i e;exact zou (by rw [C.N];exact zd1 h) (.inl (C.loc x e)) z.1 z.2
  ·rename_i e;exact zou (by rw [C.N];exact zd1 h) (.inr (C.vis x (.inl e))) z.1 z.2
  ·rename_i e;exact zou (by rw [C.N];exact zd1 h) (.inr (C.vis x (.inr e))) z.1 z.2
  ·exact noSome h
theorem zrb (C:CxOk X S d) {x:Str}{i:Nat} (h:S.wr x=some i):X.N[i]?=some x/\Loc X.env.scope x/\(X.fn x=true\/X.env.scope.names.lookup x=some .local):=by
 unfold Sx.wr at h;split at h
 ·rename_i e;exact ⟨by rw [C.N];exact zd1 h,.inl (C.loc x e),.inr (C.loc x e)⟩
 ·rename_i e;exact ⟨by rw [C.N];exact zd1 h,.inr (C.cel x e).1,.inl (C.cel x e).2⟩
 ·exact noSome h
theorem ze1 (C:CxOk X S d) {x:Str} (h:S.bl x=true):Gl X x/\X.mg x=none:=by
 unfold Sx.bl at h;rw [Bool.and_eq_true] at h;exact ⟨C.gl x (by simpa using h.1),C.bn x (by simpa using h.2)⟩
theorem ndN (C:CxOk X S d):X.N.Nodup:=by rw [C.N];exact C.nd
end
noncomputable def zkf:Expr->Bool
 | .Set ..=>false
 | _=>true
noncomputable def zb5:Expr->Bool
 | .Slice ..=>false
 | _=>true
noncomputable def zd5:Expr->Bool
 | .ListComp ..=>false
 | .SetComp ..=>false
 | .DictComp ..=>false
 | _=>true
noncomputable def zjv:Expr->Bool
 | .UnaryOp .Not _ _=>false
 | .BoolOp ..=>false
 | .IfExp ..=>false
 | .Compare ..=>false
 | _=>true
theorem zd2 {e:Expr}{env:Env} (h:zkf e=true):∀x,foldedSetIterable e env x=pure x:=by
 intro x;cases e<;>first | rfl | (cases h)
theorem zjw {op:CmpOp}{e:Expr} (h:zkf e=true):behindInMarks op e=false:=by
 cases e<;>first | rfl | (cases h)
theorem zfa {e:Expr} (h:zb5 e=true):zmy e:=fun o i=>by
 cases e<;>first | rfl | (cases h)
theorem zj3 {e:Expr}{t:Option Expr}{l:Nat}{env:Env} (h:zd5 e=true):swapsWith e t l env=pure false:=by
 cases e<;>first | rfl | (cases h)
theorem zlg {e:Expr}{env:Env} (h:zjv e=true):∀whole,isTrue e env whole=(do let v <- whole;standAt e.pos;holding [v] (truthy v)):=by
 intro whole;cases e with
 | UnaryOp op _ _=>cases op<;>first | rfl | (cases h)
 | _=>first | rfl | (cases h)
theorem zfe {es:List Expr}{env:Env}{pos:Pos} (h:es.all zah=true):(backTo pos (starEach es env)).any (·.1)=false:=by
  induction es with
  | nil=>rfl
  | cons e es ih =>
    rw [List.all_cons,Bool.and_eq_true] at h;rw [zag h.1];show (false || (backTo pos (starEach es env)).any (·.1))=false;rw [ih h.2]
    rfl
noncomputable def cPow (i j:Int):Bool:=decide (0<=j) && decide (j<=1000000) && decide (i.natAbs < 2 ^ 64)
noncomputable def cMul (i j:Int):Bool:=(decide (-(2 ^ 64) < i) && decide (i < 2 ^ 64)) || (decide (-(2 ^ 64) < j) && decide (j < 2 ^ 64))
noncomputable def zkw (i j:Int):Bool:=decide (Builtin.Int.intBits i<=2 ^ 20) && decide (Builtin.Int.intBits j<=2 ^ 20)
noncomputable def cDiv (i j:Int):Bool:=decide (0 < j) && decide (j.natAbs.log2 < 9000)
noncomputable def yes2 (_ _:Int):Bool:=true
noncomputable def oAdd:O2:=oOr (oI yes2 fun i j=>.int (i+j)) (oOr oCat (oOr zpv (oOr zuk zqm)))
noncomputable def oMult:O2:=oOr (oI cMul fun i j=>.int (i * j)) (oOr (oI zkw fun i j=>.int (i * j)) oRep)
noncomputable def binO:Operator->Option O2
 | .Add=>some oAdd
 | .Sub=>some (oI yes2 fun i j=>.int (i - j))
 | .Mult=>some oMult
 | .FloorDiv=>some (oI cDiv fun i j=>.int (i / j))
 | .Mod=>some (oI (fun _ j=>decide (0 < j)) fun i j=>.int (i % j))
 | .Pow=>some (oI cPow fun i j=>.int (i ^ j.toNat))
 | .LShift=>some (oI cPow fun i j=>.int (i * 2 ^ j.toNat))
 | .RShift=>some (oI (fun _ j=>decide (0<=j)) fun i j=>.int (i / 2 ^ j.toNat))
 | .BitAnd=>some (oI yes2 fun i j=>.int (Builtin.bitAnd i j))
 | .BitOr=>some (oI yes2 fun i j=>.int (Builtin.bitOr i j))
 | .BitXor=>some (oI yes2 fun i j=>.int (Builtin.bitXor i j))
 | _=>none
theorem zmb {i j:Int} (h:cPow i j=true):CPow i j:=by
 unfold cPow at h;rw [Bool.and_eq_true,Bool.and_eq_true] at h;exact ⟨of_decide_eq_true h.1.1,of_decide_eq_true h.1.2,of_decide_eq_true h.2⟩
theorem zna {i j:Int} (h:cMul i j=true):CMul i j:=by
 unfold cMul at h;rw [Bool.or_eq_true,Bool.and_eq_true,Bool.and_eq_true] at h;rcases h with h | h
 ·exact .inl ⟨of_decide_eq_true h.1,of_decide_eq_true h.2⟩
 ·exact .inr ⟨of_decide_eq_true h.1,of_decide_eq_true h.2⟩
theorem zqx {i j:Int} (h:zkw i j=true):zxj i j:=by
 unfold zkw at h;rw [Bool.and_eq_true] at h;exact ⟨of_decide_eq_true h.1,of_decide_eq_true h.2⟩
theorem zsv {i j:Int} (h:cDiv i j=true):0 < j/\j.natAbs.log2 < 9000:=by
 unfold cDiv at h;rw [Bool.and_eq_true] at h;exact ⟨of_decide_eq_true h.1,of_decide_eq_true h.2⟩
section
variable {X:Cx}
theorem zts {op:Operator}{o:O2} (h:binO op=some o):∃r,OpR X (binaryOp op) r/\OpS X.K r o:=by
 cases op with
 | Add=>obtain rfl:=sI h;exact ⟨_,zwo.or (zx1.or (zt2.or (ztc.or zkq))),(zbh fun _ _ _=>.int _).or (zu4.or (zqi.or (zp3.or zpt)))⟩
 | Sub=>obtain rfl:=sI h;exact ⟨_,zxe,zbh fun _ _ _=>.int _⟩
 | Mult=>obtain rfl:=sI h;exact ⟨_,zwt.or (ztz.or zwr),(zg6 (fun _ _=>zna) fun _ _ _=>.int _).or ((zg6 (fun _ _=>zqx) fun _ _ _=>.int _).or zsz)⟩
 | FloorDiv=>obtain rfl:=sI h;exact ⟨_,zqk,zg6 (fun _ _=>zsv) fun _ _ _=>.int _⟩
 | Mod=>obtain rfl:=sI h;exact ⟨_,zvs,zg6 (fun _ _=>of_decide_eq_true) fun _ _ _=>.int _⟩
 | Pow=>obtain rfl:=sI h;exact ⟨_,zyk,zg6 (fun _ _=>zmb) fun _ _ _=>.int _⟩
 | LShift=>obtain rfl:=sI h;exact ⟨_,zyb,zg6 (fun _ _=>zmb) fun _ _ _=>.int _⟩
 | RShift=>obtain rfl:=sI h;exact ⟨_,zye,zg6 (fun _ _=>of_decide_eq_true) fun _ _ _=>.int _⟩
 | BitAnd=>obtain rfl:=sI h;exact ⟨_,zwn,zbh fun _ _ _=>.int _⟩
 | BitOr=>obtain rfl:=sI h;exact ⟨_,zzo,zbh fun _ _ _=>.int _⟩
 | BitXor=>obtain rfl:=sI h;exact ⟨_,zvj,zbh fun _ _ _=>.int _⟩
 | _=>exact noSome h
noncomputable def augO:Operator->Option O2
 | .Add=>some (oI yes2 fun i j=>.int (i+j))
 | .Sub=>some (oI yes2 fun i j=>.int (i - j))
 | .Mult=>some (oI cMul fun i j=>.int (i * j))
 | .BitAnd=>some (oI yes2 fun i j=>.int (Builtin.bitAnd i j))
 | .BitOr=>some (oI yes2 fun i j=>.int (Builtin.bitOr i j))
 | .BitXor=>some (oI yes2 fun i j=>.int (Builtin.bitXor i j))
 | _=>none
theorem zuw {op:Operator}{o:O2} (h:augO op=some o):∃r,PIp X op r/\OpS X.K r o:=by
 cases op with
 | Add=>obtain rfl:=sI h;exact ⟨_,zs9,zbh fun _ _ _=>.int _⟩
 | Sub=>obtain rfl:=sI h;exact ⟨_,zue,zbh fun _ _ _=>.int _⟩
 | Mult=>obtain rfl:=sI h;exact ⟨_,zul,zg6 (fun _ _=>zna) fun _ _ _=>.int _⟩
 | BitAnd=>obtain rfl:=sI h;exact ⟨_,zuj,zbh fun _ _ _=>.int _⟩
 | BitOr=>obtain rfl:=sI h;exact ⟨_,zyj,zbh fun _ _ _=>.int _⟩
 | BitXor=>obtain rfl:=sI h;exact ⟨_,ztp,zbh fun _ _ _=>.int _⟩
 | _=>exact noSome h
noncomputable def cmpO:CmpOp->Option O2
 | .Eq=>some oEq
 | .NotEq=>some oNe
 | .Lt=>some (oI yes2 fun i j=>.bl (decide (i < j)))
 | .LtE=>some (oI yes2 fun i j=>.bl (decide (i<=j)))
 | .Gt=>some (oI yes2 fun i j=>.bl (decide (j < i)))
 | .GtE=>some (oI yes2 fun i j=>.bl (decide (j<=i)))
 | .In=>some (oIn false)
 | .NotIn=>some (oIn true)
 | _=>none
theorem zt9 {kr:Nat} (hr:Room kr X.A) {op:CmpOp}{o:O2} (h:cmpO op=some o):∃r,OpR X (compareOp op) r/\OpS X.K r o:=by
 cases op with
 | Eq=>obtain rfl:=sI h;exact ⟨_,.or zzh (zwp hr),zw3⟩
 | NotEq=>obtain rfl:=sI h;exact ⟨_,.or zyw (zym hr),zx2⟩
 | Lt=>obtain rfl:=sI h;exact ⟨_,zzk,zbh fun _ _ _=>.bl _⟩
 | LtE=>obtain rfl:=sI h;exact ⟨_,zys,zbh fun _ _ _=>.bl _⟩
 | Gt=>obtain rfl:=sI h;exact ⟨_,zzl,zbh fun _ _ _=>.bl _⟩
 | GtE=>obtain rfl:=sI h;exact ⟨_,zzi,zbh fun _ _ _=>.bl _⟩
 | In=>obtain rfl:=sI h;exact ⟨_,zgf,znf false⟩
 | NotIn=>obtain rfl:=sI h;exact ⟨_,zdh,znf true⟩
 | _=>exact noSome h
end
noncomputable def za7 (f:Sx->Expr->Option GE) (S:Sx) (e:Expr):Option GA:=match e with
 | .Name x _=>(S.rd x).bind fun i=>some (zaa i)
 | _=>(f S e).bind fun g=>some (gArg g)
noncomputable def asL (f:Expr->Option GA):List Expr->Option GAs
 | []=>some gA0
 | e::es=>if zah e then (f e).bind fun a=>(asL f es).bind fun as=>some (gCns a as) else none
noncomputable def asM (f:Sx->Expr->Option GE) (S:Sx):List Expr->List Bool->Option GAs
 | [],[]=>some gA0
 | e::es,b::m=>if zah e then (if b then za7 f S e else (f S e).bind fun g=>some (gArg g)).bind fun a=>(asM f S es m).bind fun as=>some (gCns a as) else none
 | _,_=>none
noncomputable def zbb (f:Sx->Expr->Option GE):Prop:=∀X S d,CxOk X S d->∀e g,f S e=some g->PE X e (tE X.K g)
noncomputable def zgj (f:Sx->Expr->Option GT):Prop:=∀X S d,CxOk X S d->∀e g,f S e=some g->PT X e (tT X.K g)
section
variable {X:Cx}{S:Sx}{d:Nat}{f:Sx->Expr->Option GE}
theorem zad (Hf:zbb f) (C:CxOk X S d) {e:Expr}{a:GA} (h:za7 f S e=some a):PE X e (tA X.K a):=by
 unfold za7 at h;split at h
 ·obtain ⟨i, hi, h⟩ := bS h;obtain rfl:=sI h;exact (zny C hi).wk fun _ _ _=>zoi
 ·obtain ⟨g, hg, h⟩ := bS h;obtain rfl:=sI h;exact (Hf X S d C _ _ hg).wk fun _ _ _=>zfx
theorem zd7 {fa:Expr->Option GA} (Hf:∀e a,fa e=some a->PE X e (tA X.K a)):∀{es:List Expr}{as:GAs},asL fa es=some as->PA X es (tAs X.K as)/\es.all zah=true
  | [],_,h=>by obtain rfl:=sI h;exact ⟨zdl.wk fun _ _ _=>zji,rfl⟩
  | e::es,_,h=>by
    unfold asL at h;split at h
    · rename_i z
      obtain ⟨a,ha,h⟩:=bS h;obtain ⟨as,has,h⟩:=bS h;obtain rfl:=sI h;obtain ⟨p,q⟩:=zd7 Hf has;exact ⟨(pac (Hf e a ha) p z).wk fun _ _ _=>zjs,by rw [List.all_cons,z,q];rfl⟩
    · exact noSome h
theorem zry (Hf:zbb f) (C:CxOk X S d):∀{es:List Expr}{m:List Bool}{as:GAs},asM f S es m=some as->PA X es (tAs X.K as)/\es.all zah=true
  | [],[],_,h=>by obtain rfl:=sI h;exact ⟨zdl.wk fun _ _ _=>zji,rfl⟩
  | e::es,b::m,_,h=>by
    unfold asM at h;split at h
    · rename_i z
      obtain ⟨a,ha,h⟩:=bS h;obtain ⟨as,has,h⟩:=bS h;obtain rfl:=sI h;obtain ⟨p,q⟩:=zry Hf C has;have pe:PE X e (tA X.K a):=by
        cases b with
        | true=>exact zad Hf C (by simpa using ha)
        | false =>
          obtain ⟨g,hg,ha⟩:=bS (show (f S e).bind _=some a from by simpa using ha);obtain rfl:=sI ha;exact (Hf X S d C _ _ hg).wk fun _ _ _=>zfx
      exact ⟨(pac pe p z).wk fun _ _ _=>zjs,by rw [List.all_cons,z,q];rfl⟩
    · exact noSome h
  | [],_::_,_,h=>by exact noSome h
  | _::_,[],_,h=>by exact noSome h
end
noncomputable def cmpE (f:Sx->Expr->Option GE) (S:Sx) (a:Expr) (ops:List CmpOp) (cs:List Expr):Option GE:=match ops,cs with
 | [op],[b]=>if zkf b then (za7 f S a).bind fun x=>(za7 f S b).bind fun y=>(cmpO op).bind fun o=>some (gOp2 o x y) else none
 | _,_=>none
noncomputable def zt0 (f:Expr->Option GE) (op:BoolOp):Expr->List Expr->Option GE
 | v,[]=>f v
 | v,u::us=>match op with | .And=>(f v).bind fun a=>(zt0 f op u us).bind fun b=>some (gAnd a b) | .Or=>none
noncomputable def zsm (f:Expr->Option GT) (op:BoolOp):Expr->List Expr->Option GT
 | v,[]=>f v
 | v,u::us=>(f v).bind fun a=>(zsm f op u us).bind fun b=>some (match op with | .And=>zez a b | .Or=>gOrT a b)
section
variable {X:Cx}{S:Sx}{d:Nat}{f:Sx->Expr->Option GE}
theorem zsg (Hf:zbb f) (C:CxOk X S d) {a:Expr}{ops:List CmpOp}{cs:List Expr}{g:GE}{pos:Pos} (h:cmpE f S a ops cs=some g):PE X (.Compare a ops cs pos) (tE X.K g)/\PT X (.Compare a ops cs pos) (tT X.K (zam g)):=by
 unfold cmpE at h;split at h
 ·rename_i op b;split at h
  ·rename_i z;refine aG fun _ qG=>?_;obtain ⟨x,hx,h⟩:=bS h;obtain ⟨y,hy,h⟩:=bS h;obtain ⟨o,ho,h⟩:=bS h;refine qG ?_;clear qG;obtain rfl:=sI h;obtain ⟨r,h1,h2⟩:=zt9 (X:=X) C.room ho;exact ⟨(znj h1 (zad Hf C hx) (zad Hf C hy) (zjw z)).wk fun _ _ _=>zbz h2,(zow h1 (zad Hf C hx) (zad Hf C hy) (zjw z)).wk fun _ _ _=>zeb fun _ _ _=>zbz h2⟩
  ·exact noSome h
 ·exact noSome h
theorem zj1 {fe:Expr->Option GE} (Hf:∀e g,fe e=some g->PE X e (tE X.K g)) {op:BoolOp}{pos:Pos}:∀{v:Expr}{vs:List Expr}{g:GE},zt0 fe op v vs=some g->PE X (.BoolOp op (v::vs) pos) (tE X.K g)
  | v,[],g,h=>zw6 (Hf v g h)
  | v,u::us,g,h=>by
    cases op with
    | And =>
      obtain ⟨a,ha,h⟩:=bS h;obtain ⟨b,hb,h⟩:=bS h;obtain rfl:=sI h;exact (zw1 (Hf v a ha) (zj1 Hf hb)).wk fun _ _ _=>zph
    | Or=>exact noSome h
theorem zfw {fe:Expr->Option GT} (Hf:∀e g,fe e=some g->PT X e (tT X.K g)) {op:BoolOp}{pos:Pos}:∀{v:Expr}{vs:List Expr}{g:GT},zsm fe op v vs=some g->PW X (.BoolOp op (v::vs) pos) (tT X.K g)
  | v,[],g,h=>by
    cases op with
    | And=>exact zuy (Hf v g h)
    | Or=>exact zwd (Hf v g h)
  | v,u::us,g,h=>by
    obtain ⟨a,ha,h⟩:=bS h;obtain ⟨b,hb,h⟩:=bS h;obtain rfl:=sI h;cases op with
    | And=>exact (zx3 (Hf v a ha) (zfw Hf hb)).wk fun _ _ _=>zof
    | Or=>exact (zy1 (Hf v a ha) (zfw Hf hb)).wk fun _ _ _=>zqe
end
end L2
namespace L2
open PySem PySem.Spec PyProof.Rows
theorem zvp:bootBuiltins "min" = some (.builtin "min"):=by decide +kernel
theorem zmq:bootBuiltins "repr" = some (.builtin "repr"):=by decide +kernel
theorem zwl:bootBuiltins "max" = some (.builtin "max"):=by decide +kernel
noncomputable def bltO (x:Str):Option ON :=
 if x == ("len" : Str) then some oLen else if x == ("abs" : Str) then some oAbs else if x == ("int" : Str) then some oInt else if x == ("str" : Str) then some zpq
 else if x == ("tuple" : Str) then some zj8 else if x == ("all" : Str) then some (oBl fun bs=>bs.all id) else if x == ("any" : Str) then some (oBl fun bs=>bs.any id)
 else if x == ("min" : Str) then some oMin else if x == ("max" : Str) then some oMax else none
section
variable {X:Cx}{S:Sx}{d:Nat}
set_option maxHeartbeats 4000000 in
theorem zuo (C:CxOk X S d) {x:Str}{o:ON}{e:Expr}{es:List Expr}{t:TA}{p pos:Pos} (hb:S.bl x=true) (h:bltO x=some o) (ha:PA X (e::es) t) (hst:(e::es).all zah=true):∃r,PE X (.Call (.Name x p) (e::es) [] pos) (tCB r t)/\OpSN X.K r o:=by
 obtain ⟨g,m⟩:=ze1 C hb;rw [List.all_cons,Bool.and_eq_true] at hst;have s1:=zag (env:=X.env) (es:=es) hst.1;have s2:=zfe (env:=X.env) (pos:=pos) hst.2;unfold bltO at h;split at h
 ·rename_i z;obtain rfl:=sI h;have e:=eq_of_beq z;subst e;exact ⟨_,za3 zdj g m zr1 ha (by decide) (by decide) s1 s2,oLen_ok⟩
 split at h
 ·rename_i z;obtain rfl:=sI h;have e:=eq_of_beq z;subst e;exact ⟨_,za3 zqd g m zxf ha (by decide) (by decide) s1 s2,ztd⟩
 split at h
 ·rename_i z;obtain rfl:=sI h;have e:=eq_of_beq z;subst e;exact ⟨_,zd4 zol g m zrw ha (by decide) (by decide) s1 s2,zs3⟩
 split at h
 ·rename_i z;obtain rfl:=sI h;have e:=eq_of_beq z;subst e;exact ⟨_,zd4 (zmh C.room) g m zrr ha (by decide) (by decide) s1 s2,zqs⟩
 split at h
 ·rename_i z;obtain rfl:=sI h;have e:=eq_of_beq z;subst e;exact ⟨_,zd4 zfd g m zjx ha (by decide) (by decide) s1 s2,zmn⟩
 split at h
 ·rename_i z;obtain rfl:=sI h;have e:=eq_of_beq z;subst e;exact ⟨_,za3 (zp2 C.calm) g m zx0 ha (by decide) (by decide) s1 s2,zr6⟩
 split at h
 ·rename_i z;obtain rfl:=sI h;have e:=eq_of_beq z;subst e;exact ⟨_,za3 (zqh C.calm) g m zvz ha (by decide) (by decide) s1 s2,zr6⟩
 split at h
 ·rename_i z;obtain rfl:=sI h;have e:=eq_of_beq z;subst e;exact ⟨_,za3 (zml C.calm) g m zvp ha (by decide) (by decide) s1 s2,zs2⟩
 split at h
 ·rename_i z;obtain rfl:=sI h;have e:=eq_of_beq z;subst e;exact ⟨_,za3 (zod C.calm) g m zwl ha (by decide) (by decide) s1 s2,zt8⟩
 exact noSome h
noncomputable def zvc (x:Str):Option ON:=if x == ("repr" : Str) then some zey else bltO x
theorem zpm (C:CxOk X S d) {x:Str}{o:ON}{e:Expr}{es:List Expr}{t:TA}{p pos:Pos} (hb:S.bl x=true) (h:zvc x=some o) (ha:PA X (e::es) t) (hst:(e::es).all zah=true):∃r,PE X (.Call (.Name x p) (e::es) [] pos) (tCB r t)/\OpSN X.K r o:=by
 unfold zvc at h;split at h
 ·rename_i z;obtain rfl:=sI h;have e:=eq_of_beq z;subst e;obtain ⟨g,m⟩:=ze1 C hb;rw [List.all_cons,Bool.and_eq_true] at hst;exact ⟨_,za3 (zf4 C.room) g m zmq ha (by decide) (by decide) (zag hst.1) (zfe hst.2),oRepr_ok⟩
 ·exact zuo C hb h ha hst
end
noncomputable def kdOf (x:Str):Option Kd:=if x == ("int" : Str) then some .int else if x == ("bool" : Str) then some .bool else if x == ("str" : Str) then some .str else if x == ("tuple" : Str) then some .tuple else if x == ("list" : Str) then some .list else none
theorem ztt {x:Str}{k:Kd} (h:kdOf x=some k):bootBuiltins x=some (.type k.nm)/\x≠("__name__" : Str)/\(x == ("__debug__" : Str))=false:=by
 unfold kdOf at h;split at h
 ·rename_i z;obtain rfl:=sI h;have e:=eq_of_beq z;subst e;exact ⟨zrw,by decide,by decide⟩
 split at h
 ·rename_i z;obtain rfl:=sI h;have e:=eq_of_beq z;subst e;exact ⟨zut,by decide,by decide⟩
 split at h
 ·rename_i z;obtain rfl:=sI h;have e:=eq_of_beq z;subst e;exact ⟨zrr,by decide,by decide⟩
 split at h
 ·rename_i z;obtain rfl:=sI h;have e:=eq_of_beq z;subst e;exact ⟨zjx,by decide,by decide⟩
 split at h
 ·rename_i z;obtain rfl:=sI h;have e:=eq_of_beq z;subst e;exact ⟨zvb,by decide,by decide⟩
 exact noSome h
noncomputable def zop:Expr->Bool
 | .Call _ _ _ _=>true
 | _=>false
theorem zm9 {o:Expr}{a:Str}{env:Env}{w:Sem Value} (h:zop o=false):attributeBase o a env w=w:=by
 cases o<;>first | rfl | (cases h)
noncomputable def zup (f:Sx->Expr->Option GE) (S:Sx) (o:Expr) (name:Str) (apos:Pos) (args:List Expr) (cpos:Pos):Option GE :=
  if !(apos.endLine == cpos.line) || zop o then none else match args with
  | [e]=>if !zah e then none else match o with
    | .Name x _=>(S.rd x).bind fun i=>(f S e).bind fun g=>if name == ("append" : Str) then some (gApp i g) else none
    | _=>none
  | _=>none
theorem zls {e:Expr}{env:Env}{cpos:Pos} (h:zah e=true):((backTo cpos (starEach [e] env)).all (fun x=>!x.1) && (backToKw cpos (keywordEach [] env)).all (fun x=>x.1.isSome) && decide (([e]:List Expr).length+([]:List Keyword).length+(if ([]:List Keyword).isEmpty then 0 else 1) < 30))=true:=by
 rw [zag h];rfl
section
variable {X:Cx}{S:Sx}{d:Nat}{f:Sx->Expr->Option GE}
theorem zo5 (Hf:zbb f) (C:CxOk X S d) {o:Expr}{name:Str}{apos cpos:Pos}{args:List Expr}{g:GE} (h:zup f S o name apos args cpos=some g):PE X (.Call (.Attribute o name apos) args [] cpos) (tE X.K g):=by
 unfold zup at h;split at h
 ·exact noSome h
 ·rename_i z;rw [Bool.or_eq_true,not_or,Bool.not_eq_true,Bool.not_eq_true,Bool.not_eq_false'] at z;have hb:=zm9 (a:=name) (env:=X.env) (w:=eval o X.env) z.2;split at h
  ·rename_i e;split at h
   ·exact noSome h
   ·rename_i y;rw [Bool.not_eq_true,Bool.not_eq_false'] at y;split at h
    ·rename_i x px;obtain ⟨i,hi,h⟩:=bS h;obtain ⟨ge,hg,h⟩:=bS h;have pa:PA X [e] (zdn (tE X.K ge) tNil):=pac (Hf X S d C _ _ hg) zdl y;split at h
     ·rename_i q;obtain rfl:=sI h;have e':=eq_of_beq q;subst e';exact (zv4 PySem.F.plainAttrs_list PySem.F.slot_list_append PySem.F.type_list_append zf8 (zny C hi) pa hb (zls y) z.1 (zag y) rfl).wk fun _ _ _=>zq0
     ·exact noSome h
    ·exact noSome h
  ·exact noSome h
end
noncomputable def zse (f:Sx->Expr->Option GE) (S:Sx) (x:Str) (args:List Expr):Option GE:=if x == ("__debug__" : Str) then none else match args with
  | []=>none
  | e::es=>match S.fs.lookup x with
    | some (m,Φ)=>if S.kd.lookup x == some .globalImplicit then (asM f S (e::es) m).bind fun as=>some (zae m Φ as) else none
    | none=>if x == ("isinstance" : Str) && S.bl x then (match e,es with
        | e,[.Name t _]=>if zah e && S.bl t then (kdOf t).bind fun k=>(za7 f S e).bind fun a=>some (gOp1 (oIsi k) a) else none
        | _,_=>none)
      else if S.bl x then (zvc x).bind fun o=>(asL (za7 f S) (e::es)).bind fun as=>some (gOpN o as) else none
theorem zpw {X:Cx}{S:Sx}{d:Nat}{f:Sx->Expr->Option GE} (Hf:zbb f) (C:CxOk X S d) {x:Str}{args:List Expr}{g:GE}{p pos:Pos} (h:zse f S x args=some g):PE X (.Call (.Name x p) args [] pos) (tE X.K g):=by
 unfold zse at h;split at h
 ·exact noSome h
 ·rename_i hdb;rw [Bool.not_eq_true] at hdb;split at h
  ·exact noSome h
  ·rename_i e es;split at h
   ·rename_i m Φ hfs;split at h
    ·rename_i hgl;obtain ⟨as,has,h⟩:=bS h;obtain rfl:=sI h;obtain ⟨ps,hl,cal⟩:=C.fs x m Φ hfs;obtain ⟨pa,st⟩:=zry Hf C has;rw [List.all_cons,Bool.and_eq_true] at st;exact (zvl cal C.room (C.gl x (by simpa using hgl)) pa (Nat.le_refl _) hdb (zag st.1) (zfe st.2)).wk fun _ _ _=>zl8
    ·exact noSome h
   ·split at h
    ·rename_i hi;rw [Bool.and_eq_true] at hi;have e':=eq_of_beq hi.1;subst e';obtain ⟨gI,mI⟩:=ze1 C hi.2;split at h
     ·rename_i t pt;split at h
      ·rename_i z;rw [Bool.and_eq_true] at z;obtain ⟨k,hk,h⟩:=bS h;obtain ⟨a,ha,h⟩:=bS h;obtain rfl:=sI h;obtain ⟨k1,k2,k3⟩:=ztt hk;obtain ⟨gT,mT⟩:=ze1 C z.2;have pt' : PE X (.Name t pt) (tC (.ty k.nm)):=zsp gT mT k1 rfl k2 k3;have pa:PA X [e,.Name t pt] (zdn (tA X.K a) (zdn (tC (.ty k.nm)) tNil)):=pac (zad Hf C ha) (pac pt' zdl rfl) z.1;exact (za3 zqc gI mI zfg pa (by decide) hdb (zag z.1) rfl).wk fun _ _ _=>zo8
      ·exact noSome h
     ·exact noSome h
    ·split at h
     ·rename_i hb;obtain ⟨o,ho,h⟩:=bS h;obtain ⟨as,has,h⟩:=bS h;obtain rfl:=sI h;obtain ⟨pa,st⟩:=zd7 (fun e a ha=>zad Hf C ha) has;obtain ⟨r,h1,h2⟩:=zpm (pos:=pos) (p:=p) C hb ho pa st;exact h1.wk fun _ _ _=>zfu h2
     ·exact noSome h
noncomputable def zs4 (f:Sx->Expr->Option GE) (S:Sx) (tg e:Expr):Option GL:=if !zkf e then none else match e with
  | .Call (.Name x _) args [] _ =>
    if x == ("range" : Str) && S.bl x then (match args with
      | [a]=>if zah a then (asL (za7 f S) [a]).bind fun as=>some (zc9 as) else none
      | _=>none)
    else if x == ("enumerate" : Str) && S.bl x then (match args,tg with
      | [a],.Tuple _ _ _=>if zah a then (f S a).bind fun g=>some (zlm g) else none
      | _,_=>none)
    else if x == ("reversed" : Str) && S.bl x then (match args with
      | [a]=>if zah a then (f S a).bind fun g=>some (gRev g) else none
      | _=>none)
    else if x == ("zip" : Str) && S.bl x then (match args,tg with
      | [a,b],.Tuple _ _ _=>if zah a && zah b then none else none
      | _,_=>none)
    else (f S e).bind fun g=>some (zeu g)
  | _=>(f S e).bind fun g=>some (zeu g)
theorem zo3 {X:Cx}{S:Sx}{d:Nat}{f:Sx->Expr->Option GE} (Hf:zbb f) (C:CxOk X S d) {tg e:Expr}{g:GL} (h:zs4 f S tg e=some g):PI X tg e (tI X.K g)/\∀x,foldedSetIterable e X.env x=pure x:=by
 unfold zs4 at h;split at h
 ·exact noSome h
 ·rename_i hs;rw [Bool.not_eq_true,Bool.not_eq_false'] at hs;refine ⟨?_,zd2 hs⟩;split at h
  ·rename_i x px args pc;split at h
   ·rename_i z;rw [Bool.and_eq_true] at z;have e':=eq_of_beq z.1;subst e';obtain ⟨gl,mg⟩:=ze1 C z.2;split at h
    ·rename_i a;split at h
     ·rename_i y;obtain ⟨as,has,h⟩:=bS h;obtain rfl:=sI h;obtain ⟨pa,_⟩:=zd7 (fun e a ha=>zad Hf C ha) has;exact (zm7 gl mg pa (zag y)).wk fun _ _ _=>zno
     ·exact noSome h
    ·exact noSome h
   ·split at h
    ·rename_i z;rw [Bool.and_eq_true] at z;have e':=eq_of_beq z.1;subst e';obtain ⟨gl,mg⟩:=ze1 C z.2;split at h
     ·rename_i a es k1 p1;split at h
      ·rename_i y;obtain ⟨ge,hg,h⟩:=bS h;obtain rfl:=sI h;exact (zpk gl mg (pac (Hf X S d C _ _ hg) zdl y) (zag y)).wk fun _ _ _=>zoz
      ·exact noSome h
     ·exact noSome h
    ·split at h
     ·rename_i z;rw [Bool.and_eq_true] at z;have e':=eq_of_beq z.1;subst e';obtain ⟨gl,mg⟩:=ze1 C z.2;split at h
      ·rename_i a;split at h
       ·rename_i y;obtain ⟨ge,hg,h⟩:=bS h;obtain rfl:=sI h;exact (zvg gl mg (pac (Hf X S d C _ _ hg) zdl y) (zag y)).wk fun _ _ _=>zq1
       ·exact noSome h
      ·exact noSome h
     ·split at h
      ·rename_i z;rw [Bool.and_eq_true] at z;have e':=eq_of_beq z.1;subst e';obtain ⟨gl,mg⟩:=ze1 C z.2;split at h
       ·rename_i a b es k1 p1;split at h
        ·rename_i y;exact noSome h
        ·exact noSome h
       ·exact noSome h
      ·obtain ⟨ge, hg, h⟩ := bS h;obtain rfl:=sI h;exact (zr8 (Hf X S d C _ _ hg)).wk fun _ _ _=>zf3
  ·obtain ⟨ge, hg, h⟩ := bS h;obtain rfl:=sI h;exact (zr8 (Hf X S d C _ _ hg)).wk fun _ _ _=>zf3
noncomputable def zjd (S:Sx):List Expr->Option (List Nat)
 | []=>some []
 | .Name x _::es=>(S.wr x).bind fun i=>(zjd S es).bind fun is=>some (i::is)
 | _=>none
noncomputable def tgE (S:Sx):Expr->Option Tg
 | .Name x _=>(S.wr x).bind fun i=>some (.nm i)
 | .Tuple es _ _=>(zjd S es).bind fun is=>some (.tp is)
 | _=>none
section
variable {X:Cx}{S:Sx}{d:Nat}
theorem zkk (C:CxOk X S d):∀(es:List Expr) {is:List Nat},zjd S es=some is->PGs X es (zj6 is)/\(assignEach es X.env).length=is.length/\(assignEach es X.env).findIdx? (·.1)=none:=by
  intro es
  induction es with
  | nil=>intro is h;obtain rfl:=sI h;exact ⟨ztj,rfl,rfl⟩
  | cons e es ih =>
    intro is h;obtain ⟨x,p,rfl⟩ : ∃x p,e=.Name x p:=by
      cases e with
      | Name x p=>exact ⟨x,p,rfl⟩
      | _=>exact noSome h
    refine aG fun _ qG=>?_;obtain ⟨i,hi,h⟩:=bS (show (S.wr x).bind _=_ from h);obtain ⟨is,his,h⟩:=bS h;refine qG ?_;clear qG;obtain rfl:=sI h;refine aG fun _ qG=>?_;obtain ⟨a,b,c⟩:=ih his;obtain ⟨w1,w2,w3⟩:=zrb C hi;refine qG ?_;clear qG;refine ⟨zqj (zon (ndN C) w1 w2 w3) a rfl,congrArg (· + 1) b,?_⟩;show List.findIdx? (·.1) ((false,assign (.Name x p) X.env)::assignEach es X.env)=none;rw [List.findIdx?_cons,c]
    rfl
theorem zr3 (C:CxOk X S d) {e:Expr}{T:Tg} (h:tgE S e=some T):PG X e (TGof X.K T):=by
 unfold tgE at h;split at h
 ·obtain ⟨i, hi, h⟩ := bS h;obtain rfl:=sI h;obtain ⟨w1,w2,w3⟩:=zrb C hi;exact zon (ndN C) w1 w2 w3
 ·obtain ⟨is, his, h⟩ := bS h;obtain rfl:=sI h;obtain ⟨a,b,c⟩:=zkk C _ his;exact zus C.calm a b c
 ·exact noSome h
end
end L2
namespace L2
open PySem PySem.Spec PyProof.Rows
section
variable {X:Cx}{S:Sx}{d:Nat}
variable {pins:List (Addr × Obj)}{σ:St}{H F:Hp}{s:Shared}{pr:Prt}{en:En}
end
end L2
namespace L2
open PySem PySem.Spec PyProof.Rows
section
variable {prog:Program}{w:World}{A:Around}{E:Value->Shared->Prop}{s:Shared}
variable {I:Addr}{fp wr:List Addr}{n:Nat}{P:Nat->Value->Prop}{St:Nat->Heap->Prop}{R:Result->Shared->Prop}
end
section
variable {X:Cx}{S:Sx}{d:Nat}
end
end L2
namespace L2
open PySem PySem.Spec PyProof.Rows
section
variable {X:Cx}
end
end L2
namespace L2
open PySem PySem.Spec PyProof.Rows
section
variable {X:Cx}{S:Sx}{d:Nat}
end
end L2
namespace L2
open PySem PySem.Spec PyProof.Rows
section
variable {K:PySem.W.Frag}{σ:St}{H:Hp}
end
noncomputable def zis (x:Expr->Option GE) (X:Cx):Prop:=∀e g,x e=some g->PE X e (tE X.K g)
section
variable {X:Cx}{S:Sx}{d:Nat}{fE:Sx->Expr->Option GE}
end
end L2
namespace L2
open PySem PySem.Spec PyProof.Rows
section
variable {K:PySem.W.Frag}{F H:Hp}
end
section
variable {X:Cx}{pins:List (Addr × Obj)}{σ:St}{H:Hp}{s:Shared}{a:Addr}
end
section
variable {K:PySem.W.Frag}{F H:Hp}{pr:Prt}{en:En}{σ:St}
end
section
variable {X:Cx}
end
section
variable {X:Cx}
end
section
variable {X:Cx}{S:Sx}{d:Nat}{fE:Sx->Expr->Option GE}
end
section
variable {X:Cx}{S:Sx}{d:Nat}{fE:Sx->Expr->Option GE}
end
end L2
namespace L2
open PySem PySem.Spec PyProof.Rows
section
variable {X:Cx}{pins:List (Addr × Obj)}{σ:St}{H:Hp}{s:Shared}{a:Addr}{y:V}{u:Value}{A:Around}{E:Value->Shared->Prop}{Q:Value->Shared->Prop}
end
section
variable {K:PySem.W.Frag}{F H:Hp}{pr:Prt}{en:En}{σ:St}
end
section
variable {X:Cx}{S:Sx}{d:Nat}{f:Sx->Expr->Option GE}
end
end L2
namespace L2
open PySem PySem.Spec PyProof.Rows
section
variable {prog:Program}{w:World}{A:Around}{E:Value->Shared->Prop}{s:Shared}
variable {K:Type} [DecidableEq K]
variable {I:Addr}{fp wr:List Addr}{n:Nat}{P:Nat->Value->Prop}{St:Nat->Heap->Prop}{R:Result->Shared->Prop}
end
end L2
namespace L2
open PySem PySem.Spec PyProof.Rows
section
variable {prog:Program}{w:World}{A:Around}{E:Value->Shared->Prop}{s:Shared}
end
section
variable {X:Cx}{pins:List (Addr × Obj)}{σ:St}{H:Hp}{s:Shared}{A:Around}{E:Value->Shared->Prop}
end
section
variable {K:PySem.W.Frag}{F H:Hp}
end
section
variable {X:Cx}{S:Sx}{d:Nat}{fE:Sx->Expr->Option GE}
end
end L2
namespace L2
open PySem PySem.Spec PyProof.Rows
section
variable {X:Cx}{pins:List (Addr × Obj)}{σ:St}{H:Hp}
end
section
variable {X:Cx}
variable {S:Sx}{d:Nat}{fE:Sx->Expr->Option GE}
end
end L2
namespace L2
open PySem PySem.Spec PyProof.Rows
section
variable {prog:Program}{w:World}{A:Around}{E:Value->Shared->Prop}{s:Shared}
end
section
variable {X:Cx}{pins:List (Addr × Obj)}{σ:St}{H:Hp}{s:Shared}{A:Around}{E:Value->Shared->Prop}
end
section
variable {X:Cx}{S:Sx}{d:Nat}{fE:Sx->Expr->Option GE}
end
end L2
namespace L2
open PySem PySem.Spec PyProof.Rows
section
variable {X:Cx}
end
section
variable {K:PySem.W.Frag}{F H:Hp}{pr pb:Prt}{en:En}{σ:St}
end
section
variable {K:PySem.W.Frag}{mp:List Nat}{pb:Prt}{acc:Addr}
end
section
variable {X:Cx}{S:Sx}{d:Nat}{f:Sx->Expr->Option GE}
end
end L2
namespace L2
open PySem PySem.Spec PyProof.Rows
noncomputable def chW (x:Str):List W:=x.cps.toList.map fun c=>W.str ⟨#[c]⟩
noncomputable def seqS:W->Option (List W)
 | .str x=>some (chW x)
 | w=>seqW w
noncomputable def Its (x:Str):It:=⟨fun i _=>i < x.cps.size,fun i H v H'=>H'=H/\∃c,x.cps[i]?=some c/\v=.str ⟨#[c]⟩,fun i _=>x.cps.size<=i⟩
noncomputable def IteS (x:Str):It:=⟨fun i _=>i < x.cps.size,fun i H v H'=>∃p c,v=.ref p/\H p=none/\H'=upd H p (.tup [.int i,.str ⟨#[c]⟩])/\x.cps[i]?=some c,fun i _=>x.cps.size=i⟩
section
variable {prog:Program}{w:World}{A:Around}{E:Value->Shared->Prop}{s:Shared}
theorem zqb {it:Addr}{x:Str}{t:Tok}{i c:Nat}{Q:Option Value->Shared->Prop} (hit:s.heap.IsStrIter it (strIterType x) x t i) (hx:x.cps[i]?=some c)
  (hQ:∀h',h'.IsStrIter it (strIterType x) x t (i+1)->Heap.SameBut it s.heap h'->Q (some (.str ⟨#[c]⟩ s.toks)) { s with heap:=h',toks:=s.toks+1 }):wpAny (model prog w) A (pyNext (.ref it)) Q E s:=by
 revert hit hQ
 unfold strIterType;split
 ·exact fun hit hQ=>wpAny_pyNext_ascii_item hit hx hQ
 ·exact fun hit hQ=>wpAny_pyNext_wide_item hit hx hQ
theorem zuv {it:Addr}{x:Str}{t:Tok}{i:Nat}{Q:Option Value->Shared->Prop} (hh:A.handled=none) (hit:s.heap.IsStrIter it (strIterType x) x t i) (hx:x.cps[i]?=none)
  (hQ:∀h',Heap.ExtBut it s.heap h'->Q none { s with heap:=h' }):wpAny (model prog w) A (pyNext (.ref it)) Q E s:=by
 revert hit
 unfold strIterType;split
 ·exact fun hit=>wpAny_pyNext_ascii_end hh hit hx hQ
 ·exact fun hit=>wpAny_pyNext_wide_end hh hit hx hQ
theorem zrh {it:Addr}{x:Str}{t:Tok}{i:Nat}{Q:Value->Shared->Prop} (hit:s.heap.IsStrIter it (strIterType x) x t i) (h:Q (.ref it) s):wpAny (model prog w) A (pyIter (.ref it)) Q E s:=by
 revert hit
 unfold strIterType;split
 ·exact fun hit=>wpAny_pyIter_striter_ascii hit h
 ·exact fun hit=>wpAny_pyIter_striter_wide hit h
theorem zgh (hh:A.handled=none) (it:Addr) (x:Str) (t:Tok):Draws prog w A it [it] x.cps.size (fun i v=>∃c u,x.cps[i]?=some c/\v=.str ⟨#[c]⟩ u) (fun i h=>h.IsStrIter it (strIterType x) x t i):=by
 unfold strIterType;split
 ·exact Draws.strAscii hh it x t
 ·exact Draws.strWide hh it x t
theorem zxb (x:Str):["enumerate","zip","dict_itemiterator","dict_reverseitemiterator","odict_iterator","itertools.zip_longest","itertools.pairwise"].contains (strIterType x)=false:=by
 unfold strIterType;split<;>decide
end
theorem zra {P:Program}{w:World}{K:PySem.W.Frag}{tg:Expr} (x:Str) (t:Tok) (it:Addr):Turn P w K tg (Its x) [it] it (fun i h=>h.IsStrIter it (strIterType x) x t i) where
 mem:=by simp
 obj:=fun i h st b hb=>by
  have e:b=it:=by simpa using hb
  subst e;obtain ⟨o,e,c,d⟩:=st;exact ⟨o,e,fun v z=>by rw [d] at z;cases z⟩
 keep:=fun i h h' st k=>let ⟨o,e,r⟩:=st;⟨o,k it (by simp) o e,r⟩
 item:=by
  intro X hP hw hK hc i pins s σ H E I hf st hg;subst hP hw hK;have hg:i < x.cps.size:=hg;obtain ⟨f0,f1,f2,f3,f4,f5⟩:=hf it (by simp);have hx:x.cps[i]?=some x.cps[i]:=Array.getElem?_eq_getElem hg;refine zqb st hx fun h' st' sb=>?_;have I1:Inv X pins σ H { s with heap:=h',toks:=s.toks+1 }:=I.turned (t':=s.toks+1) (fun b o hb e=>(sb.2 b hb).trans e) f0 f1 f3 f4 f5;obtain ⟨o,e,c,d⟩:=id st';exact ⟨_,rfl,zmo (s:={ s with heap:=h',toks:=s.toks+1 }) e c d (zxb x) ⟨.str ⟨#[x.cps[i]]⟩,H,I1,⟨_,rfl⟩,⟨rfl,_,hx,rfl⟩,st',fun b hb=>(hf b hb).1⟩⟩
 done:=by
  intro X hP hw hK hc i pins s σ H E I hf st hg;subst hP hw hK;obtain ⟨f0,f1,f2,f3,f4,f5⟩:=hf it (by simp);exact zuv (I.ok.hd hc) st (Array.getElem?_eq_none hg) fun h' eb=>⟨rfl,I.turned (t':=s.toks) (fun b o hb e=>eb b o hb e) f0 f1 f3 f4 f5⟩
 self:=fun _ _ _ _ _ st h=>zrh st h
theorem zld {P:Program}{w:World}{K:PySem.W.Frag}{es:List Expr}{x1}{px:Pos} (x:Str) (t:Tok) (e it:Addr) (hei:e≠it):Turn P w K (.Tuple es x1 px) (IteS x) [e,it] e (fun i h=>(∃old,IsEnum h e it i old)/\h.IsStrIter it (strIterType x) x t i) where
 mem:=by simp
 obj:=fun i h st b hb=>by
  obtain ⟨⟨old,he⟩,o,hi,c,d⟩:=st;rcases List.mem_cons.mp hb with rfl | hb
  ·exact ⟨_,he,fun v z=>by cases z⟩
  ·have : b = it := by simpa using hb
   subst this;exact ⟨o,hi,fun v z=>by rw [d] at z;cases z⟩
 keep:=fun i h h' st k=>⟨let ⟨old,he⟩:=st.1;⟨old,k e (by simp) _ he⟩,let ⟨o,z,r⟩:=st.2;⟨o,k it (by simp) o z,r⟩⟩
 item:=by
  intro X hP hw hK hc i pins s σ H E I hf st hg;subst hP hw hK;obtain ⟨⟨old,he⟩,hit⟩:=st;refine wpAny_pyNext_enum_itemD (zgh (show X.A.in1.handled=none from I.ok.hd hc) it x t) he hit hg hei (by simp [hei]) fun y h' tk hy ho hst hT' hsz hk=>⟨_,rfl,?_⟩;refine aG fun _ qG=>?_;obtain ⟨c,u,hc,rfl⟩:=hy;refine qG ?_;clear qG;refine wpAny_letOwnedTupleGo_enum ho fun h'' he'' hs''=>?_;have kk:∀b o,b ∉ [e,it]->s.heap.get? b=some o->h''.get? b=some o:=fun b o hb q=>by
   have h1:b≠e:=fun z=>hb (by simp [z]);have h2:b≠it:=fun z=>hb (by simp [z]);exact (hs''.2 b h1).trans (hk b o h1 h2 q)
  have hTe:s.heap.objs.size≠e:=fun z=>absurd (Heap.lt_size he) (by rw [z];exact Nat.lt_irrefl _);have hit'' : h''.IsStrIter it (strIterType x) x t (i+1):=let ⟨o,z,r⟩:=hst;⟨o,(hs''.2 it hei.symm).trans z,r⟩;refine ⟨.ref s.heap.objs.size,upd H s.heap.objs.size (.tup [.int i,.str ⟨#[c]⟩]),I.turnLay kk (fun b hb=>?_) hf (Nat.le_refl _) ⟨by show 2<=sizeLine;decide,[.int i tk,.str ⟨#[c]⟩ u],.cons ⟨_,rfl⟩ (.cons ⟨_,rfl⟩ .nil),?_⟩,rfl,⟨_,c,rfl,I.hok.fresh (Nat.le_refl _),rfl,hc⟩,⟨⟨_,by simpa using he''⟩,hit''⟩,fun b hb=>?_⟩
  ·rcases List.mem_cons.mp hb with rfl | hb
   ·exact ⟨_,he''⟩
   ·have : b = it := by simpa using hb
    subst this;obtain ⟨o,z,_⟩:=hit'';exact ⟨o,z⟩
  ·exact ⟨_,(hs''.2 _ hTe).trans hT',rfl,_,rfl⟩
  ·have:b≠s.heap.objs.size:=by
    rcases List.mem_cons.mp hb with rfl | hb
    ·exact hTe.symm
    ·have e2 : b = it := by simpa using hb
     subst e2;obtain ⟨o,z,_⟩:=hit;exact Nat.ne_of_lt (Heap.lt_size z)
   rw [upd_ne this];exact (hf b hb).1
 done:=by
  intro X hP hw hK hc i pins s σ H E I hf st hg;subst hP hw hK;have hg:x.cps.size=i:=hg;subst hg;obtain ⟨⟨old,he⟩,hit⟩:=st;obtain ⟨f0,f1,f2,f3,f4,f5⟩:=hf it (by simp);exact wpAny_pyNext_enum_endD (zgh (show X.A.in1.handled=none from I.ok.hd hc) it x t) he hit fun h' eb=>⟨rfl,I.turned (t':=s.toks) (fun b o hb e=>eb b o hb e) f0 f1 f3 f4 f5⟩
 self:=fun _ _ _ _ _ st h=>let ⟨_,he⟩:=st.1;wpAny_pyIter_enum he h
theorem zfm (x:Str):(chW x).length=x.cps.size:=by unfold chW;simp
theorem znm {x:Str}{i c:Nat} (h:x.cps[i]?=some c):(chW x)[i]?=some (W.str ⟨#[c]⟩):=by
 unfold chW;rw [List.getElem?_map,Array.getElem?_toList,h];rfl
section
variable {K:PySem.W.Frag}{F:Hp}
theorem zxc (x:Str):ItOk K F (Its x) (chW x) where
 go:=fun i H s hi=>by rw [zfm] at hi;exact hi
 stop:=fun H s=>by rw [zfm];exact Nat.le_refl _
 yld:=fun i H v H' s hi y=>by
  obtain ⟨e,c,hc,e2⟩:=y;subst e e2;exact ⟨_,znm hc,.val (.str _)⟩
theorem zps (x:Str):ItOk K F (IteS x) (zde (chW x) 0) where
 go:=fun i H s hi=>by rw [za4,zfm] at hi;exact hi
 stop:=fun H s=>by rw [za4,zfm];rfl
 yld:=fun i H v H' s hi y=>by
  obtain ⟨p,c,e,hp,e2,hc⟩:=y;subst e e2;refine ⟨_,zca (znm hc),?_⟩;rw [Nat.zero_add];exact .tup hp (.cons (.int _) (.cons (.str _) .nil))
end
section
variable {X:Cx}{tg:Expr}
noncomputable def zvf (K:PySem.W.Frag) (tl:TE):TI:=fun σ H R=>tl σ H fun v H1=>(∃x,v=.str x/\R (Its x) H1)\/∃a,v=.ref a/\((∃xs,SqL K H1 a xs)/\R (Itl K a) H1\/(∃xs,SqT K H1 a xs)/\R (Itt K a) H1)
theorem zu5 {l:Expr}{tl:TE} (hl:PE X l tl):PI X tg l (zvf X.K tl):=fun pins s σ H R I h =>
 thn (hl pins s σ H _ I h) fun v s1 ⟨x,H1,I1,r1,q1⟩=>by
  have fp:∀b∈[s1.heap.objs.size],FpOk X pins H1 b:=fun b hb=>by
   rw [List.mem_singleton] at hb;subst hb;exact I1.fpOk (Nat.le_refl _) (I1.hok.fresh (Nat.le_refl _))
  rcases q1 with ⟨z,rfl,q⟩ | ⟨a,rfl,q1⟩
  ·obtain ⟨t, rfl⟩ := r1;exact wpAny_pyIter_strU ⟨_,_,_,_,H1,rfl,I1.kept (t':=s1.toks) fun b o e=>Heap.get?_push_of_some _ e,zra z t _,⟨_,Heap.get?_push_size _ rfl,rfl,rfl⟩,fp,q⟩
  ·cases r1;rcases q1 with ⟨⟨xs,hq⟩,q⟩ | ⟨⟨xs,hq⟩,q⟩
   ·obtain ⟨its, _, p, _⟩ := I1.list hq;exact wpAny_pyIter_list p.isList ⟨_,_,_,_,H1,rfl,I1.kept (t':=s1.toks) fun b o e=>Heap.get?_push_of_some _ e,zgs a _,⟨_,Heap.get?_push_size _ rfl,rfl,rfl⟩,fp,q⟩
   ·obtain ⟨its, _, p, _⟩ := I1.tuple hq;exact wpAny_pyIter_tuple (show s1.heap.IsTuple a its.toArray from p) ⟨_,_,_,_,H1,rfl,I1.kept (t':=s1.toks) fun b o e=>Heap.get?_push_of_some _ e,ze8 a _,⟨_,Heap.get?_push_size _ rfl,rfl,rfl⟩,fp,q⟩
noncomputable def zrm (ta:TA):TI:=fun σ H R=>ta σ H fun vs H1=>∃x,vs=[.str x]/\R (IteS x) H1
theorem zrf {es:List Expr}{x1}{px:Pos}{l:Expr}{tl:TA}{p pos:Pos} (hg:Gl X "enumerate") (hm:X.mg "enumerate" = none) (hl:PA X [l] tl) (hs:starEach [l] X.env=[(false,eval l X.env)]:=by rfl) :
  PI X (.Tuple es x1 px) (.Call (.Name "enumerate" p) [l] [] pos) (zrm tl):=by
 intro pins s σ H R I h;refine Call_ (zed I hg hm boot_enumerate (PyProof.Rows.callWith_type1 (thn (hl pos pins s σ H _ I h) fun us s1 ⟨vs,H1,I1,r1,q1⟩=>?_) hs rfl));obtain ⟨x,e,q⟩:=q1;subst e;obtain ⟨u,rfl,ru⟩:=r1.one;obtain ⟨t,rfl⟩:=ru;have fp:∀b∈[s1.heap.objs.size+1,s1.heap.objs.size],FpOk X pins H1 b:=fun b hb=>by
  have e:s1.heap.objs.size<=b:=by
   rcases List.mem_cons.mp hb with rfl | hb
   ·exact Nat.le_succ _
   ·have e2 : b = s1.heap.objs.size := by simpa using hb
    rw [e2];exact Nat.le_refl _
  exact I1.fpOk e (I1.hok.fresh e)
 refine call_enumerate_str fun h' he hit hsz hk=>wpAny_pyIter_enum he ?_;exact ⟨s1.heap.objs.size+1,[s1.heap.objs.size+1,s1.heap.objs.size],_,_,H1,rfl,I1.kept (t':=s1.toks) hk,zld x t _ _ (Nat.succ_ne_self _),⟨⟨_,by simpa using he⟩,hit⟩,fp,q⟩
end
noncomputable def zti (g:GE):GL:=fun en=>(g en).bind fun p=>(seqS p.2.1).bind fun ws=>some (p.1,ws)
noncomputable def zl4 (g:GE):GL:=fun en=>(g en).bind fun p=>match p.2.1 with
 | .str x=>some (p.1,zde (chW x) 0)
 | _=>none
section
variable {K:PySem.W.Frag}{σ:St}{H:Hp}
theorem Rep.isStr {F:Hp}{x:Str}{v:V} (h:Rep K F (.str x) v):v=.str x:=by cases h;rfl
theorem zl9 {g:GE}{R:It->Hp->Prop} (h:tI K (zti g) σ H R):zvf K (tE K g) σ H R:=by
 refine aG fun _ qG=>?_;obtain ⟨F,pr,en,en',ws,Re,h,q⟩:=h;obtain ⟨⟨e1,rv⟩,h1,h⟩:=bS h;obtain ⟨us,hs,h⟩:=bS h;refine qG ?_;clear qG;cases h;refine ⟨F,pr,en,e1,rv,Re,h1,fun F1 H1 v s1 R1 z=>?_⟩;obtain ⟨F2,s2,R2,y⟩:=z.freeze R1;obtain ⟨w,fl⟩:=rv;by_cases hw:∃x,w=.str x
 ·obtain ⟨x, rfl⟩ := hw;obtain rfl:=sI hs;exact .inl ⟨x,y.isStr,q F2 H1 _ (s1.trans s2) R2 (zxc x)⟩
 ·have hs:seqW w=some ws:=by
   cases w with
   | str x=>exact absurd ⟨x,rfl⟩ hw
   | _=>exact hs
  refine aG fun _ qG=>?_;obtain ⟨a,k,vs,e,hq,r⟩:=zen y hs;refine qG ?_;clear qG;refine .inr ⟨a,e,?_⟩;cases k with
  | true=>exact .inl ⟨⟨vs,R2.sub.seq hq⟩,q F2 H1 _ (s1.trans s2) R2 (zfs hq r)⟩
  | false=>exact .inr ⟨⟨vs,zbd R2.sub hq⟩,q F2 H1 _ (s1.trans s2) R2 (zr2 hq r)⟩
theorem zlb {g:GE}{R:It->Hp->Prop} (h:tI K (zl4 g) σ H R):zrm (zdn (tE K g) tNil) σ H R:=by
  refine aG fun _ qG=>?_;obtain ⟨F,pr,en,en',ws,Re,h,q⟩:=h;obtain ⟨⟨e1,w,fl⟩,h1,h⟩:=bS h;refine qG ?_;clear qG;cases w with
  | str x =>
    cases h;refine ⟨F,pr,en,e1,(.str x,fl),Re,h1,fun F1 H1 v s1 R1 z=>?_⟩;obtain ⟨F2,s2,R2,y⟩:=z.freeze R1;exact ⟨x,by rw [y.isStr],q F2 H1 _ (s1.trans s2) R2 (zps x)⟩
  | _=>exact noSome h
end
noncomputable def tN (S:Sx):Expr->Bool
 | .Name x _=>S.bn.contains ("t "++x:Str)
 | .Call (.Name x _) _ _ _=>S.bn.contains ("t "++x:Str)
 | _=>false
noncomputable def zsi (f:Sx->Expr->Option GE) (S:Sx) (tg e:Expr):Option GL:=match e with
  | .Name x p=>if tN S (.Name x p) then (f S (.Name x p)).bind fun g=>some (zti g) else none
  | .Call (.Name x _) [.Name y q] [] _=>(match tg with
    | .Tuple _ _ _=>if x == ("enumerate" : Str) && S.bl x && tN S (.Name y q) then (f S (.Name y q)).bind fun g=>some (zl4 g) else none
    | _=>none)
  | _=>none
noncomputable def zoq (f:Sx->Expr->Option GE) (S:Sx) (tg e:Expr):Option GL:=match zsi f S tg e with
 | some g=>some g
 | none=>zs4 f S tg e
section
variable {X:Cx}{S:Sx}{d:Nat}{f:Sx->Expr->Option GE}
theorem zq6 (Hf:zbb f) (C:CxOk X S d) {tg e:Expr}{g:GL} (h:zsi f S tg e=some g):PI X tg e (tI X.K g)/\∀x,foldedSetIterable e X.env x=pure x:=by
 unfold zsi at h;split at h
 ·split at h
  ·obtain ⟨ge, hg, h⟩ := bS h;obtain rfl:=sI h;exact ⟨(zu5 (Hf X S d C _ _ hg)).wk fun _ _ _=>zl9,zd2 rfl⟩
  ·exact noSome h
 ·split at h
  ·split at h
   ·rename_i z;rw [Bool.and_eq_true,Bool.and_eq_true] at z;have e1:=eq_of_beq z.1.1;subst e1;obtain ⟨gl,mg⟩:=ze1 C z.1.2;obtain ⟨ge,hg,h⟩:=bS h;obtain rfl:=sI h;exact ⟨(zrf gl mg (pac (Hf X S d C _ _ hg) zdl rfl) (zag rfl)).wk fun _ _ _=>zlb,zd2 rfl⟩
   ·exact noSome h
  ·exact noSome h
 ·exact noSome h
theorem zjq (Hf:zbb f) (C:CxOk X S d) {tg e:Expr}{g:GL} (h:zoq f S tg e=some g):PI X tg e (tI X.K g)/\∀x,foldedSetIterable e X.env x=pure x:=by
 unfold zoq at h;split at h
 ·rename_i q;obtain rfl:=sI h;exact zq6 Hf C q
 ·exact zo3 Hf C h
end
noncomputable def zm0:ON
 | [.str x]=>if x.length<=sizeLine then some (.int x.length,false) else none
 | ws=>oLen ws
noncomputable def zdk:ON
 | [.str x]=>if (reprText x).length<=sizeLine then some (.str (reprText x),false) else none
 | ws=>zey ws
noncomputable def oIxS:O2
 | .str x,.int i=>if x.length<=sizeLine then (atI x.cps.toList i).bind fun c=>some (.str ⟨#[c]⟩,false) else none
 | _,_=>none
noncomputable def inS2 (x y:Str):Bool:=!(Builtin.Str.occurrences y x 0 y.length 1).isEmpty
noncomputable def oInS (neg:Bool):O2:=fun a b=>match a,b with
 | .str x,.str y=>some (.bl (if neg then !inS2 x y else inS2 x y),false)
 | a,b=>oIn neg a b
noncomputable def zdi:List W->Option (List Str)
 | []=>some []
 | .str x::ws=>(zdi ws).bind fun xs=>some (x::xs)
 | _=>none
noncomputable def zk3 (x:Str) (g:GE):GE:=fun en=>(g en).bind fun p=>match p.2.1 with
 | .lst ws=>(zdi ws).bind fun ys=>if (ys.map (·.length)).sum+ys.length * x.length<=16777216 then some (p.1,(.str (Txt.join x ys),false)) else none
 | _=>none
section
variable {K:PySem.W.Frag}
theorem zqf:OpSN K (fun xs H Q=>(∃z,xs=[.str z]/\z.length<=sizeLine/\Q (.int z.length) H)\/∃p ys,xs=[.ref p]/\(SqL K H p ys\/SqT K H p ys)/\Q (.int ys.length) H) zm0:=fun F H ws vs rv Q s r e q=>by
 by_cases hw:∃x,ws=[.str x]
 ·obtain ⟨x, rfl⟩ := hw;have e:(if x.length<=sizeLine then some (W.int x.length,false) else none)=some rv:=e;split at e
  ·rename_i z;obtain rfl:=sI e;obtain ⟨v,e1,h⟩:=r.one;subst e1;exact .inl ⟨x,by rw [h.str],z,q _ _ (.val (.int _))⟩
  ·exact noSome e
 ·refine .inr (oLen_ok F H ws vs rv Q s r ?_ q);unfold zm0 at e;split at e
  ·exact absurd ⟨_,rfl⟩ hw
  ·exact e
theorem zo0:OpSN K (fun xs H Q=>(∃z,xs=[.str z]/\(reprText z).length<=sizeLine/\Q (.str (reprText z)) H)\/znw xs H Q) zdk:=fun F H ws vs rv Q s r e q=>by
 by_cases hw:∃x,ws=[.str x]
 ·obtain ⟨x, rfl⟩ := hw;have e:(if (reprText x).length<=sizeLine then some (W.str (reprText x),false) else none)=some rv:=e;split at e
  ·rename_i z;obtain rfl:=sI e;obtain ⟨v,e1,h⟩:=r.one;subst e1;exact .inl ⟨x,by rw [h.str],z,q _ _ (.val (.str _))⟩
  ·exact noSome e
 ·refine .inr (oRepr_ok F H ws vs rv Q s r ?_ q);unfold zdk at e;split at e
  ·exact absurd ⟨_,rfl⟩ hw
  ·exact e
theorem zsa:OpS K rIxS oIxS:=fun F H w1 w2 v1 v2 rv Q s r1 r2 e q=>by
  cases w1 with
  | str x =>
    cases w2 with
    | int i =>
      have e:(if x.length<=sizeLine then (atI x.cps.toList i).bind fun c=>some (W.str ⟨#[c]⟩,false) else none)=some rv:=e;split at e
      · rename_i z
        obtain ⟨c,hc,e⟩:=bS e;obtain rfl:=sI e;exact ⟨x,i,c,r1.str,r2.int,z,hc,q _ _ (.val (.str _))⟩
      · exact noSome e
    | _=>exact noSome e
  | _=>exact noSome e
noncomputable def rInS (neg:Bool):R2:=fun x y H Q=>∃i j,x=.str i/\y=.str j/\Q (.bl (if neg then !inS2 i j else inS2 i j)) H
theorem zn1 (neg:Bool):OpS K (fun x y H Q=>rIn K neg x y H Q\/rInS neg x y H Q) (oInS neg):=fun F H w1 w2 v1 v2 rv Q s r1 r2 e q=>by
 unfold oInS at e;split at e
 ·obtain rfl := sI e;exact .inr ⟨_,_,r1.str,r2.str,q _ _ (.val (.bl _))⟩
 ·exact .inl (znf neg F H w1 w2 v1 v2 rv Q s r1 r2 e q)
end
theorem zkv {X:Cx}:zbc X (.builtin "repr") (fun xs H Q=>∃z,xs=[.str z]/\(reprText z).length<=sizeLine/\Q (.str (reprText z)) H):=by
 intro pins s σ H xs us Q I r h;obtain ⟨z,rfl,hz,q⟩:=h;obtain ⟨u,rfl,ru⟩:=r.one;obtain ⟨t,rfl⟩:=ru;exact PySem.P.repr_of_str ⟨.str _,H,I.tok _,⟨_,rfl⟩,q⟩ hz
theorem zvy {X:Cx}:OpR X (compareOp .In) (rInS false):=fun pins s σ H x y v u Q I rx ry h=>zo1 pins s σ H x y v u Q I rx ry h
theorem zoh {X:Cx}:OpR X (compareOp .NotIn) (rInS true):=fun pins s σ H x y v u Q I rx ry h=>zge pins s σ H x y v u Q I rx ry h
noncomputable def zxs:V->List V->Hp->VK->Prop:=fun x vs H Q=>∃(z:Str) (a:Addr) (ys:List Str),x=.str z/\vs=[.ref a]/\H a=some (.lst (ys.map V.str))/\(ys.map (·.length)).sum+ys.length * z.length<=16777216/\Q (.str (Txt.join z ys)) H
theorem zli:∀{ys:List Str}{its:List Value},Vals (ys.map V.str) its->StrsAre its ys:=by
  intro ys
  induction ys with
  | nil=>intro its r;cases r;exact .nil
  | cons y ys ih =>
    intro its r;cases r with
    | cons h r =>
      obtain ⟨t,rfl⟩:=h;exact .cons _ _ (ih r)
theorem zt5 {X:Cx}:MtR X "str.join" zxs:=by
 intro pins s σ H x vs v us Q I rx rv h;obtain ⟨z,a,ys,rfl,rfl,hH,hz,q⟩:=h;obtain ⟨t,rfl⟩:=rx;obtain ⟨u,rfl,ru⟩:=rv.one;cases ru;obtain ⟨z9,its,n,r,hl,e⟩:=I.lstM hH;exact join_list ⟨_,e,rfl,n,rfl⟩ (zli r) hz fun t' k=>⟨.str _,H,I.tok _,⟨_,rfl⟩,q⟩
section
variable {K:PySem.W.Frag}{σ:St}{H:Hp}
theorem zit {F:Hp}:∀{ws:List W}{ys:List Str}{vs:List V},zdi ws=some ys->Reps K F ws vs->vs=ys.map V.str:=by
  intro ws
  induction ws with
  | nil=>intro ys vs e r;obtain rfl:=sI e;cases r;rfl
  | cons w ws ih =>
    intro ys vs e r;cases w with
    | str x =>
      obtain ⟨xs,h1,h2⟩:=bS (show (zdi ws).bind _=_ from e);obtain rfl:=sI h2;cases r with
      | cons h r=>rw [h.isStr,ih h1 r];rfl
    | _=>exact noSome e
theorem zni {x:Str}{g:GE}{Q:VK} (h:tE K (zk3 x g) σ H Q):tBM K "str" zxs (tC (.str x)) (zdn (tE K g) tNil) σ H Q:=by
  refine aG fun _ qG=>?_;obtain ⟨F,pr,en,en',r,R,h,q⟩:=h;obtain ⟨⟨e1,w1,f1⟩,h1,h⟩:=bS h;refine qG ?_;clear qG;cases w1 with
  | lst ws =>
    obtain ⟨ys,hy,h⟩:=bS (show (zdi ws).bind _=_ from h);split at h
    · rename_i hz
      cases h;refine ⟨rfl,F,pr,en,e1,(.lst ws,f1),R,h1,fun F1 H1 v1 s1 R1 y1=>?_⟩;obtain ⟨F2,s2,R2,y2⟩:=y1.freeze R1;obtain ⟨a,vs,ea,hl,rr⟩:=RepB.lst R2.sub (.inl y2);subst ea;refine ⟨x,a,ys,rfl,rfl,?_,hz,q F2 H1 _ (s1.trans s2) R2 (.str _)⟩;rw [<-zit hy rr];exact hl
    · exact noSome h
  | _=>exact noSome h
end
section
variable {X:Cx}{S:Sx}{d:Nat}{fE:Sx->Expr->Option GE}
noncomputable def zh2 (fE:Sx->Expr->Option GE) (S:Sx):Expr->Option GE
 | .Call (.Attribute (.Constant (.str x) _ _) name apos) [e] [] cpos=>if name == ("join" : Str) && (apos.endLine == cpos.line) && zah e then (fE S e).bind fun g=>some (zk3 x g) else none
 | _=>none
theorem zlf (HE:zbb fE) (C:CxOk X S d):zis (zh2 fE S) X:=fun e g h=>by
 unfold zh2 at h;split at h
 ·split at h
  ·rename_i z;rw [Bool.and_eq_true,Bool.and_eq_true] at z;obtain ⟨⟨z1,z2⟩,y⟩:=z;have e1:=eq_of_beq z1;subst e1;obtain ⟨g1,hg1,h⟩:=bS h;obtain rfl:=sI h;exact (zv4 PySem.F.plainAttrs_str PySem.F.slot_str_join PySem.F.type_str_join zt5 zrl (pac (HE X S d C _ _ hg1) zdl y) (zm9 rfl) (zls y) z2 (zag y) rfl).wk fun _ _ _=>zni
  ·exact noSome h
 ·exact noSome h
noncomputable def zos (fE:Sx->Expr->Option GE) (S:Sx):Expr->Option GE
 | .Subscript (.Constant (.str x) k p) s _=>if zb5 s && zah s then (za7 fE S (.Constant (.str x) k p)).bind fun x=>(za7 fE S s).bind fun y=>some (gOp2 oIxS x y) else none
 | _=>none
theorem zm6 (HE:zbb fE) (C:CxOk X S d):zis (zos fE S) X:=fun e g h=>by
 unfold zos at h;split at h
 ·split at h
  ·rename_i z;rw [Bool.and_eq_true] at z;obtain ⟨x,hx,h⟩:=bS h;obtain ⟨y,hy,h⟩:=bS h;obtain rfl:=sI h;exact (zvw zxm (zad HE C hx) (zad HE C hy) (zfa z.1)).wk fun _ _ _=>zbz zsa
  ·exact noSome h
 ·exact noSome h
noncomputable def zid (fE:Sx->Expr->Option GE) (S:Sx):Expr->Option GE
 | .Call (.Name x _) [e] [] _=>if tN S e && S.bl x && zah e then (if x == ("len" : Str) then (asL (za7 fE S) [e]).bind fun as=>some (gOpN zm0 as) else if x == ("repr" : Str) then (asL (za7 fE S) [e]).bind fun as=>some (gOpN zdk as) else none) else none
 | _=>none
theorem zk0 (HE:zbb fE) (C:CxOk X S d):zis (zid fE S) X:=fun e g h=>by
 unfold zid at h;split at h
 ·split at h
  ·rename_i z;rw [Bool.and_eq_true,Bool.and_eq_true] at z;obtain ⟨gl,m⟩:=ze1 C z.1.2;split at h
   ·rename_i z1;have e1:=eq_of_beq z1;subst e1;obtain ⟨as,has,h⟩:=bS h;obtain rfl:=sI h;obtain ⟨pa,_⟩:=zd7 (fun e a ha=>zad HE C ha) has;exact (za3 (zgz.or zdj) gl m zr1 pa (by decide) (by decide) (zag z.2) rfl).wk fun _ _ _=>zfu zqf
   ·split at h
    ·rename_i z1;have e1:=eq_of_beq z1;subst e1;obtain ⟨as,has,h⟩:=bS h;obtain rfl:=sI h;obtain ⟨pa,_⟩:=zd7 (fun e a ha=>zad HE C ha) has;exact (za3 (zkv.or (zf4 C.room)) gl m zmq pa (by decide) (by decide) (zag z.2) rfl).wk fun _ _ _=>zfu zo0
    ·exact noSome h
  ·exact noSome h
 ·exact noSome h
noncomputable def cmpS (f:Sx->Expr->Option GE) (S:Sx) (a:Expr) (ops:List CmpOp) (cs:List Expr):Option GE:=match ops,cs with
 | [op],[b]=>if tN S b then (match op with | .In=>some false | .NotIn=>some true | _=>none).bind fun n=>if behindInMarks op b then none else (za7 f S a).bind fun x=>(za7 f S b).bind fun y=>some (gOp2 (oInS n) x y) else none
 | _,_=>none
theorem zug (Hf:zbb fE) (C:CxOk X S d) {a:Expr}{ops:List CmpOp}{cs:List Expr}{g:GE}{pos:Pos} (h:cmpS fE S a ops cs=some g):PE X (.Compare a ops cs pos) (tE X.K g)/\PT X (.Compare a ops cs pos) (tT X.K (zam g)):=by
 unfold cmpS at h;split at h
 ·rename_i op b;split at h
  ·obtain ⟨n, hn, h⟩ := bS h;split at h
   ·exact noSome h
   ·rename_i z;obtain ⟨x,hx,h⟩:=bS h;obtain ⟨y,hy,h⟩:=bS h;obtain rfl:=sI h;have h1:OpR X (compareOp op) (fun x y H Q=>rIn X.K n x y H Q\/rInS n x y H Q):=by
     cases op with
     | In=>obtain rfl:=sI hn;exact .or zgf zvy
     | NotIn=>obtain rfl:=sI hn;exact .or zdh zoh
     | _=>exact noSome hn
    rw [Bool.not_eq_true] at z;exact ⟨(znj h1 (zad Hf C hx) (zad Hf C hy) z).wk fun _ _ _=>zbz (zn1 n),(zow h1 (zad Hf C hx) (zad Hf C hy) z).wk fun _ _ _=>zeb fun _ _ _=>zbz (zn1 n)⟩
  ·exact noSome h
 ·exact noSome h
noncomputable def cmpZ (f:Sx->Expr->Option GE) (S:Sx) (a:Expr) (ops:List CmpOp) (cs:List Expr):Option GE:=match cmpS f S a ops cs with
 | some g=>some g
 | none=>cmpE f S a ops cs
theorem zly (Hf:zbb fE) (C:CxOk X S d) {a:Expr}{ops:List CmpOp}{cs:List Expr}{g:GE}{pos:Pos} (h:cmpZ fE S a ops cs=some g):PE X (.Compare a ops cs pos) (tE X.K g)/\PT X (.Compare a ops cs pos) (tT X.K (zam g)):=by
 unfold cmpZ at h;split at h
 ·rename_i q;obtain rfl:=sI h;exact zug Hf C q
 ·exact zsg Hf C h
end
end L2
namespace L2
open PySem PySem.Spec PyProof.Rows
section
open PySem.AutoSeq1 (wpAny_loadPart')
end
section
variable {X:Cx}{S:Sx}{d:Nat}{fE:Sx->Expr->Option GE}
end
section
open PySem.AutoSeq1 (wpAny_loadPart')
variable {prog:Program}{w:World}{A:Around}{E:Value->Shared->Prop}{s:Shared}
end
section
variable {X:Cx}{S:Sx}{d:Nat}{fE:Sx->Expr->Option GE}
end
section
variable {prog:Program}{w:World}{A:Around}{E:Value->Shared->Prop}{s:Shared}
open HT in
end
section
variable {X:Cx}{S:Sx}{d:Nat}{fE:Sx->Expr->Option GE}
noncomputable def orX (a b:Option GE):Option GE:=match a with
 | some g=>some g
 | none=>b
theorem zl0 {x y:Expr->Option GE} (hx:zis x X) (hy:zis y X):zis (fun e=>orX (x e) (y e)) X:=fun e g h=>by
 have h:orX (x e) (y e)=some g:=h;unfold orX at h;split at h
 ·rename_i g' q;obtain rfl:=sI h;exact hx e g' q
 ·exact hy e g h
noncomputable def extE (fE:Sx->Expr->Option GE) (S:Sx) (e:Expr):Option GE:=orX (zh2 fE S e) (orX (zos fE S e) (zid fE S e))
theorem ztl (HE:zbb fE) (C:CxOk X S d):zis (extE fE S) X:=zl0 (zlf HE C) (zl0 (zm6 HE C) (zk0 HE C))
end
end L2
namespace L2
open PySem PySem.Spec PyProof.Rows
noncomputable def ncOf (scope:Scope):List Str:=(scope.names.filter fun p=>p.2 == .free || p.2 == .local || p.2 == .cell).map (·.1)
noncomputable def capC (S:Sx) (scope:Scope):Cap:=(ncOf scope).map fun x=>if scope.names.lookup x == some .free then S.N.findIdx? (· == x) else none
noncomputable def inS (S:Sx) (scope:Scope):Sx:={ N:=ncOf scope,kd:=scope.names,bn:=S.bn,fs:=S.fs,mp:=capKeep (capC S scope),top:=false }
noncomputable def zie (S:Sx) (scope:Scope):Bool:=decide (scope.kind=.function) && ze0 (capC S scope) (ncOf scope) S.N scope && (scope.names.all fun p=>!(p.2 == .free) || S.kd.lookup p.1 == some .cell || S.kd.lookup p.1 == some .free) &&
 zdg scope && (scope.names.all fun p=>!(p.2 == NameKind.local) || decide (scope.names.lookup p.1=some .local)) && decide (ncOf scope).Nodup
noncomputable def zrs (fT:Sx->Expr->Option GT) (S:Sx):List Expr->Option GT
 | []=>some gYes
 | [c]=>fT S c
 | _=>none
noncomputable def zlx (fE:Sx->Expr->Option GE) (fT:Sx->Expr->Option GT) (S:Sx) (elt:Expr) (gens:List Comprehension) (scope:Scope):Option GE:=match gens with
 | [c]=>if zie S scope && decide (c.is_async=0) then (zoq fE S c.target c.iter).bind fun gi=>(tgE (inS S scope) c.target).bind fun T=>(zrs fT (inS S scope) c.ifs).bind fun tc=>(fE (inS S scope) elt).bind fun te=>some (ze2 (capC S scope) T gi tc te) else none
 | _=>none
structure ScOk (X:Cx) (S:Sx) (scope:Scope):Prop where
 kind:scope.kind=.function
 cap:ze0 (capC S scope) (ncOf scope) X.N scope=true
 fr:zeg scope X.env.scope=true
 nc:zdg scope=true
 nm:(scope.names.all fun p=>!(p.2 == NameKind.local) || decide (scope.names.lookup p.1=some .local))=true
 nd:(ncOf scope).Nodup
section
variable {X:Cx}{S:Sx}{d:Nat}
theorem zri (C:CxOk X S d) {scope:Scope} (h:zie S scope=true):ScOk X S scope:=by
 unfold zie at h;simp only [Bool.and_eq_true] at h;obtain ⟨⟨⟨⟨⟨h1,h2⟩,h3⟩,h4⟩,h5⟩,h6⟩:=h;refine ⟨of_decide_eq_true h1,by rw [C.N];exact h2,?_,h4,h5,of_decide_eq_true h6⟩;unfold zeg;refine List.all_eq_true.mpr fun p hp=>?_;have q:=List.all_eq_true.mp h3 p hp;simp only [Bool.or_eq_true,Bool.not_eq_true',beq_eq_false_iff_ne,beq_iff_eq,decide_eq_true_eq] at q ⊢;rcases q with (q | q) | q
 ·exact .inl (.inl q)
 ·rcases C.vis p.1 (.inl q) with z | z
  ·exact .inl (.inr z)
  ·exact .inr z
 ·rcases C.vis p.1 (.inr q) with z | z
  ·exact .inl (.inr z)
  ·exact .inr z
theorem zt7 (C:CxOk X S d) {scope:Scope} (h:ScOk X S scope) (cl:List (Str × Addr)) (L:Addr) (s3:Shared) (H3:Hp) (fp:List Addr):CxOk (zas X (ncOf scope) scope cl L s3 H3 fp) (inS S scope) d where
 N:=rfl
 nd:=h.nd
 loc:=fun x e=>zat (env:=X.env) (by decide) e
 cel:=fun x e=>⟨zat (env:=X.env) (by decide) e,decide_eq_true e⟩
 vis:=fun x e=>by
  rcases e with e | e
  ·exact .inl (zat (env:=X.env) (by decide) e)
  ·exact zaq (env:=X.env) e
 gl:=fun x e=>zat (env:=X.env) (by decide) e
 calm:=C.calm
 xe:=rfl
 bn:=C.bn
 fs:=C.fs
 room:=C.room
 sl:=C.sl
 lam:=fun h=>absurd (show ("" : Str)∈lams from h) (by decide +kernel)
 dpo:=Nat.zero_le _
 bk:=by
  show (if scope.kind.isAnnotationScope then ScopeKind.function else scope.kind)=.function;rw [h.kind];rfl
end
theorem zql {K:PySem.W.Frag}{σ:St}{H:Hp}{Q:Bool->Hp->Prop} (h:tT K gYes σ H Q):zr4 σ H Q:=by
 obtain ⟨F,pr,en,en',b,R,h,q⟩:=h;cases h;exact q F H (.refl F) R
structure CompP (X:Cx) (S:Sx) (elt:Expr) (gens:List Comprehension) (scope:Scope) (g:GE):Prop where
 ex:∃tg iter ifs gs gi T tc,∃(em:Pos->Value->Env->Sem Unit) (tm:Addr->TM),gens=⟨tg,iter,ifs,0⟩ :: gs/\(∀pos it acc env,compTurn (.ListComp elt gens scope pos) 0 it acc env=zk8 (.ListComp elt gens scope pos) 0 tg iter ifs (em pos acc env) it acc env)/\ScOk X S scope/\PI X tg iter (tI X.K gi)/\(∀x,foldedSetIterable iter X.env x=pure x) /\
  (∀cl C s3 H3 fp,PG (zas X (ncOf scope) scope cl C s3 H3 fp) tg (TGof X.K T))/\(∀cl C s3 H3 fp,PTs (zas X (ncOf scope) scope cl C s3 H3 fp) ifs (tT X.K tc))/\(∀pos cl C s3 H3 fp acc,PM (zas X (ncOf scope) scope cl C s3 H3 fp) (em pos (.ref acc) (zas X (ncOf scope) scope cl C s3 H3 fp).env) (tm acc)) /\
  ∀σ H Q,tE X.K g σ H Q->zmf (tI X.K gi) (capC S scope) (TGof X.K T) (tT X.K tc) tm σ H Q
section
variable {X:Cx}{S:Sx}{d:Nat}{fE:Sx->Expr->Option GE}{fT:Sx->Expr->Option GT}
theorem PTs.wk {ifs:List Expr}{t t' : TT} (h:PTs X ifs t) (i:∀σ H Q,t' σ H Q->t σ H Q):PTs X ifs t':=fun pins s σ H Q I q=>h pins s σ H Q I (i σ H Q q)
theorem zpx (HT:zgj fT) (C:CxOk X S d):∀{ifs:List Expr}{tc:GT},zrs fT S ifs=some tc->PTs X ifs (tT X.K tc)
 | [],_,h=>by obtain rfl:=sI h;exact zui.wk fun _ _ _=>zql
 | [_],_,h=>ztu (HT _ _ d C _ _ h)
 | _::_::_,_,h=>noSome h
theorem zdy (HE:zbb fE) (HT:zgj fT) (C:CxOk X S d) {elt:Expr}{gens:List Comprehension}{scope:Scope}{g:GE} (h:zlx fE fT S elt gens scope=some g):CompP X S elt gens scope g:=by
 unfold zlx at h;split at h
 ·rename_i c;obtain ⟨tg,iter,ifs,as⟩:=c;split at h
  ·rename_i z;rw [Bool.and_eq_true] at z;have ha:as=0:=of_decide_eq_true z.2;subst ha;obtain ⟨gi,hi,h⟩:=bS h;obtain ⟨T,hT,h⟩:=bS h;obtain ⟨tc,htc,h⟩:=bS h;obtain ⟨te,hte,h⟩:=bS h;obtain rfl:=sI h;have so:=zri C z.1;obtain ⟨pi,pf⟩:=zjq HE C hi;exact ⟨tg,iter,ifs,[],gi,T,tc,fun _=>zt3 elt,fun acc=>zp9 acc (tE X.K te),rfl,fun _ _ _ _=>rfl,so,pi,pf,fun cl L s3 H3 fp=>zr3 (zt7 C so cl L s3 H3 fp) hT,fun cl L s3 H3 fp=>zpx HT (zt7 C so cl L s3 H3 fp) htc,fun _ cl L s3 H3 fp acc=>zw8 (HE _ _ d (zt7 C so cl L s3 H3 fp) _ _ hte),fun _ _ _=>zme⟩
  ·exact noSome h
 ·exact noSome h
theorem zl7 (C:CxOk X S d) {elt:Expr}{gens:List Comprehension}{scope:Scope}{g:GE}{pos:Pos} (h:CompP X S elt gens scope g):PE X (.ListComp elt gens scope pos) (tE X.K g):=by
 refine aG fun _ qG=>?_;obtain ⟨tg,iter,ifs,gs,gi,T,tc,em,tm,e1,e2,so,pi,pf,pg,pt,pe,rd⟩:=h.ex;refine qG ?_;clear qG;subst e1;exact (ztm pi pg pt (pe pos) (e2 pos) C.calm so.kind so.cap so.fr so.nc so.nm pf).wk rd
noncomputable def zuq (fE:Sx->Expr->Option GE) (S:Sx):Option Expr->Option GO
 | none=>some zbm
 | some e=>(fE S e).bind fun g=>some (zeo g)
noncomputable def zpb (fE:Sx->Expr->Option GE) (fT:Sx->Expr->Option GT) (S:Sx) (e:Expr):Option GE:=match e with
  | .Name x _=>(S.rd x).bind fun i=>some (gVar i)
  | .Constant c _ _=>(match c with
    | .int i=>some (gC (.int i))
    | .bool b=>some (gC (.bl b))
    | .none=>some (gC .non)
    | .str x=>some (gC (.str x))
    | _=>none)
  | .BinOp a op b _=>(za7 fE S a).bind fun x=>(za7 fE S b).bind fun y=>(binO op).bind fun o=>some (gOp2 o x y)
  | .UnaryOp op a _=>(match op with
    | .USub=>(za7 fE S a).bind fun x=>some (gOp1 oNeg x)
    | _=>none)
  | .BoolOp op vs _=>(match vs with
    | v::vs=>zt0 (fE S) op v vs
    | []=>none)
  | .Compare a ops cs _=>cmpZ fE S a ops cs
  | .IfExp c a b _=>(fT S c).bind fun t=>(fE S a).bind fun x=>(fE S b).bind fun y=>some (gIf t x y)
  | .Subscript a s _=>(match s with
    | .Slice lo hi st _=>(match st with
      | none=>(za7 fE S a).bind fun x=>(zuq fE S lo).bind fun l=>(zuq fE S hi).bind fun h=>some (gSl x l h)
      | some _=>none)
    | s=>if zb5 s then (za7 fE S a).bind fun x=>(za7 fE S s).bind fun y=>some (gOp2 oIx x y) else none)
  | .List es _=>(asL (fun e=>(fE S e).bind fun g=>some (gArg g)) es).bind fun as=>some (za8 as)
  | .Tuple es _ _=>(asL (fun e=>(fE S e).bind fun g=>some (gArg g)) es).bind fun as=>some (zgv as)
  | .Call fu args kws pos=>(match kws with
    | []=>(match fu with
      | .Name x _=>zse fE S x args
      | .Attribute o m ap=>zup fE S o m ap args pos
      | _=>none)
    | _=>none)
  | .ListComp elt gens scope _=>zlx fE fT S elt gens scope
  | _=>none
noncomputable def zud (fE:Sx->Expr->Option GE) (fT:Sx->Expr->Option GT) (S:Sx) (e:Expr):Option GT:=match e with
  | .BoolOp op vs _=>(match vs with
    | v::vs=>zsm (fT S) op v vs
    | []=>none)
  | .Compare a ops cs _=>(cmpZ fE S a ops cs).bind fun g=>some (zam g)
  | .UnaryOp op a p=>(match op with
    | .Not=>(fT S a).bind fun g=>some (zkz g)
    | op=>if zjv (.UnaryOp op a p) then (fE S (.UnaryOp op a p)).bind fun g=>some (zam g) else none)
  | e=>if zjv e then (fE S e).bind fun g=>some (zam g) else none
theorem zj7 (HE:zbb fE) (C:CxOk X S d) {o:Option Expr}{g:GO} (h:zuq fE S o=some g):PO X o (tO X.K g):=by
  cases o with
  | none=>obtain rfl:=sI h;exact fun pins s σ H Q I q=>zsx pins s σ H Q I (zjf q)
  | some e =>
    obtain ⟨ge,hg,h⟩:=bS h;obtain rfl:=sI h;exact fun pins s σ H Q I q=>zu9 (HE X S d C _ _ hg) pins s σ H Q I (zm5 q)
theorem zq9 (HE:zbb fE) (HT:zgj fT):zbb (zpb fE fT):=fun X S d C e g h=>by
  have HA:∀e a,((fE S e).bind fun g=>some (gArg g))=some a->PE X e (tA X.K a):=fun e a h=>by
    obtain ⟨ge,hg,h⟩:=bS h;obtain rfl:=sI h;exact (HE X S d C _ _ hg).wk fun _ _ _=>zfx
  cases e with
  | Name x p =>
    obtain ⟨i,hi,h⟩:=bS (show (S.rd x).bind _=_ from h);obtain rfl:=sI h;exact (zny C hi).wk fun _ _ _=>zpi
  | Constant c k p =>
    cases c with
    | int i=>obtain rfl:=sI h;exact zxx.wk fun _ _ _=>zcl fun _=>.int i
    | bool b=>obtain rfl:=sI h;exact zyv.wk fun _ _ _=>zcl fun _=>.bl b
    | none=>obtain rfl:=sI h;exact zwq.wk fun _ _ _=>zcl fun _=>.non
    | str x=>obtain rfl:=sI h;exact zrl.wk fun _ _ _=>zcl fun _=>.str x
    | _=>exact noSome h
  | BinOp a op b p =>
    obtain ⟨x,hx,h⟩:=bS (show (za7 fE S a).bind _=_ from h);obtain ⟨y,hy,h⟩:=bS h;obtain ⟨o,ho,h⟩:=bS h;obtain rfl:=sI h;obtain ⟨r,h1,h2⟩:=zts (X:=X) ho;exact (zy5 h1 (zad HE C hx) (zad HE C hy)).wk fun _ _ _=>zbz h2
  | UnaryOp op a p =>
    cases op with
    | USub =>
      obtain ⟨x,hx,h⟩:=bS (show (za7 fE S a).bind _=_ from h);obtain rfl:=sI h;exact (zzc zxz (zad HE C hx)).wk fun _ _ _=>zq4 zs0
    | _=>exact noSome h
  | BoolOp op vs p =>
    cases vs with
    | nil=>exact noSome h
    | cons v vs=>exact zj1 (fun e g=>HE X S d C e g) h
  | Compare a ops cs p=>exact (zly HE C h).1
  | IfExp c a b p =>
    obtain ⟨t,ht,h⟩:=bS (show (fT S c).bind _=_ from h);obtain ⟨x,hx,h⟩:=bS h;obtain ⟨y,hy,h⟩:=bS h;obtain rfl:=sI h;exact (zp6 (HT X S d C _ _ ht) (HE X S d C _ _ hx) (HE X S d C _ _ hy)).wk fun _ _ _=>zsw
  | Subscript a s p =>
    have ix:∀s,(if zb5 s then (za7 fE S a).bind fun x=>(za7 fE S s).bind fun y=>some (gOp2 oIx x y) else none)=some g->PE X (.Subscript a s p) (tE X.K g):=fun s h=>by
      split at h
      · rename_i z
        obtain ⟨x,hx,h⟩:=bS h;obtain ⟨y,hy,h⟩:=bS h;obtain rfl:=sI h;exact (zvw (zs5.or zw2) (zad HE C hx) (zad HE C hy) (zfa z)).wk fun _ _ _=>zbz zv5
      · exact noSome h
    cases s with
    | Slice lo hi st p2 =>
      cases st with
      | some _=>exact noSome h
      | none =>
        obtain ⟨x,hx,h⟩:=bS (show (za7 fE S a).bind _=_ from h);obtain ⟨l,hl,h⟩:=bS h;obtain ⟨u,hu,h⟩:=bS h;obtain rfl:=sI h;exact (zpg ((zsc.or zyo).or zuc) (zad HE C hx) (zj7 HE C hl) (zj7 HE C hu)).wk fun _ _ _=>zve
    | _=>exact ix _ h
  | List es p =>
    obtain ⟨as,has,h⟩:=bS (show (asL _ es).bind _=_ from h);obtain rfl:=sI h;exact (zxw (zd7 HA has).1).wk fun _ _ _=>zp8
  | Tuple es k p =>
    obtain ⟨as,has,h⟩:=bS (show (asL _ es).bind _=_ from h);obtain rfl:=sI h;exact (zvk (zd7 HA has).1).wk fun _ _ _=>zp5
  | Call fu args kws p =>
    simp only [zpb] at h;split at h
    · cases fu with
      | Name x p2=>exact zpw HE C h
      | Attribute o m ap=>exact zo5 HE C h
      | _=>exact noSome h
    · exact noSome h
  | ListComp elt gens scope p=>exact zl7 C (zdy HE HT C h)
  | _=>exact noSome h
theorem zpn (HE:zbb fE) (HT:zgj fT):zgj (zud fE fT):=fun X S d C e g h=>by
  have plain:∀e,(if zjv e then (fE S e).bind fun g=>some (zam g) else none)=some g->PT X e (tT X.K g):=fun e h=>by
    split at h
    · rename_i z
      obtain ⟨x,hx,h⟩:=bS h;obtain rfl:=sI h;exact (zxi (HE X S d C _ _ hx) (zlg z)).wk fun _ _ _=>zeb fun _ _ _ q=>q
    · exact noSome h
  cases e with
  | BoolOp op vs p =>
    cases vs with
    | nil=>exact noSome h
    | cons v vs=>exact (zfw (fun e g=>HT X S d C e g) h).pt
  | Compare a ops cs p =>
    obtain ⟨x,hx,h⟩:=bS (show (cmpZ fE S a ops cs).bind _=_ from h);obtain rfl:=sI h;exact (zly HE C hx).2
  | UnaryOp op a p =>
    cases op with
    | Not =>
      obtain ⟨x,hx,h⟩:=bS (show (fT S a).bind _=_ from h);obtain rfl:=sI h;exact (zvi (HT X S d C _ _ hx)).wk fun _ _ _=>zov
    | _=>exact plain _ h
  | _=>exact plain _ h
end
noncomputable def zua:GE:=fun _=>none
noncomputable def zmu:GT:=fun _=>none
mutual
noncomputable def compE:Nat->Sx->Expr->Option GE
 | 0,_,_=>some zua
 | n+1,S,e=>some ((orX (extE (compE n) S e) (zpb (compE n) (compT n) S e)).getD zua)
noncomputable def compT:Nat->Sx->Expr->Option GT
 | 0,_,_=>some zmu
 | n+1,S,e=>some ((zud (compE n) (compT n) S e).getD zmu)
end
theorem zl5 {X:Cx}{e:Expr}:PE X e (tE X.K zua):=fun _ _ _ _ _ _ q=>by obtain ⟨_,_,_,_,_,_,h,_⟩:=q;exact noSome h
theorem zke {X:Cx}{e:Expr}:PT X e (tT X.K zmu):=fun _ _ _ _ _ _ q=>by obtain ⟨_,_,_,_,_,_,h,_⟩:=q;exact noSome h
theorem zd8:∀n,zbb (compE n)/\zgj (compT n)
  | 0=>⟨fun _ _ _ _ _ _ h=>by rw [compE] at h;obtain rfl:=sI h;exact zl5,fun _ _ _ _ _ _ h=>by rw [compT] at h;obtain rfl:=sI h;exact zke⟩
  | n+1=>by
    obtain ⟨a,b⟩:=zd8 n;refine ⟨fun X S d C e g h=>?_,fun X S d C e g h=>?_⟩
    · rw [compE] at h
      cases q:orX (extE (compE n) S e) (zpb (compE n) (compT n) S e) with
      | none=>rw [q] at h;obtain rfl:=sI h;exact zl5
      | some g'=>rw [q] at h;obtain rfl:=sI h;exact zl0 (ztl a C) (zq9 a b X S d C) e _ q
    · rw [compT] at h
      cases q:zud (compE n) (compT n) S e with
      | none=>rw [q] at h;obtain rfl:=sI h;exact zke
      | some g'=>rw [q] at h;obtain rfl:=sI h;exact zpn a b X S d C e _ q
end L2
namespace L2
open PySem PySem.Spec PyProof.Rows
section
variable {X:Cx}{pos:Pos}
end
section
variable {K:PySem.W.Frag}{mp:List Nat}{D:Ends}{σ:St}{H:Hp}
end
section
variable {X:Cx}{S:Sx}{d:Nat}{fE:Sx->Expr->Option GE}
end
section
variable {X:Cx}{S:Sx}{d:Nat}{fE:Sx->Expr->Option GE}
theorem zyl {o k e:Expr}{p:Pos}{env:Env}:swappedStores [.Subscript o k p] e env=pure none:=by
 cases e<;>rfl
theorem zpz {o k e:Expr}{p:Pos}{l:Nat}{env:Env}:swapsWithSole [.Subscript o k p] e l env=pure false:=by
 cases e<;>rfl
theorem zlq {o k:Expr}{p:Pos}{env:Env} (h:zb5 k=true):∀v,assign (.Subscript o k p) env v=(do
   let ov <- holding [v] (eval o env)
   let iv <- holding [v,ov] (eval k env)
   standAt p
   holding [v,ov,iv] (setItem ov iv v)
   release [v,ov,iv] []):=by
 intro v;cases k<;>first | rfl | (cases h)
end
end L2
namespace L2
open PySem PySem.Spec PyProof.Rows
noncomputable def zcq (mp:List Nat) (i:Nat):GS:=fun en=>match en[i]? with
 | some (some (w,true))=>if mp.contains i then none else some (en.set i none,.ret (w,true))
 | some (some (w,false))=>some (en,.ret (w,false))
 | _=>none
theorem Rel.drop {K:PySem.W.Frag}{F H:Hp}{pr:Prt}{en:En}{σ:St} (R:Rel K F pr en σ H) {i:Nat}{w:W} (e:en[i]?=some (some (w,true))):∃v,σ[i]?=some (some v)/\Rel K F pr (en.set i none) σ H/\Res K F H pr (en.set i none) σ (w,true) v:=by
 have hi:i < en.length:=(List.getElem?_eq_some_iff.mp e).1;refine aG fun _ qG=>?_;obtain ⟨a,vs,ws,h1,h2,h3,h4,h5⟩:=R.own i w e;refine qG ?_;clear qG;have g:∀(j:Nat) (x:W × Bool),(en.set i none)[j]?=some (some x)->j≠i/\en[j]?=some (some x):=fun j x h=>by
  rcases zcu hi h with ⟨_,q⟩ | z
  ·cases q
  ·exact z
 refine ⟨_,h2,⟨by rw [List.length_set];exact R.len,R.sub,fun j u q=>R.val j u (g j _ q).2,fun j u q=>R.own j u (g j _ q).2,fun j k b u u' q q'=>R.inj j k b u u' (g j _ q).2 (g k _ q').2,fun b o q=>⟨(R.prt b o q).1,(R.prt b o q).2.1,fun j u z=>(R.prt b o q).2.2 j u (g j _ z).2⟩,R.tb⟩,a,vs,ws,h1,rfl,h3,h4,h5,fun j u q z=>?_,fun b o q z=>?_⟩
 ·exact (g j _ q).1 (R.inj j i a _ _ (g j _ q).2 e z h2)
 ·subst z;exact (R.prt b o q).2.2 i w e h2
theorem znu {K:PySem.W.Frag}{mp:List Nat}{D:Ends}{σ:St}{H:Hp}{i:Nat} (h:tS K mp (zcq mp i) D σ H):tRet (tVar i) D σ H:=by
 obtain ⟨F,pr,en,en',fl,R,h,q⟩:=h;unfold zcq at h;split at h
 ·rename_i w e;split at h
  ·exact noSome h
  ·cases h;obtain ⟨v,hv,R',z⟩:=R.drop e;exact ⟨v,hv,q F σ H v (.refl F) R' (.refl _ _) z⟩
 ·rename_i w e;cases h;obtain ⟨v,hv,z⟩:=R.val i w e;exact ⟨v,hv,q F σ H v (.refl F) R (.refl _ _) z⟩
 ·exact noSome h
noncomputable def zrd (f:Sx->Stmt->Option GS):Prop:=∀X S d,CxOk X S d->∀st g,f S st=some g->PS X st (tS X.K S.mp g)
noncomputable def blk (f:Sx->Stmt->Option GS) (S:Sx):List Stmt->Option GS
  | []=>some zco
  | st::sts=>match sts with
    | []=>f S st
    | _::_=>(f S st).bind fun a=>(blk f S sts).bind fun b=>some (gSeq a b)
noncomputable def zf1 (S:Sx) (x:Str) (px:Pos) (scope:Scope) (pos:Pos):Bool:=S.kd.lookup x == some .local && px.line == pos.line && !(scope.names.any fun (n,k)=>n == x && (k == .local || k == .cell))
noncomputable def zh6 (S:Sx) (x:Str):Bool:=S.top && S.kd.lookup x == some .cell
noncomputable def asgE (fE:Sx->Expr->Option GE) (fT:Sx->Expr->Option GT) (S:Sx) (tg e:Expr):Option GS:=match tg with
  | .Name x px=>(S.wr x).bind fun i=>(match e with
    | .ListComp elt gens scope pos=>(zlx fE fT S elt gens scope).bind fun g=>if zf1 S x px scope pos || zh6 S x then some (gSet S.mp i g) else none
    | e=>if zd5 e then (fE S e).bind fun g=>some (gSet S.mp i g) else none)
  | .Subscript o k _=>(match o with
    | .Name x _=>if zb5 k then (S.rd x).bind fun i=>(fE S k).bind fun gk=>(fE S e).bind fun g=>some (zax i gk g) else none
    | _=>none)
  | _=>none
noncomputable def zsl (fS:Sx->Stmt->Option GS) (fE:Sx->Expr->Option GE) (fT:Sx->Expr->Option GT) (S:Sx) (st:Stmt):Option GS:=match st with
  | .Return o _=>(match o with
    | none=>none
    | some e=>(match e with
      | .Name x _=>(S.rd x).bind fun i=>some (zcq S.mp i)
      | e=>(fE S e).bind fun g=>some (gRet g)))
  | .If c a b _=>(fT S c).bind fun t=>(blk fS S a).bind fun x=>(blk fS S b).bind fun y=>some (gIfS t x y)
  | .For tg it body els _=>(match els with
    | []=>(zoq fE S tg it).bind fun gi=>(tgE S tg).bind fun T=>(blk fS S body).bind fun g=>some (gFor S.mp T gi g)
    | _=>none)
  | .Pass _=>some zco
  | .Expr e _=>if zd5 e then (fE S e).bind fun g=>some (zd3 g) else none
  | .Assign ts e _=>(match ts with
    | [tg]=>asgE fE fT S tg e
    | _=>none)
  | .AugAssign tg op e _=>(match tg with
    | .Name x _=>(S.wr x).bind fun i=>(augO op).bind fun o=>(za7 fE S e).bind fun a=>some (gAug S.mp o i a)
    | _=>none)
  | _=>none
section
variable {X:Cx}{S:Sx}{d:Nat}{fS:Sx->Stmt->Option GS}{fE:Sx->Expr->Option GE}{fT:Sx->Expr->Option GT}
theorem zhf (HS:zrd fS) (C:CxOk X S d):∀{sts:List Stmt}{g:GS},blk fS S sts=some g->PSs X sts (tS X.K S.mp g)
  | [],_,h=>by obtain rfl:=sI h;exact zsy.wk fun _ _ _=>zgd
  | [st],_,h=>ztn (HS X S d C _ _ h)
  | st::st' :: sts,_,h=>by
    obtain ⟨a,ha,h⟩:=bS (show (fS S st).bind _=_ from h);obtain ⟨b,hb,h⟩:=bS h;obtain rfl:=sI h;exact (zpd (HS X S d C _ _ ha) (zhf HS C hb)).wk fun _ _ _=>zqy
theorem zyt (C:CxOk X S d) {x:Str}{px pos:Pos}{elt:Expr}{gens:List Comprehension}{scope:Scope}{l:Nat} (h:zf1 S x px scope pos=true):swapsWith (.ListComp elt gens scope pos) (some (.Name x px)) l X.env=pure true:=by
 unfold zf1 at h;rw [Bool.and_eq_true,Bool.and_eq_true] at h;have h1:X.env.kindOf x=some .local:=C.loc x (by simpa using h.1.1);show (pure (X.env.blockKind == .function && X.env.kindOf x == some .local && px.line == pos.line && !(scope.names.any fun (n,k)=>n == x && (k == .local || k == .cell))):Sem Bool)=pure true;rw [C.bk,h1,h.1.2,h.2]
 rfl
theorem swNo (C:CxOk X S d) {x:Str}{px pos:Pos}{elt:Expr}{gens:List Comprehension}{scope:Scope}{l:Nat} (h:zh6 S x=true):swapsWith (.ListComp elt gens scope pos) (some (.Name x px)) l X.env=pure false:=by
 unfold zh6 at h;rw [Bool.and_eq_true] at h;have h1:X.env.kindOf x=some .cell:=(C.cel x (by simpa using h.2)).1;show (pure (X.env.blockKind == .function && X.env.kindOf x == some .local && px.line == pos.line && !(scope.names.any fun (n,k)=>n == x && (k == .local || k == .cell))):Sem Bool)=pure false;rw [h1];have:(some NameKind.cell == some NameKind.local)=false:=rfl;rw [this,Bool.and_false,Bool.false_and,Bool.false_and]
theorem zsd (HE:zbb fE) (HT:zgj fT) (C:CxOk X S d) {tg e:Expr}{g:GS}{pos:Pos} (h:asgE fE fT S tg e=some g):PS X (.Assign [tg] e pos) (tS X.K S.mp g):=by
  cases tg with
  | Name x px =>
    refine aG fun _ qG=>?_;obtain ⟨i,hi,h⟩:=bS (show (S.wr x).bind _=_ from h);obtain ⟨w1,w2,w3⟩:=zrb C hi;refine qG ?_;clear qG;have plain:(if zd5 e then (fE S e).bind fun g=>some (gSet S.mp i g) else none)=some g->PS X (.Assign [.Name x px] e pos) (tS X.K S.mp g):=fun h=>by
      split at h
      · rename_i z
        obtain ⟨ge,hg,h⟩:=bS h;obtain rfl:=sI h;exact (zrz (ndN C) w1 w2 (HE X S d C _ _ hg) (zj3 z) w3).wk fun _ _ _=>zfn
      · exact noSome h
    cases e with
    | ListComp elt gens scope pc =>
      obtain ⟨ge,hg,h⟩:=bS (show (zlx fE fT S elt gens scope).bind _=_ from h);have cp:=zdy HE HT C hg;split at h
      · rename_i z
        obtain rfl:=sI h;rw [Bool.or_eq_true] at z;rcases z with z | z
        · refine aG fun Gg qG => ?_
          obtain ⟨tg,iter,ifs,gs,gi,T,tc,em,tm,e1,e2,so,pi,pf,pg,pt,pe,rd⟩:=cp.ex;refine qG ?_;clear qG;subst e1;exact (zsn (ndN C) w1 w2 pi pg pt (pe pc) (e2 pc) (zyt C z) C.calm so.kind so.cap so.fr so.nc so.nm pf w3).wk fun D σ H q=>by
            have q':=zfn q;exact rd _ _ _ q'
        · exact (zrz (ndN C) w1 w2 (zl7 C cp) (swNo C z) w3).wk fun _ _ _=>zfn
      · exact noSome h
    | _=>exact plain h
  | Subscript o k p =>
    cases o with
    | Name x px =>
      have h' : (if zb5 k then (S.rd x).bind fun i=>(fE S k).bind fun gk=>(fE S e).bind fun g=>some (zax i gk g) else none)=some g:=h;split at h'
      · rename_i z
        refine aG fun _ qG=>?_;obtain ⟨i,hi,h⟩:=bS h';obtain ⟨gk,hgk,h⟩:=bS h;obtain ⟨ge,hg,h⟩:=bS h;refine qG ?_;clear qG;obtain rfl:=sI h;exact (zvt (HE X S d C _ _ hg) (zxv (zny C hi) (HE X S d C _ _ hgk) zp4 (zlq z)) zpz zyl rfl).wk fun _ _ _=>zkr
      · exact noSome h'
    | _=>exact noSome h
  | _=>exact noSome h
theorem zpp (HS:zrd fS) (HE:zbb fE) (HT:zgj fT):zrd (zsl fS fE fT):=fun X S d C st g h=>by
  have pn:PassesOwn (model X.prog X.w) X.A X.env X.xe:=by rw [C.xe];exact PassesOwn.never
  cases st with
  | Return o p =>
    cases o with
    | none=>cases h
    | some e =>
      have gen:((fE S e).bind fun g=>some (gRet g))=some g->PS X (.Return (some e) p) (tS X.K S.mp g):=fun h=>by
        obtain ⟨ge,hg,h⟩:=bS h;obtain rfl:=sI h;exact (zro (HE X S d C _ _ hg)).wk fun _ _ _=>zqq
      cases e with
      | Name x px =>
        obtain ⟨i,hi,h⟩:=bS (show (S.rd x).bind _=_ from h);obtain rfl:=sI h;exact (zro (zny C hi)).wk fun _ _ _=>znu
      | _=>exact gen h
  | If c a b p =>
    obtain ⟨t,ht,h⟩:=bS (show (fT S c).bind _=_ from h);obtain ⟨x,hx,h⟩:=bS h;obtain ⟨y,hy,h⟩:=bS h;obtain rfl:=sI h;exact (zyx (HT X S d C _ _ ht) (zhf HS C hx) (zhf HS C hy)).wk fun _ _ _=>zpj
  | For tg it body els p =>
    cases els with
    | cons _ _=>exact noSome h
    | nil =>
      obtain ⟨gi,hgi,h⟩:=bS (show (zoq fE S tg it).bind _=_ from h);obtain ⟨T,hT,h⟩:=bS h;obtain ⟨gb,hb,h⟩:=bS h;obtain rfl:=sI h;obtain ⟨pi,pf⟩:=zjq HE C hgi;exact (zyf pn C.calm pi (zr3 C hT) (zhf HS C hb) pf).wk fun _ _ _=>zqr
  | Pass p=>obtain rfl:=sI h;exact zu0.wk fun _ _ _=>zgd
  | Expr e p =>
    have h' : (if zd5 e then (fE S e).bind fun g=>some (zd3 g) else none)=some g:=h;split at h'
    · rename_i z
      obtain ⟨ge,hg,h⟩:=bS h';obtain rfl:=sI h;exact (ztr (HE X S d C _ _ hg) (zj3 z)).wk fun _ _ _=>zns
    · exact noSome h'
  | Assign ts e p =>
    match ts,h with
    | [tg],h=>exact zsd HE HT C h
    | [],h=>exact noSome h
    | _::_::_,h=>exact noSome h
  | AugAssign tg op e p =>
    cases tg with
    | Name x px =>
      obtain ⟨i,hi,h⟩:=bS (show (S.wr x).bind _=_ from h);obtain ⟨o,ho,h⟩:=bS h;obtain ⟨a,ha,h⟩:=bS h;obtain rfl:=sI h;obtain ⟨w1,w2,w3⟩:=zrb C hi;obtain ⟨r,h1,h2⟩:=zuw (X:=X) ho;exact (zwb (ndN C) w1 w2 (zad HE C ha) h1 w3).wk fun _ _ _=>zpa h2
    | _=>exact noSome h
  | _=>exact noSome h
end
noncomputable def zgm:GS:=fun _=>none
noncomputable def zn6:Nat->Sx->Stmt->Option GS
 | 0,_,_=>some zgm
 | n+1,S,st=>some ((zsl (zn6 n) (compE n) (compT n) S st).getD zgm)
theorem zjr {X:Cx}{st:Stmt}{mp:List Nat}:PS X st (tS X.K mp zgm):=fun _ _ _ _ _ _ q=>by obtain ⟨_,_,_,_,_,_,h,_⟩:=q;exact noSome h
theorem ze6:∀n,zrd (zn6 n)
  | 0=>fun _ _ _ _ _ _ h=>by obtain rfl:=sI h;exact zjr
  | n+1=>fun X S d C st g h=>by
    rw [zn6] at h;cases q:zsl (zn6 n) (compE n) (compT n) S st with
    | none=>rw [q] at h;obtain rfl:=sI h;exact zjr
    | some g'=>rw [q] at h;obtain rfl:=sI h;exact zpp (ze6 n) (zd8 n).1 (zd8 n).2 X S d C st _ q
structure Fd where
 nm:Str
 ps:List Str
 N:List Str
 m:List Bool
 st:Stmt
noncomputable def deep:Nat:=60
noncomputable def sxOf (T:List Fd) (bn:List Str) (Ψ:Str->Fn) (d:Nat) (t:Fd):Sx:={ N:=t.N,kd:=(zai t.st).names,bn:=bn,fs:=T.map fun u=>(u.nm,(u.m,Ψ u.nm)),mp:=mpOf t.m,top:=true,nm:=t.nm,dp:=d }
noncomputable def za5 (T:List Fd) (bn:List Str) (Ψ:Str->Fn) (d:Nat) (t:Fd):Option GS:=blk (zn6 deep) (sxOf T bn Ψ d t) (zcf t.st)
noncomputable def fnAt (T:List Fd) (bn:List Str) (Ψ:Str->Fn) (d:Nat) (t:Fd):Fn:=match za5 T bn Ψ d t with
 | some g=>zal t.m t.N.length g
 | none=>fun _=>none
noncomputable def sem (T:List Fd) (bn:List Str):Nat->Str->Fn
  | 0,_=>fun _=>none
  | d+1,x=>match T.find? (·.nm == x) with
    | some t=>fnAt T bn (sem T bn d) d t
    | none=>fun _=>none
noncomputable def zq5 (K:PySem.W.Frag) (x:Str):Bool:=match PySem.W.tabIn K x with
 | some (c,P)=>PySem.W.codeHdIn K c P
 | none=>false
theorem Fun.okC {P:Program}{w:World}{K:PySem.W.Frag}{mg:Str->Option Value}{base:Heap}{x qual:Str}{st:Stmt}{f:Addr}{fd:FuncData}{N ps:List Str}{k:Nat}{sp:Sp} (F:Fun K x qual st f fd) (S:FnScope N ps (zai st)) (len:∀vs H Q E,sp vs H Q E->vs.length=ps.length)
  (hbody:∀(A:Around) (outer:List Env) (s:Shared) (H:Hp) (vs:List V) (Q:VK) (E:XK),(Room k (A.deeper (envOfC qual (zai st) s.heap.objs.size f fd.code))/\Room (k+1) A)->sp vs H Q E ->
   ∃t,PSs (cxOf CX0 P w K mg base N qual (zai st) f fd.code A outer s H E).nox (zcf st) t/\t { nx:=fun _ H'=>Q .non H',rt:=Q } (start N vs) H):FnOk P w K mg base CX0 (k+1) f fd ps sp:=by
 refine aG fun _ qG=>?_;obtain ⟨oc,od,kV,doc,pm,an,cdv,ct,osl,rfl,lk,hcd⟩:=F.ex;refine qG ?_;clear qG;refine zyy lk hcd S len fun A outer s H vs Q E hr hsp=>?_;obtain ⟨t,h,q⟩:=hbody A outer s H vs Q E hr hsp;exact ⟨t,h.nox,q⟩
structure FdOk (K:PySem.W.Frag) (mg:Str->Option Value) (t:Fd):Prop where
 sc:FnScope t.N t.ps (zai t.st)
 m:t.m.length=t.ps.length
 ex:∃f fd,Fun K t.nm t.nm t.st f fd/\zil K fd t.ps []/\mg t.nm=some (.ref f)
 lam:t.nm∈lams->zq5 K t.nm=true
theorem zlc {T:List Fd}{Ψ:Str->Fn}{x:Str}{m:List Bool}{Φ:Fn} (h:(T.map fun u=>(u.nm,(u.m,Ψ u.nm))).lookup x=some (m,Φ)):∃t∈T,t.nm=x/\t.m=m/\Φ=Ψ x:=by
  induction T with
  | nil=>exact noSome h
  | cons t T ih =>
    rw [List.map_cons,List.lookup_cons] at h;cases q:x == t.nm with
    | true =>
      rw [q] at h;cases h;have:=eq_of_beq q;subst this;exact ⟨t,List.mem_cons_self,rfl,rfl,rfl⟩
    | false =>
      rw [q] at h;obtain ⟨u,h1,h2⟩:=ih h;exact ⟨u,List.mem_cons_of_mem _ h1,h2⟩
theorem zu3 {T:List Fd} (nd:(T.map (·.nm)).Nodup) {t:Fd} (h:t∈T):T.find? (·.nm == t.nm)=some t:=by
  induction T with
  | nil=>cases h
  | cons u T ih =>
    rw [List.map_cons,List.nodup_cons] at nd;rw [List.find?_cons];rcases List.mem_cons.mp h with rfl | h
    · simp
    · have:(u.nm == t.nm)=false:=by
        cases q:u.nm == t.nm with
        | false=>rfl
        | true=>exact absurd (List.mem_map.mpr ⟨t,h,(eq_of_beq q).symm⟩) nd.1
      rw [this];exact ih nd.2 h
theorem zmt {P:Program}{w:World}{K:PySem.W.Frag}{mg:Str->Option Value}{base:Heap}{T:List Fd}{bn:List Str} (nd:(T.map (·.nm)).Nodup) (ok:∀t∈T,FdOk K mg t) (hb:∀x∈bn,mg x=none) (kb:K.In base) (nb:base.Ns mainGlobals mg) :
    ∀(d:Nat) (t:Fd),t∈T->∀f fd,Fun K t.nm t.nm t.st f fd->mg t.nm=some (.ref f)->FnOk P w K mg base CX0 d f fd t.ps (spF K t.m (sem T bn d t.nm))
  | 0,t,_,f,fd,_,_=>⟨fun vs H Q E h=>(by obtain ⟨_,_,_,_,_,_,_,_,h,_⟩:=h;cases h),fun A outer s H args us vs Q E hr he hbi hv h=>(by obtain ⟨_,_,_,_,_,_,_,_,h,_⟩:=h;cases h)⟩
  | d+1,t,ht,f,fd,F,M=>by
    have o:=ok t ht;refine F.okC (k:=d) o.sc (fun vs H Q E h=>(zm4 h).trans o.m) (fun A outer s H vs Q E hr h=>?_);have es:sem T bn (d+1) t.nm=fnAt T bn (sem T bn d) d t:=by
      show (match T.find? (·.nm == t.nm) with | some t=>fnAt T bn (sem T bn d) d t | none=>fun _=>none)=_;rw [zu3 nd ht]
    rw [es] at h;unfold fnAt at h;cases e:za5 T bn (sem T bn d) d t with
    | none =>
      rw [e] at h;refine aG fun _ qG=>?_;obtain ⟨_,_,_,_,_,_,_,_,h,_⟩:=h;refine qG ?_;clear qG;exact noSome h
    | some g =>
      rw [e] at h;have C:CxOk (cxOf CX0 P w K mg base t.N t.nm (zai t.st) f fd.code A outer s H E).nox (sxOf T bn (sem T bn d) d t) d:={
        N:=rfl
        nd:=o.sc.nd
        loc:=fun x e=>e
        cel:=fun x e=>⟨e,rfl⟩
        vis:=fun x e=>e
        gl:=fun x e=>e
        calm:=rfl
        xe:=rfl
        bn:=hb
        fs:=fun x m Φ e=>by
          refine aG fun _ qG=>?_;obtain ⟨u,hu,e1,e2,e3⟩:=zlc e;refine qG ?_;clear qG;subst e1 e2 e3;refine aG fun _ qG=>?_;obtain ⟨fa,fb,F',B',M'⟩:=(ok u hu).ex;refine qG ?_;clear qG;exact ⟨u.ps,(ok u hu).m.symm,⟨fa,fb,zmt nd ok hb kb nb d u hu fa fb F' M',B',F'.kp,M'⟩⟩
        room:=hr.1
        sl:=by have:=hr.2.un;show A.units+3+16 * d+205 < cLine;omega
        dpo:=Nat.le_refl _
        lam:=fun h=>by
          have q:=o.lam h;unfold zq5 at q;split at q
          · rename_i c Pt e
            refine ⟨c,Pt,e,q,?_,rfl⟩;refine aG fun _ qG=>?_;obtain ⟨oc,od,kV,doc,pm,an,cdv,ct,osl,e1,lk,hcd⟩:=F.ex;refine qG ?_;clear qG;exact PySem.W.law_code kb nb e M (kb _ _ lk) rfl
          · cases q
        bk:=by
          show (if (zai t.st).kind.isAnnotationScope then ScopeKind.function else (zai t.st).kind)=.function;rw [o.sc.kind];rfl }
      exact ⟨_,zhf (ze6 deep) C e,ztx h⟩
theorem zlo {K:PySem.W.Frag}{F H:Hp}{a:Addr}{ns:List Int}{Φ:Fn}{ws' : List W} (hs:Same F H) (tb:zky K F (fun _ _=>False) H) (h:SqL K F a (ns.map V.int)) (e:Φ [.frl (ns.map W.int)]=some (ws',(.bl true,false))) (hl:ws'.length=1) {E:XK}:spF K [false] Φ [.ref a] H (fun v _=>v=.bl true) E:=by
 refine ⟨F,fun _ _=>False,_,ws',_,rfl,hl,⟨rfl,hs,fun i w q=>?_,fun i w q=>?_,fun i j a w w' q=>?_,fun b o q=>q.elim,tb⟩,e,fun F' H' v _ _ z=>?_⟩
 ·cases i with
  | zero=>cases q;exact ⟨_,rfl,.frl h (Reps.ofInts ns)⟩
  | succ i=>cases i<;>exact noSome q
 ·cases i with
  | zero=>cases q
  | succ i=>cases i<;>exact noSome q
 ·cases i with
  | zero=>cases q
  | succ i=>cases i<;>exact noSome q
 ·exact z.isBl
end L2
namespace L2
open PySem PySem.Spec PyProof.Rows
noncomputable def tabsOf (K:PySem.W.Frag):List Addr:=lams.filterMap fun x=>(PySem.W.tabIn K x).map (·.2)
theorem zf0 {K:PySem.W.Frag}{b:Addr}:b∈tabsOf K↔∃x∈lams,∃c,PySem.W.tabIn K x=some (c,b):=by
 unfold tabsOf;rw [List.mem_filterMap];constructor
 ·rintro ⟨x, hx, e⟩;cases q:PySem.W.tabIn K x with
  | none=>rw [q] at e;exact noSome e
  | some p=>rw [q] at e;obtain rfl:=sI e;exact ⟨x,hx,p.1,q⟩
 ·rintro ⟨x, hx, c, e⟩;exact ⟨x,hx,by rw [e];rfl⟩
noncomputable def zwe (K:PySem.W.Frag) (h:Heap):Prop:=∀x∈lams,∀c P,PySem.W.tabIn K x=some (c,P)->PySem.W.CodeHd h c P/\h.get? P=some (PySem.W.tabObj #[])
structure Start (K:PySem.W.Frag) (F H:Hp):Prop where
 sub:Same F H
 tb:zky K F (fun _ _=>False) H
theorem zl3 {P:Program}{w:World}{K:PySem.W.Frag}{mg mb:Str->Option Value}{CX:CXT}{k:Nat}{fa a:Addr}{fd:FuncData}{x:Str}{sp:Sp}{s₁:Shared}{vs:List Value}{ns:List Int}
    (KX:K.In s₁.heap) (nt:PySem.W.noTabs K=true) (nd:zuu K) (hT:zwe K s₁.heap) (hns:s₁.heap.Ns mainGlobals mg) (hb:s₁.heap.Ns builtinsNs mb) (hbb:∀x:Str,x≠"__name__" -> mb x=bootBuiltins x) (hlim:s₁.heap.NoLimit) (hbm:∃(b:Addr) (ob:Obj),mg "__builtins__" = some (.ref b)/\b≠builtinsNs/\s₁.heap.get? b=some ob/\ob.cls=.type "module"/\ob.dict=some builtinsNs/\ob.data=.plain) (hg:s₁.gens=#[])
    (ha:s₁.heap.get? a=some { cls:=.type "list",data:=.seq vs.toArray }) (hi:IntsAre vs ns) (hl:ns.length<=sizeLine) (hr:Room k callerA)
    (Fk:∀base:Heap,K.In base->base.Ns mainGlobals mg->FnOk P w K mg base CX k fa fd [x] sp) (hbind:∀(s:Shared) (u:Value),BindsTo s fd ⟨[u],[]⟩ [(x,u)])
    (hsp:∀F H:Hp,Start K F H->SqL K F a (ns.map V.int)->sp [.ref a] H (fun v _=>v=.bl true) fun _ _ _=>False)
    (hCX:∀H e s',CX [] H s₁ (fun _ _ _=>False) e s'->False) :
    codeAny (model P w) callerA (.call (.ref fa) ⟨[.ref a],[]⟩) (fun r s'=>r=.ok (.ret (.bool true))/\OldK s₁.heap s'.heap/\s'.os=s₁.os/\AllBare s'.gens) s₁:=by
  have rv:=zhu hi;have lenV:=hi.length;have tabAt:∀b∈tabsOf K,s₁.heap.get? b=some (PySem.W.tabObj #[]):=fun b h=>by
    refine aG fun _ qG=>?_;obtain ⟨x,hx,c,e⟩:=zf0.mp h;refine qG ?_;clear qG;exact (hT x hx c b e).2
  have na:a ∉ tabsOf K:=fun h=>by
    have:=tabAt a h;rw [ha] at this;cases this
  have core:∀F H:Hp,(∀b,H b=none\/(b∈tabsOf K/\H b=some (.tbl #[])/\F b=none)\/(b=a/\K.lookup a=none/\F b=H b/\∃o xs,H b=some (.frz o (.lst xs))))->(∀b,H b=none->F b=none)->(∀b∈tabsOf K,H b=some (.tbl #[]))->SqL K F a (ns.map V.int)->HOk P w H s₁.heap ->
      codeAny (model P w) callerA (.call (.ref fa) ⟨[.ref a],[]⟩) (fun r s'=>r=.ok (.ret (.bool true))/\OldK s₁.heap s'.heap/\s'.os=s₁.os/\AllBare s'.gens) s₁:=by
    intro F H hO hF hB hS hok;have base_of:∀{b:Addr}{o:Obj},s₁.heap.get? b=some o->H b=none->(hidT s₁.heap H).get? b=some o:=fun e n=>zqv e n;have noA:∀{b:Addr}{o:Obj}{es:Array DictEntry}{ep:Nat},s₁.heap.get? b=some o->o.data=.dict es ep->H b=none:=fun {b o es ep} e d=>by
      rcases hO b with z | ⟨z,_⟩ | ⟨z,_⟩
      · exact z
      · rw [tabAt b z] at e;obtain rfl:=sI e;cases d
      · subst z
        rw [ha] at e;obtain rfl:=sI e;have d' : Data.seq vs.toArray _=Data.dict es ep:=d;cases d'
    have nsK:∀{b:Addr}{m:Str->Option Value},s₁.heap.Ns b m->(hidT s₁.heap H).Ns b m:=fun {b m} ⟨o,es,ep,e,d,r⟩=>⟨o,es,ep,base_of e (noA e d),d,r⟩;have hKb:K.In (hidT s₁.heap H):=fun b o e=>base_of (KX b o e) (by
      rcases hO b with z | ⟨z,_⟩ | ⟨z,n,_⟩
      · exact z
      · have e2 := KX b o e
        rw [tabAt b z] at e2;obtain rfl:=sI e2;have:=List.all_eq_true.mp nt (b,_) (PySem.W.mem_of_lookupK e);exact absurd (show false=true from this) Bool.false_ne_true
      · subst z
        rw [n] at e;cases e)
    have hM:Mod K mg (hidT s₁.heap H):=⟨hKb,nsK hns,⟨mb,nsK hb,hbb⟩,let ⟨mc,h1,h2⟩:=hlim;⟨mc,nsK h1,h2⟩,by
      refine aG fun _ qG=>?_;obtain ⟨b,ob,b1,b2,b3,b4,b5,b6⟩:=hbm;refine qG ?_;clear qG;refine ⟨b,ob,b1,b2,base_of b3 ?_,b4,b5,b6⟩;rcases hO b with z | ⟨z,_⟩ | ⟨z,_⟩
      · exact z
      · rw [tabAt b z] at b3;obtain rfl:=sI b3;cases b4
      · subst z;rw [ha] at b3;obtain rfl:=sI b3;exact absurd b4 (by simp)⟩
    have e0:Env0 P w K mg (hidT s₁.heap H) callerA [] s₁ H:=⟨rfl,hM,fun b o e=>zur e,Nat.le_of_eq (zma _ _),trivial,fun b hb=>absurd (show b∈([]:List Addr) from hb) (by simp),hok,.of_eq hg⟩;have st:Start K F H:=⟨fun b o e=>by
      rcases hO b with z | ⟨_,_,z⟩ | ⟨_,_,z,_⟩
      · rw [hF b z] at e;cases e
      · rw [z] at e;cases e
      · rw [<-z];exact e,⟨nd,fun x hx c Pt e=>by
      have hm:Pt∈tabsOf K:=zf0.mpr ⟨x,hx,c,e⟩;refine ⟨#[],hB Pt hm,?_,fun _ z=>z,trivial,fun pos cv q=>by cases q⟩;rcases hO Pt with z | ⟨_,_,z⟩ | ⟨z,_⟩
      · exact hF Pt z
      · exact z
      · subst z;exact absurd hm na⟩⟩
    refine codeAny_mono ((Fk _ hKb (nsK hns)).run callerA [] s₁ H ⟨[.ref a],[]⟩ [.ref a] [.ref a] _ _ hr e0 (hbind s₁ (.ref a)) (.cons rfl .nil) (hsp F H st hS)) fun r s' h=>?_;cases r with
    | error e=>exact (hCX H e s' h).elim
    | ok fl =>
      cases fl with
      | next=>exact False.elim h
      | brk=>exact False.elim h
      | cont=>exact False.elim h
      | ret u =>
        refine aG fun _ qG=>?_;obtain ⟨v,H',os,bare,un,hok',r',q⟩:=h;refine qG ?_;clear qG;have q' : v=.bl true:=q;subst q';obtain rfl:u=Value.bool true:=r';refine ⟨rfl,⟨fun b o e=>?_,fun b o e=>un.there b o e (by simp)⟩,os,bare⟩;rcases hO b with z | ⟨z,z1,_⟩ | ⟨_,_,_,ob,xs,z⟩
        · exact .inl (un.keep b o e z (by intro y;exact absurd (show b∈([]:List Addr) from y) (by simp)) (by simp))
        · refine aG fun Gg qG => ?_
          obtain ⟨x,hx,c,ex⟩:=zf0.mp z;obtain ⟨t1,t2⟩:=hT x hx c b ex;refine qG ?_;clear qG;rw [e] at t2;obtain rfl:=sI t2;obtain ⟨more,e2⟩:=un.tbls b #[] z1;exact .inr (.inl ⟨(t1.tab e).isCodeTable,rfl,#[],more,rfl,hok' b _ e2⟩)
        · have z2 := un.frzs b ob _ z
          obtain ⟨e1,_⟩:=hok b _ z;obtain ⟨e2,_⟩:=hok' b _ z2;rw [e] at e1;obtain rfl:=sI e1;exact .inl e2
  have tOk:∀b,b∈tabsOf K->∀H,zbn P w H s₁.heap b (.tbl #[]):=fun b h H=>tabAt b h;cases hk:K.lookup a with
  | some o =>
    have e:=KX a o hk;rw [ha] at e;obtain rfl:=sI e;refine core (fun _=>none) (fun b=>if b∈tabsOf K then some (.tbl #[]) else none) (fun b=>?_) (fun _ _=>rfl) (fun b h=>if_pos h) (.inr ⟨_,vs.toArray,_,hk,rfl,rfl,rfl,by rw [List.size_toArray,lenV];exact hl,by simpa using rv⟩) (fun b u z=>?_)
    · by_cases h : b ∈ tabsOf K
      · exact .inr (.inl ⟨h,if_pos h,rfl⟩)
      · exact .inl (if_neg h)
    · by_cases h : b ∈ tabsOf K
      · have z' := (if_pos h).symm.trans z
        obtain rfl:=sI z';exact tOk b h _
      · have z' := (if_neg h).symm.trans z
        cases z'
  | none =>
    refine core (fun b=>if b=a then some (.frz { cls:=.type "list",data:=.seq vs.toArray } (.lst (ns.map V.int))) else none) (fun b=>if b=a then some (.frz { cls:=.type "list",data:=.seq vs.toArray } (.lst (ns.map V.int))) else if b∈tabsOf K then some (.tbl #[]) else none) (fun b=>?_) (fun b z=>?_) (fun b h=>?_) (.inl (.inr ⟨{ cls:=.type "list",data:=.seq vs.toArray },if_pos rfl⟩)) (fun b u z=>?_)
    · by_cases h0 : b = a
      · exact .inr (.inr ⟨h0,hk,by simp only [if_pos h0],_,_,if_pos h0⟩)
      · by_cases h : b ∈ tabsOf K
        · exact .inr (.inl ⟨h,by simp only [if_neg h0,if_pos h],if_neg h0⟩)
        · exact .inl (by simp only [if_neg h0,if_neg h])
    · by_cases h0 : b = a
      · simp only [if_pos h0] at z;cases z
      · exact if_neg h0
    · have h0 : b ≠ a := fun z => by subst z; exact na h
      simp only [if_neg h0,if_pos h]
    · by_cases h0 : b = a
      · have z' : some (HO.frz { cls := .type "list", data := .seq vs.toArray } (.lst (ns.map V.int))) = some u := by simpa only [if_pos h0] using z
        obtain rfl:=sI z';subst h0;exact ⟨ha,by rw [List.length_map];exact hl,vs,_,rv,ha⟩
      · by_cases h : b ∈ tabsOf K
        · have z' : some (HO.tbl #[]) = some u := by simpa only [if_neg h0, if_pos h] using z
          obtain rfl:=sI z';exact tOk b h _
        · have z' : (none : Option HO) = some u := by simpa only [if_neg h0, if_neg h] using z
          cases z'
noncomputable def znq (K:PySem.W.Frag):Bool:=lams.all fun x=>lams.all fun x'=>match PySem.W.tabIn K x,PySem.W.tabIn K x' with
 | some p,some p'=>x == x' || !(p.2 == p'.2)
 | _,_=>true
theorem zo6 {K:PySem.W.Frag} (h:znq K=true):zuu K:=fun x hx x' hx' c c' P e e'=>by
 have:=List.all_eq_true.mp (List.all_eq_true.mp h x hx) x' hx';rw [e,e'] at this;simpa using this
theorem walk_ofT {l:PySem.W.OpenLaw}{n k:Nat}{q:Program}{loose:List Str}{XP:(Str->Option Value)->Heap->Prop}{YP:World->Heap->Prop}{d:DefRec}{K:Params->PySem.W.Frag}{CX:World->CXT}{sp:World->Sp}{x:Str}
  (hn:l.most=some n) (hn2:n<=sizeLine) (hdf:d.params.defaults=[]) (hr:Room k callerA)
  (hY:∀(w:World) (h:Heap),YP w h->(K w.params).In h)
  (nt:∀w:World,PySem.W.noTabs (K w.params)=true) (nd:∀w:World,znq (K w.params)=true) (hrec:∀(w:World),∀x∈lams,∀c P,PySem.W.tabIn (K w.params) x=some (c,P)->∃d,(recsOf q).find? (fun e=>e.name == x)=some d)
  (F:∀(w:World) (mg:Str->Option Value) (fa:Addr) (h:Heap),(K w.params).In h->h.Ns mainGlobals mg->mg d.name=some (.ref fa) ->
   ∃fd:FuncData,(∀(s:Shared) (u:Value),BindsTo s fd ⟨[u],[]⟩ [(x,u)]) /\
    ∀base:Heap,(K w.params).In base->base.Ns mainGlobals mg->FnOk l.prog w (K w.params) mg base (CX w) k fa fd [x] (sp w))
  (hsp:∀(w:World) (F H:Hp) (a:Addr) (ns:List Int),ns.length<=n->Start (K w.params) F H->SqL (K w.params) F a (ns.map V.int)->sp w [.ref a] H (fun v _=>v=.bl true) fun _ _ _=>False)
  (hCX:∀(w:World) (H:Hp) (s:Shared) (e:Value) (s' : Shared),CX w [] H s (fun _ _ _=>False) e s'->False) :
  PySem.W.WalkO q loose XP YP l.row.toRowW d [] (fun f vs=>PySem.call f vs):=by
 refine Att.attach_call hn hdf fun w s₀ s₁ mg mb fa o pm cd doc a vs ns G Y ho hd hcd hmg hobj hints hlen hg=>?_;have KX:=hY w _ Y;obtain ⟨fd,hb,hF⟩:=F w mg fa _ KX G.T.g hmg;refine zl3 KX (nt w) (zo6 (nd w)) (fun x hx c Pt e=>?_) G.T.g G.T.b G.T.builtins G.T.nolimit G.T.bmain hg hobj hints (Nat.le_trans hlen hn2) hr hF hb (fun F H hO hS=>hsp w F H a ns hlen hO hS) fun H e s'=>hCX w H s₁ e s';obtain ⟨d,hd⟩:=hrec w x hx c Pt e;exact PySem.W.tab_of G.T KX hd e
end L2
namespace L2
open PySem PySem.Spec PyProof.Rows
theorem zng (i j:Int):oAdd (.int i) (.int j)=some (.int (i+j),false):=rfl
theorem zog {i j:Int} (h:cMul i j=true):oMult (.int i) (.int j)=some (.int (i * j),false):=by
 show (match (if cMul i j then some (W.int (i * j),false) else none) with | some p=>some p | none=>_)=_;rw [if_pos h]
theorem oMult_l {i j:Int} (h1:-(2 ^ 64) < i) (h2:i < 2 ^ 64):oMult (.int i) (.int j)=some (.int (i * j),false):=zog (by
 unfold cMul;rw [Bool.or_eq_true,Bool.and_eq_true];exact .inl ⟨decide_eq_true h1,decide_eq_true h2⟩)
theorem zim {i j:Int} (h1:-(2 ^ 64) < j) (h2:j < 2 ^ 64):oMult (.int i) (.int j)=some (.int (i * j),false):=zog (by
 unfold cMul;rw [Bool.or_eq_true,Bool.and_eq_true,Bool.and_eq_true];exact .inr ⟨decide_eq_true h1,decide_eq_true h2⟩)
theorem znb {i j:Int} (h1:Builtin.Int.intBits i<=2 ^ 20) (h2:Builtin.Int.intBits j<=2 ^ 20):oMult (.int i) (.int j)=some (.int (i * j),false):=by
 have h:zkw i j=true:=by
  unfold zkw;rw [Bool.and_eq_true];exact ⟨decide_eq_true h1,decide_eq_true h2⟩
 show (match (if cMul i j then some (W.int (i * j),false) else none) with | some p=>some p | none=>(match (if zkw i j then some (W.int (i * j),false) else none) with | some p=>some p | none=>_))=_;rw [if_pos h];split<;>simp_all
theorem zne {xs:List W}{k:Int} (h:-(2 ^ 63)<=k/\k < 2 ^ 63/\xs.length * k.toNat<=sizeLine):oMult (.lst xs) (.int k)=some (.lst (List.replicate k.toNat xs).flatten,true):=by
 show (if -(2 ^ 63)<=k/\k < 2 ^ 63/\xs.length * k.toNat<=sizeLine then some (W.lst (List.replicate k.toNat xs).flatten,true) else none)=_;rw [if_pos h]
theorem zsk {xs ys:List W} (h:xs.length+ys.length<=sizeLine):oAdd (.lst xs) (.lst ys)=some (.lst (xs++ys),true):=by
 show (match (if xs.length+ys.length<=sizeLine then some (W.lst (xs++ys),true) else none) with | some p=>some p | none=>_)=_;rw [if_pos h]
theorem zwi {i j:Int} (h0:0 < j) (h:j < 2 ^ 200):cDiv i j=true:=by
 unfold cDiv;rw [Bool.and_eq_true];refine ⟨decide_eq_true h0,decide_eq_true ?_⟩;have hn:j.natAbs≠0:=by omega
 have h1:j.natAbs < 2 ^ 200:=by
  have:((j.natAbs:Nat):Int) < ((2 ^ 200:Nat):Int):=by
   rw [Int.natCast_pow];have e:((j.natAbs:Nat):Int)=j:=by omega
   rw [e];exact h
  exact Int.ofNat_lt.mp this
 exact Nat.lt_of_lt_of_le ((Nat.log2_lt hn).mpr h1) (by decide)
theorem zmj {i j:Int} (h0:0 < j) (h:j < 18446744073709551617):cDiv i j=true:=zwi h0 (Int.lt_of_lt_of_le h (by decide))
theorem zwf {i j:Int} (h0:0<=j) (h1:j<=1000000) (h2:i.natAbs < 2 ^ 64):cPow i j=true:=by
 unfold cPow;rw [Bool.and_eq_true,Bool.and_eq_true];exact ⟨⟨decide_eq_true h0,decide_eq_true h1⟩,decide_eq_true h2⟩
theorem zj4 {mp:List Nat}{T:Tg}{body:GS} (P:Nat->En->Prop):∀(ws:List W) (k:Nat) (en:En),P k en->(∀i w e,ws[i]?=some w->P (k+i) e->∃e1 e2,tgSet mp T w e=some e1/\(body e1=some (e2,.nx)\/body e1=some (e2,.cnt))/\P (k+i+1) e2) ->
    ∃en',zgl mp T body ws en=some (en',.nx)/\P (k+ws.length) en'
  | [],k,en,h0,_=>⟨en,rfl,h0⟩
  | w::ws,k,en,h0,hs=>by
    refine aG fun _ qG=>?_;obtain ⟨e1,e2,h1,h2,h3⟩:=hs 0 w en rfl h0;refine qG ?_;clear qG;obtain ⟨en',h4,h5⟩:=zj4 P ws (k+1) e2 h3 fun i u e hu hp=>by
      have:=hs (i+1) u e (by simpa using hu) (by rw [show k+(i+1)=k+1+i by omega];exact hp);rw [show k+(i+1)+1=k+1+i+1 by omega] at this;exact this
    refine ⟨en',?_,by rw [show k+(w::ws).length=k+1+ws.length by rw [List.length_cons];omega];exact h5⟩;show (tgSet mp T w en).bind _=_;rw [h1];show (match body e1 with | some (e2,.nx)=>zgl mp T body ws e2 | some (e2,.cnt)=>zgl mp T body ws e2 | some (e2,.brk)=>some (e2,.nx) | some (e2,.ret r)=>some (e2,.ret r) | none=>none)=_;rcases h2 with h2 | h2<;>(rw [h2];exact h4)
theorem zcp {mp:List Nat}{T:Tg}{it:GL}{body:GS} (P:Nat->En->Prop) {en e0:En}{ws:List W} (hi:it en=some (e0,ws)) (h0:P 0 e0) (hs:∀i w e,ws[i]?=some w->P i e->∃e1 e2,tgSet mp T w e=some e1/\(body e1=some (e2,.nx)\/body e1=some (e2,.cnt))/\P (i+1) e2) :
  ∃en',gFor mp T it body en=some (en',.nx)/\P ws.length en':=by
 obtain ⟨en',h1,h2⟩:=zj4 P ws 0 e0 h0 fun i w e hw hp=>by
  rw [Nat.zero_add] at hp ⊢;exact hs i w e hw hp
 refine ⟨en',?_,by rw [Nat.zero_add] at h2;exact h2⟩;unfold gFor;rw [hi];exact h1
theorem zg8 {mp:List Nat}{T:Tg}{tc:GT}{te:GE} (P:Nat->En->List W->Prop):∀(ws:List W) (k:Nat) (ce:En) (dn:List W),P k ce dn ->
    (∀i w c dn,ws[i]?=some w->P (k+i) c dn->∃c1,tgSet mp T w c=some c1/\((∃c2 c3 r,tc c1=some (c2,true)/\te c2=some (c3,r)/\P (k+i+1) c3 (dn++[r.1]))\/∃c2,tc c1=some (c2,false)/\P (k+i+1) c2 dn)) ->
    ∃ce' rest,zej mp T tc te ws ce=some (ce',rest)/\P (k+ws.length) ce' (dn++rest)
  | [],k,ce,dn,h0,_=>⟨ce,[],rfl,by rw [List.append_nil];exact h0⟩
  | w::ws,k,ce,dn,h0,hs=>by
    obtain ⟨c1,h1,h2⟩:=hs 0 w ce dn rfl h0;have next:∀c3 dn',P (k+1) c3 dn'->∃ce' rest,zej mp T tc te ws c3=some (ce',rest)/\P (k+1+ws.length) ce' (dn'++rest):=fun c3 dn' h=>zg8 P ws (k+1) c3 dn' h fun i u c d hu hp=>by
      have:=hs (i+1) u c d (by simpa using hu) (by rw [show k+(i+1)=k+1+i by omega];exact hp);rw [show k+(i+1)+1=k+1+i+1 by omega] at this;exact this
    have el:k+(w::ws).length=k+1+ws.length:=by rw [List.length_cons];omega
    rcases h2 with ⟨c2,c3,r,h3,h4,h5⟩ | ⟨c2,h3,h5⟩
    · obtain ⟨ce', rest, h6, h7⟩ := next c3 _ h5
      refine ⟨ce',r.1::rest,?_,by rw [el];rw [List.append_assoc] at h7;exact h7⟩;show (tgSet mp T w ce).bind _=_;rw [h1];show (match tc c1 with | some (c2,true)=>(te c2).bind fun p=>(zej mp T tc te ws p.1).bind fun q=>some (q.1,p.2.1::q.2) | some (c2,false)=>zej mp T tc te ws c2 | none=>none)=_;rw [h3];show (te c2).bind _=_;rw [h4];show (zej mp T tc te ws c3).bind _=_;rw [h6]
      rfl
    · obtain ⟨ce', rest, h6, h7⟩ := next c2 _ h5
      refine ⟨ce',rest,?_,by rw [el];exact h7⟩;show (tgSet mp T w ce).bind _=_;rw [h1];show (match tc c1 with | some (c2,true)=>(te c2).bind fun p=>(zej mp T tc te ws p.1).bind fun q=>some (q.1,p.2.1::q.2) | some (c2,false)=>zej mp T tc te ws c2 | none=>none)=_;rw [h3];exact h6
theorem zkj {cap:Cap}{T:Tg}{it:GL}{tc:GT}{te:GE} (P:Nat->En->List W->Prop) {en e0:En}{ws:List W} (hi:it en=some (e0,ws)) (hn:zbl cap=true) (hz:ws.length<=sizeLine) (h0:P 0 (zdp cap e0) [])
  (hs:∀i w c dn,ws[i]?=some w->P i c dn->∃c1,tgSet (capKeep cap) T w c=some c1/\((∃c2 c3 r,tc c1=some (c2,true)/\te c2=some (c3,r)/\P (i+1) c3 (dn++[r.1]))\/∃c2,tc c1=some (c2,false)/\P (i+1) c2 dn)) :
  ∃ce' out,ze2 cap T it tc te en=some (zaw cap e0 ce',(.lst out,true))/\P ws.length ce' out:=by
 obtain ⟨ce',rest,h1,h2⟩:=zg8 P ws 0 (zdp cap e0) [] h0 fun i w c dn hw hp=>by
  rw [Nat.zero_add] at hp ⊢;exact hs i w c dn hw hp
 refine ⟨ce',rest,?_,by rw [Nat.zero_add] at h2;exact h2⟩;unfold ze2;rw [hi];show (if zbl cap && decide (ws.length<=sizeLine) then _ else none)=_;rw [if_pos (by rw [hn,decide_eq_true hz];rfl),h1]
 rfl
theorem rngW_get {lo:Int}{n i:Nat}{w:W} (h:(rngW lo n)[i]?=some w):i < n/\w=.int (lo+i):=by
  unfold rngW at h;rw [List.getElem?_map] at h;cases q:(List.range n)[i]? with
  | none=>rw [q] at h;exact noSome h
  | some k =>
    rw [q] at h;obtain ⟨hl,e⟩:=List.getElem?_eq_some_iff.mp q;rw [List.length_range] at hl;rw [List.getElem_range] at e;subst e;exact ⟨hl,(sI h).symm⟩
theorem zci (lo:Int) (n:Nat):(rngW lo n).length=n:=by unfold rngW;rw [List.length_map,List.length_range]
theorem zcg {xs:List W}{i:Nat}{x:W} (h:xs[i]?=some x):atI xs (i:Int)=some x:=zsq h
theorem zl1 {en:En}:zbr [] [] en=some []:=rfl
theorem zn0 {m:List Bool}{ws:List W}{en:En}{x w:W}:zbr (true::m) (x::ws) (some (w,true)::en)=(zbr m ws en).bind fun r=>some (w::r):=rfl
theorem zoa {m:List Bool}{ws:List W}{en:En}{w:W}{o:Option (W × Bool)}:zbr (false::m) (w::ws) (o::en)=(zbr m ws en).bind fun r=>some (w::r):=rfl
noncomputable def HS (k:Nat) (w:W):Prop:=∃a b c:Int,w=.lst [.int a,.int b,.int c]/\0<=a/\0<=b/\b < MM/\0<=c/\c<=k
theorem HS.mono {k k' : Nat}{w:W} (h:HS k w) (hk:k<=k'):HS k' w:=by
 obtain ⟨a,b,c,e,h1,h2,h3,h4,h5⟩:=h;exact ⟨a,b,c,e,h1,h2,h3,h4,by omega⟩
noncomputable def zhl (Φ:Fn):Prop:=∀(k:Nat) (st:W) (n:Int),HS k st->k < big->0 < n->n < 1073741824->∃st' r,Φ [st,.int n]=some ([st',.int n],(.int r,false))/\HS (k+1) st'/\0<=r/\r < n
noncomputable def zn3 (Ψ:Str->Fn):GS:=(gSeq (gIfS (zam (gOp2 (oI yes2 fun i j=>.bl (decide (j < i))) (gArg (gOp2 oIx (zaa 0) (gArg (gC (.int 0))))) (gArg (gC (.int 0))))) (gSeq (gSet [0] 2 (gOp2 (oI (fun _ j=>decide (0 < j)) fun i j=>.int (i % j)) (gArg (gOp2 oIx (zaa 0) (gArg (gC (.int 0))))) (zaa 1))) (gSeq (zax 0 (gC (.int 0)) (gOp2 (oI cDiv fun i j=>.int (i / j)) (gArg (gOp2 oIx (zaa 0) (gArg (gC (.int 0))))) (zaa 1))) (zcq [0] 2))) zco) (gSeq (zax 0 (gC (.int 2)) (gOp2 oAdd (gArg (gOp2 oIx (zaa 0) (gArg (gC (.int 2))))) (gArg (gC (.int 1))))) (gSeq (gSet [0] 3 (gOp2 (oI (fun _ j=>decide (0 < j)) fun i j=>.int (i % j)) (gArg (gOp2 oMult (gArg (gOp2 oAdd (gArg (gOp2 oAdd (gArg (gOp2 oIx (zaa 0) (gArg (gC (.int 1))))) (gArg (gOp2 oMult (gArg (gOp2 oMult (gArg (gC (.int 65537))) (gArg (gOp2 oIx (zaa 0) (gArg (gC (.int 2))))))) (gArg (gOp2 oIx (zaa 0) (gArg (gC (.int 2))))))))) (gArg (gC (.int 11))))) (gArg (gC (.int 48271))))) (gArg (gC (.int 2305843009213693921))))) (gSeq (gSet [0] 3 (gOp2 (oI (fun _ j=>decide (0 < j)) fun i j=>.int (i % j)) (gArg (gOp2 oMult (zaa 3) (gArg (gOp2 oAdd (gArg (gOp2 (oI (fun _ j=>decide (0 < j)) fun i j=>.int (i % j)) (zaa 3) (gArg (gC (.int 1000003))))) (gArg (gOp2 oMult (gArg (gC (.int 99991))) (gArg (gOp2 oIx (zaa 0) (gArg (gC (.int 2))))))))))) (gArg (gC (.int 2305843009213693907))))) (gRet (gOp2 (oI (fun _ j=>decide (0 < j)) fun i j=>.int (i % j)) (gArg (gOp2 oAdd (gArg (gOp2 (oI cDiv fun i j=>.int (i / j)) (zaa 3) (gArg (gC (.int 97))))) (gArg (gOp2 (oI cDiv fun i j=>.int (i / j)) (zaa 3) (gArg (gC (.int 1000033))))))) (zaa 1)))))))
theorem zsf (Ψ:Str->Fn):zhl (zal [true,false] 4 (zn3 Ψ)):=by
 rintro k st n ⟨a,b,c,rfl,h0,h1,h2,h3,h4⟩ hk n0 n1;have hb:(k:Int) < 1099511627776:=by have:k < 1099511627776:=hk;omega
 by_cases c1:0 < a
 ·refine ⟨.lst [.int (a / n), .int b, .int c], a % n, ?_, ⟨_, _, _, rfl, Int.ediv_nonneg h0 (by omega), h1, h2, h3, by omega⟩, Int.emod_nonneg _ (by omega), Int.emod_lt_of_pos _ n0⟩;have hd:cDiv a n=true:=zmj n0 (by omega);simp [zal,zn3,zav,gSeq,gIfS,zam,gOp2,gArg,zaa,gC,resA,oI,yes2,oIx,seqW,atI,ixN,gSet,zax,zcq,zl1,zn0,zoa,c1,n0,hd]
 ·have e1 : oMult (.int 65537) (.int (c + 1)) = some (.int (65537 * (c + 1)), false) := oMult_l (by decide) (by decide);have e2:oMult (.int (65537 * (c+1))) (.int (c+1))=some (.int (65537 * (c+1) * (c+1)),false):=zim (by omega) (by omega);have e3:oMult (.int (b+65537 * (c+1) * (c+1)+11)) (.int 48271)=some (.int ((b+65537 * (c+1) * (c+1)+11) * 48271),false):=zim (by decide) (by decide);generalize hx:(b+65537 * (c+1) * (c+1)+11) * 48271=x0 at e3;have e4:oMult (.int 99991) (.int (c+1))=some (.int (99991 * (c+1)),false):=oMult_l (by decide) (by decide);have x1:0<=x0 % 2305843009213693921:=Int.emod_nonneg _ (by decide);have x2:x0 % 2305843009213693921 < 2305843009213693921:=Int.emod_lt_of_pos _ (by decide);have e5:oMult (.int (x0 % 2305843009213693921)) (.int (x0 % 2305843009213693921 % 1000003+99991 * (c+1)))=some (.int (x0 % 2305843009213693921 * (x0 % 2305843009213693921 % 1000003+99991 * (c+1))),false):=oMult_l (by omega) (by omega);have d1:∀i,cDiv i 97=true:=fun i=>zmj (by decide) (by decide);have d2:∀i,cDiv i 1000033=true:=fun i=>zmj (by decide) (by decide);refine ⟨.lst [.int a,.int b,.int (c+1)],(x0 % 2305843009213693921 * (x0 % 2305843009213693921 % 1000003+99991 * (c+1)) % 2305843009213693907 / 97+x0 % 2305843009213693921 * (x0 % 2305843009213693921 % 1000003+99991 * (c+1)) % 2305843009213693907 / 1000033) % n,?_,⟨_,_,_,rfl,h0,h1,h2,by omega,by omega⟩,Int.emod_nonneg _ (by omega),Int.emod_lt_of_pos _ n0⟩
  ·simp [zal,zn3,zav,gSeq,gIfS,zam,gOp2,gArg,zaa,gC,resA,oI,yes2,oIx,seqW,atI,ixN,gSet,zax,gRet,zco,zl1,zn0,zoa,c1,n0,zng,e1,e2,e3,e4,e5,d1,d2]
end L2
namespace L2
open PySem PySem.Spec PyProof.Rows
theorem seq_nx {a b:GS}{en e1:En} (h:a en=some (e1,.nx)):gSeq a b en=b e1:=by unfold gSeq;rw [h]
theorem zxl {a b:GS}{en e1:En}{r:W × Bool} (h:a en=some (e1,.ret r)):gSeq a b en=some (e1,.ret r):=by unfold gSeq;rw [h]
theorem zj5 {mp:List Nat}{i:Nat}{g:GE}{en e1:En}{r:W × Bool} (h:g en=some (e1,r)) (hi:(mp.contains i || !decide (i < e1.length))=false):gSet mp i g en=some (e1.set i (some r),.nx):=by
 unfold gSet;rw [h];show (if (mp.contains i || !decide (i < e1.length))=true then _ else _)=_;rw [hi]
 rfl
theorem zxu {c:GT}{a b:GS}{en e1:En} (h:c en=some (e1,true)):gIfS c a b en=a e1:=by unfold gIfS;rw [h]
theorem zyp {c:GT}{a b:GS}{en e1:En} (h:c en=some (e1,false)):gIfS c a b en=b e1:=by unfold gIfS;rw [h]
theorem ztf {g:GE}{en e1:En}{b f:Bool} (h:g en=some (e1,(.bl b,f))):zam g en=some (e1,b):=by unfold zam;rw [h]
theorem zjp {g:GE}{en e1:En}{r:W × Bool} (h:g en=some (e1,r)):gRet g en=some (e1,.ret r):=by unfold gRet;rw [h];rfl
theorem ztb {g:GE}{en e1:En}{r:W × Bool} (h:g en=some (e1,r)):zd3 g en=some (e1,.nx):=by unfold zd3;rw [h];rfl
theorem zbk {g:GE}{en e1:En}{r:W × Bool} (h:g en=some (e1,r)):gArg g en=some (e1,.inl r.1):=by unfold gArg;rw [h];rfl
theorem zvh {a:GA}{as:GAs}{en e1 e2:En}{x:W ⊕ Nat}{xs:List (W ⊕ Nat)} (h:a en=some (e1,x)) (h2:as e1=some (e2,xs)):gCns a as en=some (e2,x::xs):=by
 unfold gCns;rw [h];show (as e1).bind _=_;rw [h2]
 rfl
theorem za9 {o:O2}{a b:GA}{en e1 e2:En}{x y:W ⊕ Nat}{w u:W}{r:W × Bool} (h1:a en=some (e1,x)) (h2:b e1=some (e2,y)) (h3:resA e2 x=some w) (h4:resA e2 y=some u) (h5:o w u=some r):gOp2 o a b en=some (e2,r):=by
 unfold gOp2;rw [h1];show (b e1).bind _=_;rw [h2];show (resA e2 x).bind _=_;rw [h3];show (resA e2 y).bind _=_;rw [h4];show (o w u).bind _=_;rw [h5]
 rfl
theorem zvo {o:ON}{as:GAs}{en e1:En}{xs:List (W ⊕ Nat)}{ws:List W}{r:W × Bool} (h1:as en=some (e1,xs)) (h2:zar e1 xs=some ws) (h3:o ws=some r):gOpN o as en=some (e1,r):=by
 unfold gOpN;rw [h1];show (zar e1 xs).bind _=_;rw [h2];show (o ws).bind _=_;rw [h3]
 rfl
theorem zc2 {m:List Bool}{n:Nat}{g:GS}{ws ws' : List W}{en:En}{r:W × Bool} (hl:ws.length=m.length) (h:g (zav m ws++List.replicate (n - m.length) none)=some (en,.ret r)) (ho:zbr m ws en=some ws'):zal m n g ws=some (ws',r):=by
 unfold zal;rw [if_pos hl,h];show (zbr m ws en).bind _=_;rw [ho]
 rfl
theorem zbq:∀(ws:List W) (i:Nat),zaj (zau (ws.map Sum.inl)) i=none
  | [],i=>rfl
  | w::ws,i=>by
    have:=zbq ws i;unfold zaj zau at this ⊢;rw [List.map_cons,List.map_cons,List.findIdx?_cons,this]
    rfl
theorem zep (ws:List W):zbl (zau (ws.map Sum.inl))=true:=by
  unfold zbl;refine List.all_eq_true.mpr fun j _=>?_;have:∀i,(zau (ws.map Sum.inl))[j]?≠some (some i):=fun i=>zbs (zbq ws i) j;cases q:(zau (ws.map Sum.inl))[j]? with
  | none=>rfl
  | some o =>
    cases o with
    | none=>rfl
    | some i=>exact absurd q (this i)
theorem zn5 {cap:Cap}{en ce:En} (h:∀i,zaj cap i=none):zaw cap en ce=en:=by
 unfold zaw;apply List.ext_getElem?;intro i;rw [List.getElem?_mapIdx];cases en[i]? with
 | none=>rfl
 | some x=>simp only [Option.map_some,h i]
theorem zba (en:En):∀ws:List W,zar en (ws.map Sum.inl)=some ws
 | []=>rfl
 | w::ws=>by show (some w).bind _=_;show (zar en (ws.map Sum.inl)).bind _=_;rw [zba en ws];rfl
theorem zc0 (en:En) (ws:List W):zak en (ws.map Sum.inl)=true:=by
 unfold zak;refine List.all_eq_true.mpr fun x hx=>?_;obtain ⟨w,_,rfl⟩:=List.mem_map.mp hx
 rfl
theorem zm2 {m:List Bool}{Φ:Fn}{as:GAs}{en e1:En}{ws ws' : List W}{r:W × Bool} (h:as en=some (e1,ws.map Sum.inl)) (hm:(ws.map fun _=>false)=m) (hΦ:Φ ws=some (ws',r)) (hl:ws'.length=ws.length):zae m Φ as en=some (e1,r):=by
 unfold zae;rw [h];show (if (decide ((ws.map Sum.inl).map isR=m) && zak e1 (ws.map Sum.inl) && zbl (zau (ws.map Sum.inl)))=true then _ else _)=_;have e:(ws.map Sum.inl).map isR=m:=by rw [<-hm,List.map_map];rfl
 rw [decide_eq_true e,zc0,zep];show (zar e1 (ws.map Sum.inl)).bind _=_;rw [zba];show (Φ ws).bind _=_;rw [hΦ];show (if ws'.length=m.length then _ else _)=_;rw [if_pos (by rw [hl,<-hm,List.length_map]),zn5 (zbq ws)]
theorem zki {m:List Bool}{Φ:Fn}{as:GAs}{en e1:En}{i:Nat}{ws wz:List W}{st st' : W}{r:W × Bool} (h:as en=some (e1,.inr i::ws.map Sum.inl)) (hm:(true::ws.map fun _=>false)=m) (hi:e1[i]?=some (some (st,true))) (hΦ:Φ (st::ws)=some (st' :: wz,r)) (hl:wz.length=ws.length):zae m Φ as en=some (e1.set i (some (st',true)),r):=by
  have cp:∀j,zaj (zau (.inr i::ws.map Sum.inl)) j=if j=i then some 0 else none:=fun j=>by
    have:=zbq ws j;unfold zaj zau at this ⊢;rw [List.map_cons,List.findIdx?_cons];by_cases e:j=i
    · subst e;simp
    · have : (some i == some j) = false := by simp; exact fun z => e z.symm
      simp only [this];rw [if_neg e]
      simp_all
  have nd:zbl (zau (.inr i::ws.map Sum.inl))=true:=by
    unfold zbl;refine List.all_eq_true.mpr fun j _=>?_;cases j with
    | zero =>
      show (match (zau (.inr i::ws.map Sum.inl))[0]? with | some (some k)=>zaj (zau (.inr i::ws.map Sum.inl)) k == some 0 | _=>true)=true;show (zaj (zau (.inr i::ws.map Sum.inl)) i == some 0)=true;rw [cp i,if_pos rfl]
      rfl
    | succ j =>
      have:∀k,(zau (ws.map Sum.inl))[j]?≠some (some k):=fun k=>zbs (zbq ws k) j;have e:(zau (.inr i::ws.map Sum.inl))[j+1]?=(zau (ws.map Sum.inl))[j]?:=rfl;rw [e];cases q:(zau (ws.map Sum.inl))[j]? with
      | none=>rfl
      | some o =>
        cases o with
        | none=>rfl
        | some k=>exact absurd q (this k)
  unfold zae;rw [h];show (if (decide ((.inr i::ws.map Sum.inl).map isR=m) && zak e1 (.inr i::ws.map Sum.inl) && zbl (zau (.inr i::ws.map Sum.inl)))=true then _ else _)=_;have e:(Sum.inr i::ws.map Sum.inl).map isR=m:=by rw [<-hm,List.map_cons,List.map_map];rfl
  have ow:zak e1 (.inr i::ws.map Sum.inl)=true:=by
    have:=zc0 e1 ws;unfold zak at this ⊢;rw [List.all_cons,this];simp only [hi,Bool.and_true]
  rw [decide_eq_true e,ow,nd];have rs:zar e1 (.inr i::ws.map Sum.inl)=some (st::ws):=by
    show (resA e1 (.inr i)).bind _=_;have:resA e1 (.inr i)=some st:=by unfold resA;simp only [hi]
    rw [this];show (zar e1 (ws.map Sum.inl)).bind _=_;rw [zba]
    rfl
  show (zar e1 (.inr i::ws.map Sum.inl)).bind _=_;rw [rs];show (Φ (st::ws)).bind _=_;rw [hΦ];show (if (st' :: wz).length=m.length then _ else _)=_;rw [if_pos (by rw [<-hm,List.length_cons,List.length_cons,List.length_map,hl])];refine congrArg some (congrArg (·,r) ?_);unfold zaw;apply List.ext_getElem?;intro j;rw [List.getElem?_mapIdx];have hi' : i < e1.length:=(List.getElem?_eq_some_iff.mp hi).1;by_cases ej:j=i
  · subst ej
    rw [List.getElem?_set_self hi',hi];simp only [Option.map_some,cp j,if_pos];rw [<-hm]
    rfl
  · rw [List.getElem?_set_ne (Ne.symm ej)]
    cases e1[j]? with
    | none=>rfl
    | some x=>simp only [Option.map_some,cp j,if_neg ej]
theorem zd6 {m:List Bool}{Φ:Fn}{as:GAs}{en:En}{i:Nat}{ws wz:List W}{st st' : W}{r:W × Bool} (h:as en=some (en,.inr i::ws.map Sum.inl)) (hm:(true::ws.map fun _=>false)=m) (hi:en[i]?=some (some (st,true))) (hΦ:Φ (st::ws)=some (st' :: wz,r)) (hl:wz.length=ws.length):zae m Φ as en=some (en.set i (some (st',true)),r):=zki h hm hi hΦ hl
theorem zmr {a w:W}{ws:List W}{i:Int} (h:seqW a=some ws) (h2:atI ws i=some w):oIx a (.int i)=some (w,false):=by
 unfold oIx;cases a<;>simp_all
theorem oI_t {c:Int->Int->Bool}{g:Int->Int->W}{i j:Int} (h:c i j=true):oI c g (.int i) (.int j)=some (g i j,false):=by
 show (if c i j then some (g i j,false) else none)=_;rw [if_pos h]
theorem set_0 {mp:List Nat}{i:Nat}{g:GE}{en:En}{r:W × Bool} (h:g en=some (en,r)) (hi:(mp.contains i || !decide (i < en.length))=false):gSet mp i g en=some (en.set i (some r),.nx):=zj5 h hi
theorem arg_0 {g:GE}{en:En}{r:W × Bool} (h:g en=some (en,r)):gArg g en=some (en,.inl r.1):=zbk h
theorem op2_0 {o:O2}{a b:GA}{en:En}{x y:W ⊕ Nat}{w u:W}{r:W × Bool} (h1:a en=some (en,x)) (h2:b en=some (en,y)) (h3:resA en x=some w) (h4:resA en y=some u) (h5:o w u=some r):gOp2 o a b en=some (en,r):=za9 h1 h2 h3 h4 h5
theorem zzj {g:GE}{en:En}{r:W × Bool} (h:g en=some (en,r)):gRet g en=some (en,.ret r):=zjp h
theorem zlt {i:Nat}{k g:GE}{en:En}{w:W}{ws:List W}{n:Int}{j:Nat}{f f2:Bool} (h:g en=some (en,(w,f))) (hk:k en=some (en,(.int n,f2))) (hi:en[i]?=some (some (.lst ws,true))) (hj:ixN ws.length n=some j):zax i k g en=some (en.set i (some (.lst (ws.set j w),true)),.nx):=by
 unfold zax;simp only [h,Option.bind_some,hi,hk,hj]
theorem zx4 {i:Nat}{g:GE}{en e1:En}{us ws:List W}{r:W × Bool} (h0:en[i]?=some (some (.lst us,true))) (h:g en=some (e1,r)) (h1:e1[i]?=some (some (.lst ws,true))) (hz:ws.length < sizeLine):gApp i g en=some (e1.set i (some (.lst (ws++[r.1]),true)),(.non,false)):=by
 unfold gApp;simp only [h0,h,Option.bind_some,h1];rw [if_pos hz]
end L2
namespace L2
open PySem PySem.Spec PyProof.Rows
noncomputable def zw9 (Ψ:Str->Fn):GS:=(gSeq (gSet [0] 2 (zae [true,false] (Ψ "_law_take") (gCns (zaa 0) (gCns (gArg (gC (.int 4))) gA0)))) (gSeq (gIfS (zam (gOp2 oEq (zaa 2) (gArg (gC (.int 3))))) (gRet (gOp2 oMult (gArg (za8 (gCns (gArg (zae [true,false] (Ψ "_law_take") (gCns (zaa 0) (gCns (gArg (gC (.int 2))) gA0)))) gA0))) (zaa 1))) zco) (gSeq (gSet [0] 3 (za8 gA0)) (gSeq (gFor [0] (.nm 4) (zc9 (gCns (zaa 1) gA0)) (gSeq (gSet [0] 5 (zae [true,false] (Ψ "_law_take") (gCns (zaa 0) (gCns (gArg (gOp2 oIx (gArg (za8 (gCns (gArg (gC (.int 2))) (gCns (gArg (gC (.int 5))) (gCns (gArg (gC (.int 5))) gA0))))) (zaa 2))) gA0)))) (zd3 (gApp 3 (gOp2 oIx (gArg (za8 (gCns (gArg (gVar 5)) (gCns (gArg (gOpN oInt (gCns (gArg (gOp2 oEq (zaa 5) (gArg (gC (.int 0))))) gA0))) (gCns (gArg (gOpN oInt (gCns (gArg (gOp2 (oI yes2 fun i j=>.bl (decide (j < i))) (zaa 5) (gArg (gC (.int 0))))) gA0))) gA0))))) (zaa 2)))))) (zcq [0] 3)))))
noncomputable def zn2 (Φ:Fn):Prop:=∀(k:Nat) (st:W) (n:Int),HS k st->k+100 < big->0<=n->n<=64->∃st' xs,Φ [st,.int n]=some ([st',.int n],(.lst (xs.map W.int),true))/\HS (k+66) st'/\(xs.length:Int)=n/\Bits xs
theorem three {r:Int} (h0:0<=r) (h:r < 4) (h3:r≠3):r=0\/r=1\/r=2:=by omega
theorem zjt {α:Type} (x:α):∀n:Nat,(List.replicate n [x]).flatten=List.replicate n x
 | 0=>rfl
 | n+1=>by rw [List.replicate_succ,List.flatten_cons,zjt x n];rfl
theorem ztv {Ψ:Str->Fn} (hT:zhl (Ψ "_law_take")):zn2 (zal [true,false] 6 (zw9 Ψ)):=by
 intro k st n hs hk n0 n1;have hz:(64:Nat)<=sizeLine:=by decide
 refine aG fun _ qG=>?_;obtain ⟨st1,way,e1,h1,h2,h3⟩:=hT k st 4 hs (by omega) (by decide) (by decide);refine qG ?_;clear qG;have c1:zae [true,false] (Ψ "_law_take") (gCns (zaa 0) (gCns (gArg (gC (.int 4))) gA0)) [some (st,true),some (.int n,false),none,none,none,none]=some ([some (st1,true),some (.int n,false),none,none,none,none],(.int way,false)):=zd6 (i:=0) (ws:=[.int 4]) (wz:=[.int 4]) rfl rfl rfl e1 rfl;have s1:=zj5 (mp:=[0]) (i:=2) c1 rfl;by_cases c3:way=3
 ·subst c3;refine aG fun _ qG=>?_;obtain ⟨st2,b,e2,g1,g2,g3⟩:=hT (k+1) st1 2 h1 (by omega) (by decide) (by decide);refine qG ?_;clear qG;have c2:zae [true,false] (Ψ "_law_take") (gCns (zaa 0) (gCns (gArg (gC (.int 2))) gA0)) [some (st1,true),some (.int n,false),some (.int 3,false),none,none,none]=some ([some (st2,true),some (.int n,false),some (.int 3,false),none,none,none],(.int b,false)):=zd6 (i:=0) (ws:=[.int 2]) (wz:=[.int 2]) rfl rfl rfl e2 rfl;have l2:za8 (gCns (gArg (zae [true,false] (Ψ "_law_take") (gCns (zaa 0) (gCns (gArg (gC (.int 2))) gA0)))) gA0) [some (st1,true),some (.int n,false),some (.int 3,false),none,none,none]=some ([some (st2,true),some (.int n,false),some (.int 3,false),none,none,none],(.lst [.int b],true)):=by
   unfold za8;rw [zvh (zbk c2) (show gA0 _=_ from rfl)]
   rfl
  have om:oMult (.lst [.int b]) (.int n)=some (.lst (List.replicate n.toNat (.int b)),true):=by
   rw [zne (by refine ⟨by omega,by omega,?_⟩;show 1 * n.toNat<=sizeLine;omega),zjt]
  refine ⟨st2,List.replicate n.toNat b,?_,g1.mono (by omega),by rw [List.length_replicate];omega,fun x hx=>by rw [List.eq_of_mem_replicate hx];omega⟩;refine zc2 (en:=[some (st2,true),some (.int n,false),some (.int 3,false),none,none,none]) rfl ?_ rfl;refine (seq_nx s1).trans (zxl ?_);refine (zxu (e1:=[some (st1,true),some (.int n,false),some (.int 3,false),none,none,none]) rfl).trans (zjp (za9 (zbk l2) rfl rfl rfl ?_));rw [List.map_replicate];exact om
 ·have hw := three h2 h3 c3;have turn:∀(i:Nat) (st:W) (xs:List Int) (v5:Option (W × Bool)),HS (k+1+i) st->i < 64->xs.length=i->∃st' x one,HS (k+1+i+1) st'/\(x=0\/x=1) /\
    (gSeq (gSet [0] 5 (zae [true,false] (Ψ "_law_take") (gCns (zaa 0) (gCns (gArg (gOp2 oIx (gArg (za8 (gCns (gArg (gC (.int 2))) (gCns (gArg (gC (.int 5))) (gCns (gArg (gC (.int 5))) gA0))))) (zaa 2))) gA0)))) (zd3 (gApp 3 (gOp2 oIx (gArg (za8 (gCns (gArg (gVar 5)) (gCns (gArg (gOpN oInt (gCns (gArg (gOp2 oEq (zaa 5) (gArg (gC (.int 0))))) gA0))) (gCns (gArg (gOpN oInt (gCns (gArg (gOp2 (oI yes2 fun i j=>.bl (decide (j < i))) (zaa 5) (gArg (gC (.int 0))))) gA0))) gA0))))) (zaa 2))))) [some (st,true),some (.int n,false),some (.int way,false),some (.lst (xs.map W.int),true),some (.int (0+(i:Nat)),false),v5] =
     some ([some (st',true),some (.int n,false),some (.int way,false),some (.lst ((xs++[x]).map W.int),true),some (.int (0+(i:Nat)),false),some (.int one,false)],.nx):=by
   intro i st xs v5 hst hi hl;have zz:(xs.map W.int).length < sizeLine:=by rw [List.length_map,hl];omega
   have fin:∀(q:Int) (x:Int->Int),(∀one,0<=one->one < q->x one=0\/x one=1)->0 < q->q < 1073741824 ->
     (gCns (zaa 0) (gCns (gArg (gOp2 oIx (gArg (za8 (gCns (gArg (gC (.int 2))) (gCns (gArg (gC (.int 5))) (gCns (gArg (gC (.int 5))) gA0))))) (zaa 2))) gA0)) [some (st,true),some (.int n,false),some (.int way,false),some (.lst (xs.map W.int),true),some (.int (0+(i:Nat)),false),v5]=some ([some (st,true),some (.int n,false),some (.int way,false),some (.lst (xs.map W.int),true),some (.int (0+(i:Nat)),false),v5],[.inr 0,.inl (.int q)]) ->
     (∀(st' : W) (one:Int),(gOp2 oIx (gArg (za8 (gCns (gArg (gVar 5)) (gCns (gArg (gOpN oInt (gCns (gArg (gOp2 oEq (zaa 5) (gArg (gC (.int 0))))) gA0))) (gCns (gArg (gOpN oInt (gCns (gArg (gOp2 (oI yes2 fun i j=>.bl (decide (j < i))) (zaa 5) (gArg (gC (.int 0))))) gA0))) gA0))))) (zaa 2)) [some (st',true),some (.int n,false),some (.int way,false),some (.lst (xs.map W.int),true),some (.int (0+(i:Nat)),false),some (.int one,false)]=some ([some (st',true),some (.int n,false),some (.int way,false),some (.lst (xs.map W.int),true),some (.int (0+(i:Nat)),false),some (.int one,false)],(.int (x one),false))) ->
     ∃st' x one,HS (k+1+i+1) st'/\(x=0\/x=1)/\(gSeq (gSet [0] 5 (zae [true,false] (Ψ "_law_take") (gCns (zaa 0) (gCns (gArg (gOp2 oIx (gArg (za8 (gCns (gArg (gC (.int 2))) (gCns (gArg (gC (.int 5))) (gCns (gArg (gC (.int 5))) gA0))))) (zaa 2))) gA0)))) (zd3 (gApp 3 (gOp2 oIx (gArg (za8 (gCns (gArg (gVar 5)) (gCns (gArg (gOpN oInt (gCns (gArg (gOp2 oEq (zaa 5) (gArg (gC (.int 0))))) gA0))) (gCns (gArg (gOpN oInt (gCns (gArg (gOp2 (oI yes2 fun i j=>.bl (decide (j < i))) (zaa 5) (gArg (gC (.int 0))))) gA0))) gA0))))) (zaa 2))))) [some (st,true),some (.int n,false),some (.int way,false),some (.lst (xs.map W.int),true),some (.int (0+(i:Nat)),false),v5] =
      some ([some (st',true),some (.int n,false),some (.int way,false),some (.lst ((xs++[x]).map W.int),true),some (.int (0+(i:Nat)),false),some (.int one,false)],.nx):=by
    intro q x hx q0 q1 ha hv;refine aG fun _ qG=>?_;obtain ⟨st',one,e2,g1,g2,g3⟩:=hT (k+1+i) st q hst (by omega) q0 q1;refine qG ?_;clear qG;have cc:=zd6 (m:=[true,false]) (ws:=[.int q]) (wz:=[.int q]) ha rfl rfl e2 rfl;refine ⟨st',x one,one,g1,hx one g2 g3,?_⟩;refine (seq_nx (zj5 (mp:=[0]) (i:=5) cc rfl)).trans (ztb (r:=(.non,false)) ?_);rw [List.map_append];exact zx4 (i:=3) rfl (hv st' one) rfl zz
   rcases hw with rfl | rfl | rfl
   ·exact fin 2 (fun one=>one) (fun one a b=>by omega) (by decide) (by decide) rfl fun st' one=>rfl
   ·refine fin 5 (fun one => if decide (one = 0) then 1 else 0) (fun one a b => ?_) (by decide) (by decide) rfl fun st' one => rfl;by_cases z:one=0<;>simp [z]
   ·refine fin 5 (fun one => if decide (0 < one) then 1 else 0) (fun one a b => ?_) (by decide) (by decide) rfl fun st' one => rfl;by_cases z:0 < one<;>simp [z]
  obtain ⟨en',hf,hp⟩:=zcp (mp:=[0]) (T:=.nm 4) (it:=zc9 (gCns (zaa 1) gA0)) (body:=(gSeq (gSet [0] 5 (zae [true,false] (Ψ "_law_take") (gCns (zaa 0) (gCns (gArg (gOp2 oIx (gArg (za8 (gCns (gArg (gC (.int 2))) (gCns (gArg (gC (.int 5))) (gCns (gArg (gC (.int 5))) gA0))))) (zaa 2))) gA0)))) (zd3 (gApp 3 (gOp2 oIx (gArg (za8 (gCns (gArg (gVar 5)) (gCns (gArg (gOpN oInt (gCns (gArg (gOp2 oEq (zaa 5) (gArg (gC (.int 0))))) gA0))) (gCns (gArg (gOpN oInt (gCns (gArg (gOp2 (oI yes2 fun i j=>.bl (decide (j < i))) (zaa 5) (gArg (gC (.int 0))))) gA0))) gA0))))) (zaa 2))))))
   (fun i e=>∃st xs v4 v5,e=[some (st,true),some (.int n,false),some (.int way,false),some (.lst (xs.map W.int),true),v4,v5]/\HS (k+1+i) st/\xs.length=i/\Bits xs)
   (en:=[some (st1,true),some (.int n,false),some (.int way,false),some (.lst [],true),none,none]) (e0:=[some (st1,true),some (.int n,false),some (.int way,false),some (.lst [],true),none,none]) (ws:=rngW 0 n.toNat)
   (by
    have hr:zc5 n=true:=by unfold zc5;rw [decide_eq_true (by omega),decide_eq_true (by omega)];rfl
    show (if zc5 n then some (_,rngW 0 n.toNat) else none)=_;rw [hr];rfl)
   ⟨st1,[],none,none,rfl,h1,rfl,fun x hx=>by cases hx⟩
   (by
    rintro i w e hw' ⟨st,xs,v4,v5,rfl,hst,hl,hb⟩;refine aG fun _ qG=>?_;obtain ⟨hi,rfl⟩:=rngW_get hw';obtain ⟨st',x,one,g1,g2,g3⟩:=turn i st xs v5 hst (by omega) hl;refine qG ?_;clear qG;refine ⟨_,_,rfl,.inl g3,st',xs++[x],_,_,rfl,g1,by rw [List.length_append,hl];rfl,fun y hy=>?_⟩;rcases List.mem_append.mp hy with hy | hy
    ·exact hb y hy
    ·rw [List.mem_singleton] at hy;subst hy;exact g2)
  refine aG fun _ qG=>?_;obtain ⟨st2,xs,v4,v5,rfl,g1,g2,g3⟩:=hp;refine qG ?_;clear qG;rw [zci] at g1 g2;refine ⟨st2,xs,?_,g1.mono (by omega),by omega,g3⟩;refine zc2 (en:=[some (st2,true),some (.int n,false),some (.int way,false),none,v4,v5]) rfl ?_ rfl;refine (seq_nx s1).trans ((seq_nx (e1:=[some (st1,true),some (.int n,false),some (.int way,false),none,none,none]) ?_).trans ((seq_nx (e1:=[some (st1,true),some (.int n,false),some (.int way,false),some (.lst [],true),none,none]) rfl).trans ((seq_nx hf).trans rfl)));rcases hw with rfl | rfl | rfl<;>rfl
end L2
namespace L2
open PySem PySem.Spec PyProof.Rows
noncomputable def zw5 (Ψ:Str->Fn):GS:=(gSeq (gSet [] 1 (gC (.int 0))) (gSeq (gFor [] (.nm 2) (gRev (gVar 0)) (gSet [] 1 (gOp2 oAdd (gArg (gOp2 oMult (gArg (gC (.int 2))) (zaa 1))) (zaa 2)))) (zcq [] 1)))
noncomputable def zor (Φ:Fn):Prop:=∀xs:List Int,Φ [.lst (xs.map W.int)]=some ([.lst (xs.map W.int)],(.int (zab xs),false))
theorem zto (Ψ:Str->Fn):zor (zal [false] 3 (zw5 Ψ)):=by
 intro xs;obtain ⟨en',hf,hp⟩:=zcp (mp:=[]) (T:=.nm 2) (it:=gRev (gVar 0)) (body:=gSet [] 1 (gOp2 oAdd (gArg (gOp2 oMult (gArg (gC (.int 2))) (zaa 1))) (zaa 2)))
  (fun i e=>∃v2,e=[some (.lst (xs.map W.int),false),some (.int (zab (xs.drop (xs.length - i))),false),v2])
  (en:=[some (.lst (xs.map W.int),false),some (.int 0,false),none]) (e0:=[some (.lst (xs.map W.int),false),some (.int 0,false),none]) (ws:=(xs.map W.int).reverse) rfl
  ⟨none,by rw [Nat.sub_zero,List.drop_length];rfl⟩
  (by
   rintro i w e hw ⟨v2,rfl⟩;have hi:i < xs.length:=by have:=(List.getElem?_eq_some_iff.mp hw).1;rw [List.length_reverse,List.length_map] at this;exact this
   have hj:xs.length - 1 - i < xs.length:=by omega
   have ew:w=.int xs[xs.length - 1 - i]:=by
    rw [List.getElem?_reverse (by rw [List.length_map];exact hi),List.length_map,List.getElem?_map,List.getElem?_eq_getElem hj] at hw;exact (sI hw).symm
   subst ew;have om:oMult (.int 2) (.int (zab (xs.drop (xs.length - i))))=some (.int (2 * zab (xs.drop (xs.length - i))),false):=oMult_l (by decide) (by decide);have ed:xs.drop (xs.length - (i+1))=xs[xs.length - 1 - i]::xs.drop (xs.length - i):=by
    have e1:xs.length - (i+1)=xs.length - 1 - i:=by omega
    have e2:xs.length - i=xs.length - 1 - i+1:=by omega
    rw [e1,e2];exact List.drop_eq_getElem_cons hj
   refine ⟨_,_,rfl,.inl (zj5 (r:=(.int (zab (xs.drop (xs.length - (i+1)))),false)) (za9 (zbk (za9 (x:=.inl (.int 2)) rfl rfl rfl rfl om)) rfl rfl rfl ?_) rfl),_,rfl⟩;rw [ed]
   rfl)
 obtain ⟨v2,rfl⟩:=hp;rw [List.length_reverse,List.length_map,Nat.sub_self,List.drop_zero] at hf;exact zc2 (en:=[some (.lst (xs.map W.int),false),some (.int (zab xs),false),v2]) rfl ((seq_nx (e1:=[some (.lst (xs.map W.int),false),some (.int 0,false),none]) rfl).trans ((seq_nx hf).trans rfl)) rfl
noncomputable def zyc (Ψ:Str->Fn):GS:=(gSeq (gSet [] 1 (za8 (gCns (gArg (gC (.int 0))) (gCns (gArg (gC (.int 0))) (gCns (gArg (gC (.int 0))) gA0))))) (gSeq (gIfS (zez (zam (gOp2 (oI yes2 fun i j=>.bl (decide (j < i))) (gArg (gOpN oLen (gCns (zaa 0) gA0))) (gArg (gC (.int 0))))) (zam (gOp2 (oI yes2 fun i j=>.bl (decide (j<=i))) (gArg (gOp2 oIx (zaa 0) (gArg (gC (.int 0))))) (gArg (gOp2 (oI cPow fun i j=>.int (i ^ j.toNat)) (gArg (gC (.int 10))) (gArg (gC (.int 18)))))))) (gSeq (gSet [] 2 (gC (.int 1))) (gFor [] (.nm 3) (zeu (gSl (zaa 0) zbm (zeo (gC (.int 63))))) (gSeq (zax 1 (gC (.int 0)) (gOp2 oAdd (gArg (gOp2 oIx (zaa 1) (gArg (gC (.int 0))))) (gArg (gOp2 oMult (gArg (gOp2 (oI (fun _ j=>decide (0 < j)) fun i j=>.int (i % j)) (gArg (gOpN oAbs (gCns (zaa 3) gA0))) (gArg (gOp2 (oI cPow fun i j=>.int (i ^ j.toNat)) (gArg (gC (.int 10))) (gArg (gC (.int 60))))))) (zaa 2))))) (gSet [] 2 (gOp2 oMult (zaa 2) (gArg (gOp2 (oI cPow fun i j=>.int (i ^ j.toNat)) (gArg (gC (.int 10))) (gArg (gC (.int 60)))))))))) zco) (gSeq (gFor [] (.tp [4,3]) (zlm (gSl (zaa 0) zbm (zeo (gC (.int 63))))) (gSeq (gSet [] 5 (gOp2 oAdd (gArg (gOp2 oAdd (gArg (gOp2 (oI (fun _ j=>decide (0 < j)) fun i j=>.int (i % j)) (zaa 3) (gArg (gC (.int 2305843009213693951))))) (gArg (gOp2 oMult (gArg (gC (.int 7919))) (zaa 4))))) (gArg (gC (.int 3))))) (zax 1 (gC (.int 1)) (gOp2 (oI (fun _ j=>decide (0 < j)) fun i j=>.int (i % j)) (gArg (gOp2 oAdd (gArg (gOp2 oMult (gArg (gOp2 oIx (zaa 1) (gArg (gC (.int 1))))) (gArg (gC (.int 48271))))) (zaa 5))) (gArg (gC (.int 2305843009213693951))))))) (zcq [] 1))))
noncomputable def zrp (Φ:Fn):Prop:=∀ns:List Int,ns.length<=63->∃st,Φ [.frl (ns.map W.int)]=some ([.frl (ns.map W.int)],(st,true))/\HS 0 st
theorem zx7 {ns:List Int} (h:ns.length<=63):cutW (ns.map W.int) none (some 63)=ns.map W.int:=by
 unfold cutW;have e1:HT.sIx (ns.map W.int).length 0 none=0:=rfl;have e2:HT.sIx (ns.map W.int).length (ns.map W.int).length (some 63)=(ns.map W.int).length:=by
  have:=HT.sIx_nat (ns.map W.int).length (ns.map W.int).length 63;rw [show ((63:Nat):Int)=63 from rfl] at this;rw [this,List.length_map];omega
 rw [e1,e2,List.drop_zero,Nat.sub_zero,List.take_length]
theorem zrg {ns:List Int}{i:Nat}{w:W} (h:(zde (ns.map W.int) 0)[i]?=some w):∃hi:i < ns.length,w=.tup [.int i,.int ns[i]]:=by
 have hi:i < ns.length:=by have:=(List.getElem?_eq_some_iff.mp h).1;rw [za4,List.length_map] at this;exact this
 have:=zca (ws:=ns.map W.int) (k:=0) (i:=i) (w:=.int ns[i]) (by rw [List.getElem?_map,List.getElem?_eq_getElem hi];rfl);rw [h,Nat.zero_add] at this;exact ⟨hi,sI this⟩
theorem zth (Ψ:Str->Fn):zrp (zal [false] 6 (zyc Ψ)):=by
  intro ns hl;have p18:cPow 10 18=true:=by decide
  have p60:cPow 10 60=true:=by decide
  have first:∃a0 v2 v3,0<=a0/\gIfS (zez (zam (gOp2 (oI yes2 fun i j=>.bl (decide (j < i))) (gArg (gOpN oLen (gCns (zaa 0) gA0))) (gArg (gC (.int 0))))) (zam (gOp2 (oI yes2 fun i j=>.bl (decide (j<=i))) (gArg (gOp2 oIx (zaa 0) (gArg (gC (.int 0))))) (gArg (gOp2 (oI cPow fun i j=>.int (i ^ j.toNat)) (gArg (gC (.int 10))) (gArg (gC (.int 18)))))))) (gSeq (gSet [] 2 (gC (.int 1))) (gFor [] (.nm 3) (zeu (gSl (zaa 0) zbm (zeo (gC (.int 63))))) (gSeq (zax 1 (gC (.int 0)) (gOp2 oAdd (gArg (gOp2 oIx (zaa 1) (gArg (gC (.int 0))))) (gArg (gOp2 oMult (gArg (gOp2 (oI (fun _ j=>decide (0 < j)) fun i j=>.int (i % j)) (gArg (gOpN oAbs (gCns (zaa 3) gA0))) (gArg (gOp2 (oI cPow fun i j=>.int (i ^ j.toNat)) (gArg (gC (.int 10))) (gArg (gC (.int 60))))))) (zaa 2))))) (gSet [] 2 (gOp2 oMult (zaa 2) (gArg (gOp2 (oI cPow fun i j=>.int (i ^ j.toNat)) (gArg (gC (.int 10))) (gArg (gC (.int 60)))))))))) zco
      [some (.frl (ns.map W.int),false),some (.lst [.int 0,.int 0,.int 0],true),none,none,none,none]=some ([some (.frl (ns.map W.int),false),some (.lst [.int a0,.int 0,.int 0],true),v2,v3,none,none],.nx):=by
    have ln:(zam (gOp2 (oI yes2 fun i j=>.bl (decide (j < i))) (gArg (gOpN oLen (gCns (zaa 0) gA0))) (gArg (gC (.int 0))))) [some (.frl (ns.map W.int),false),some (.lst [.int 0,.int 0,.int 0],true),none,none,none,none]=some ([some (.frl (ns.map W.int),false),some (.lst [.int 0,.int 0,.int 0],true),none,none,none,none],decide ((0:Int) < ((ns.map W.int).length:Nat))):=rfl;cases ns with
    | nil=>exact ⟨0,none,none,by decide,(zyp (by unfold zez;rw [ln];rfl)).trans rfl⟩
    | cons n0 nr =>
      have t2:(zam (gOp2 (oI yes2 fun i j=>.bl (decide (j<=i))) (gArg (gOp2 oIx (zaa 0) (gArg (gC (.int 0))))) (gArg (gOp2 (oI cPow fun i j=>.int (i ^ j.toNat)) (gArg (gC (.int 10))) (gArg (gC (.int 18))))))) [some (.frl ((n0::nr).map W.int),false),some (.lst [.int 0,.int 0,.int 0],true),none,none,none,none]=some ([some (.frl ((n0::nr).map W.int),false),some (.lst [.int 0,.int 0,.int 0],true),none,none,none,none],decide (10 ^ 18<=n0)) :=
        ztf (za9 (zbk (za9 rfl rfl rfl rfl (zmr rfl (zcg (i:=0) rfl)))) (zbk (za9 (x:=.inl (.int 10)) rfl rfl rfl rfl (oI_t p18))) rfl rfl rfl)
      have ln' : decide ((0:Int) < (((n0::nr).map W.int).length:Nat))=true:=decide_eq_true (by simp);rw [ln'] at ln;by_cases c:(10:Int) ^ 18<=n0
      · rw [decide_eq_true c] at t2
        obtain ⟨en',hf,hp⟩:=zcp (mp:=[]) (T:=.nm 3) (it:=zeu (gSl (zaa 0) zbm (zeo (gC (.int 63))))) (body:=(gSeq (zax 1 (gC (.int 0)) (gOp2 oAdd (gArg (gOp2 oIx (zaa 1) (gArg (gC (.int 0))))) (gArg (gOp2 oMult (gArg (gOp2 (oI (fun _ j=>decide (0 < j)) fun i j=>.int (i % j)) (gArg (gOpN oAbs (gCns (zaa 3) gA0))) (gArg (gOp2 (oI cPow fun i j=>.int (i ^ j.toNat)) (gArg (gC (.int 10))) (gArg (gC (.int 60))))))) (zaa 2))))) (gSet [] 2 (gOp2 oMult (zaa 2) (gArg (gOp2 (oI cPow fun i j=>.int (i ^ j.toNat)) (gArg (gC (.int 10))) (gArg (gC (.int 60)))))))))
          (fun i e=>∃a0 wt v3,e=[some (.frl ((n0::nr).map W.int),false),some (.lst [.int a0,.int 0,.int 0],true),some (.int wt,false),v3,none,none]/\0<=a0/\0 < wt/\wt<=2 ^ (200 * i))
          (en:=[some (.frl ((n0::nr).map W.int),false),some (.lst [.int 0,.int 0,.int 0],true),some (.int 1,false),none,none,none]) (e0:=[some (.frl ((n0::nr).map W.int),false),some (.lst [.int 0,.int 0,.int 0],true),some (.int 1,false),none,none,none]) (ws:=(n0::nr).map W.int)
          (by
            show some (_,cutW ((n0::nr).map W.int) none (some 63))=_;rw [zx7 hl])
          ⟨0,1,none,rfl,by decide,by decide,by decide⟩
          (by
            rintro i w e hw ⟨a0,wt,v3,rfl,q0,q1,q2⟩;rw [List.getElem?_map] at hw;have hi:i < (n0::nr).length:=by
              rcases Nat.lt_or_ge i (n0::nr).length with z | z
              · exact z
              · rw [List.getElem?_eq_none z] at hw;exact noSome hw
            rw [List.getElem?_eq_getElem hi] at hw;have ew:w=.int (n0::nr)[i]:=(sI hw).symm;subst ew;generalize (n0::nr)[i]=n;have y0:0<=(if n < 0 then -n else n) % (10:Int) ^ 60:=Int.emod_nonneg _ (by decide);have y1:(if n < 0 then -n else n) % (10:Int) ^ 60 < 10 ^ 60:=Int.emod_lt_of_pos _ (by decide);have hb:i<=63:=by omega
            have b1:Builtin.Int.intBits ((if n < 0 then -n else n) % (10:Int) ^ 60)<=2 ^ 20:=zfh (i:=1) y0 (Int.le_trans (Int.le_of_lt y1) (by decide)) (by decide);have b2:Builtin.Int.intBits wt<=2 ^ 20:=zfh (by omega) q2 hb;have m1:=znb b1 b2;have m2:=znb b2 (zfh (w:=10 ^ 60) (i:=1) (by decide) (by decide) (by decide));obtain ⟨r1,r2⟩:=zqp q1 q2;refine ⟨_,[some (.frl ((n0::nr).map W.int),false),some (.lst [.int (a0+(if n < 0 then -n else n) % (10:Int) ^ 60 * wt),.int 0,.int 0],true),some (.int (wt * 10 ^ 60),false),some (.int n,false),none,none],rfl,.inl ?_,_,_,_,rfl,?_,r1,r2⟩
            · refine (seq_nx (e1 := [some (.frl ((n0 :: nr).map W.int), false), some (.lst [.int (a0 + (if n < 0 then -n else n) % (10 : Int) ^ 60 * wt), .int 0, .int 0], true), some (.int wt, false), some (.int n, false), none, none]) ?_).trans (set_0 (op2_0 rfl (arg_0 (op2_0 (x := .inl (.int 10)) rfl rfl rfl rfl (oI_t p60))) rfl rfl m2) rfl)
              have ge:gOp2 oAdd (gArg (gOp2 oIx (zaa 1) (gArg (gC (.int 0))))) (gArg (gOp2 oMult (gArg (gOp2 (oI (fun _ j=>decide (0 < j)) fun i j=>.int (i % j)) (gArg (gOpN oAbs (gCns (zaa 3) gA0))) (gArg (gOp2 (oI cPow fun i j=>.int (i ^ j.toNat)) (gArg (gC (.int 10))) (gArg (gC (.int 60))))))) (zaa 2))) [some (.frl ((n0::nr).map W.int),false),some (.lst [.int a0,.int 0,.int 0],true),some (.int wt,false),some (.int n,false),none,none]=some ([some (.frl ((n0::nr).map W.int),false),some (.lst [.int a0,.int 0,.int 0],true),some (.int wt,false),some (.int n,false),none,none],(.int (a0+(if n < 0 then -n else n) % (10:Int) ^ 60 * wt),false)) :=
                za9 (zbk (za9 rfl rfl rfl rfl (zmr rfl (zcg (i:=0) rfl)))) (zbk (za9 (zbk (za9 (zbk (zvo rfl rfl rfl)) (zbk (za9 (x:=.inl (.int 10)) rfl rfl rfl rfl (oI_t p60))) rfl rfl (oI_t (by decide)))) rfl rfl rfl m1)) rfl rfl rfl
              exact zlt (n:=0) (j:=0) (ws:=[.int a0,.int 0,.int 0]) ge rfl rfl rfl
            · have := Int.mul_nonneg y0 (Int.le_of_lt q1)
              omega)
        refine aG fun _ qG=>?_;obtain ⟨a0,wt,v3,rfl,q0,_⟩:=hp;refine qG ?_;clear qG;exact ⟨a0,_,_,q0,(zxu (by unfold zez;rw [ln];exact t2)).trans ((seq_nx (e1:=[some (.frl ((n0::nr).map W.int),false),some (.lst [.int 0,.int 0,.int 0],true),some (.int 1,false),none,none,none]) rfl).trans hf)⟩
      · rw [decide_eq_false c] at t2
        exact ⟨0,none,none,by decide,(zyp (by unfold zez;rw [ln];exact t2)).trans rfl⟩
  refine aG fun _ qG=>?_;obtain ⟨a0,v2,v3,q0,hfirst⟩:=first
  refine qG ?_;clear qG;obtain ⟨en',hf,hp⟩:=zcp (mp:=[]) (T:=.tp [4,3]) (it:=zlm (gSl (zaa 0) zbm (zeo (gC (.int 63))))) (body:=(gSeq (gSet [] 5 (gOp2 oAdd (gArg (gOp2 oAdd (gArg (gOp2 (oI (fun _ j=>decide (0 < j)) fun i j=>.int (i % j)) (zaa 3) (gArg (gC (.int 2305843009213693951))))) (gArg (gOp2 oMult (gArg (gC (.int 7919))) (zaa 4))))) (gArg (gC (.int 3))))) (zax 1 (gC (.int 1)) (gOp2 (oI (fun _ j=>decide (0 < j)) fun i j=>.int (i % j)) (gArg (gOp2 oAdd (gArg (gOp2 oMult (gArg (gOp2 oIx (zaa 1) (gArg (gC (.int 1))))) (gArg (gC (.int 48271))))) (zaa 5))) (gArg (gC (.int 2305843009213693951)))))))
    (fun i e=>∃b v3 v4 v5,e=[some (.frl (ns.map W.int),false),some (.lst [.int a0,.int b,.int 0],true),v2,v3,v4,v5]/\0<=b/\b < MM)
    (en:=[some (.frl (ns.map W.int),false),some (.lst [.int a0,.int 0,.int 0],true),v2,v3,none,none]) (e0:=[some (.frl (ns.map W.int),false),some (.lst [.int a0,.int 0,.int 0],true),v2,v3,none,none]) (ws:=zde (ns.map W.int) 0)
    (by
      show some (_,zde (cutW (ns.map W.int) none (some 63)) 0)=_;rw [zx7 hl])
    ⟨0,v3,none,none,rfl,by decide,by decide⟩
    (by
      rintro i w e hw ⟨b,v3,v4,v5,rfl,q1,q2⟩;obtain ⟨hi,rfl⟩:=zrg hw;generalize ns[i]=n;have hm:MM=2305843009213693951:=rfl;have m1:oMult (.int 7919) (.int (i:Nat))=some (.int (7919 * (i:Nat)),false):=oMult_l (by decide) (by decide);have m2:oMult (.int b) (.int 48271)=some (.int (b * 48271),false):=zim (by decide) (by decide);refine ⟨_,[some (.frl (ns.map W.int),false),some (.lst [.int a0,.int ((b * 48271+(n % 2305843009213693951+7919 * (i:Nat)+3)) % 2305843009213693951),.int 0],true),v2,some (.int n,false),some (.int (i:Nat),false),some (.int (n % 2305843009213693951+7919 * (i:Nat)+3),false)],rfl,.inl ?_,_,_,_,_,rfl,Int.emod_nonneg _ (by decide),Int.emod_lt_of_pos _ (by decide)⟩;refine (seq_nx (e1:=[some (.frl (ns.map W.int),false),some (.lst [.int a0,.int b,.int 0],true),v2,some (.int n,false),some (.int (i:Nat),false),some (.int (n % 2305843009213693951+7919 * (i:Nat)+3),false)]) (set_0 (op2_0 (arg_0 (op2_0 (arg_0 (op2_0 rfl rfl rfl rfl (oI_t (by decide)))) (arg_0 (op2_0 (x:=.inl (.int 7919)) rfl rfl rfl rfl m1)) rfl rfl rfl)) rfl rfl rfl rfl) rfl)).trans ?_;have ge:gOp2 (oI (fun _ j=>decide (0 < j)) fun i j=>.int (i % j)) (gArg (gOp2 oAdd (gArg (gOp2 oMult (gArg (gOp2 oIx (zaa 1) (gArg (gC (.int 1))))) (gArg (gC (.int 48271))))) (zaa 5))) (gArg (gC (.int 2305843009213693951))) [some (.frl (ns.map W.int),false),some (.lst [.int a0,.int b,.int 0],true),v2,some (.int n,false),some (.int (i:Nat),false),some (.int (n % 2305843009213693951+7919 * (i:Nat)+3),false)]=some ([some (.frl (ns.map W.int),false),some (.lst [.int a0,.int b,.int 0],true),v2,some (.int n,false),some (.int (i:Nat),false),some (.int (n % 2305843009213693951+7919 * (i:Nat)+3),false)],(.int ((b * 48271+(n % 2305843009213693951+7919 * (i:Nat)+3)) % 2305843009213693951),false)) :=
        za9 (zbk (za9 (zbk (za9 (zbk (za9 rfl rfl rfl rfl (zmr rfl (zcg (i:=1) rfl)))) rfl rfl rfl m2)) rfl rfl rfl rfl)) rfl rfl rfl (oI_t (by decide))
      exact zlt (n:=1) (j:=1) (ws:=[.int a0,.int b,.int 0]) ge rfl rfl rfl)
  refine aG fun _ qG=>?_;obtain ⟨b,w3,w4,w5,rfl,q1,q2⟩:=hp;refine qG ?_;clear qG;refine ⟨.lst [.int a0,.int b,.int 0],zc2 (en:=[some (.frl (ns.map W.int),false),none,v2,w3,w4,w5]) rfl ?_ rfl,⟨_,_,_,rfl,q0,q1,q2,by decide,by decide⟩⟩;exact (seq_nx (e1:=[some (.frl (ns.map W.int),false),some (.lst [.int 0,.int 0,.int 0],true),none,none,none,none]) rfl).trans ((seq_nx hfirst).trans ((seq_nx hf).trans rfl))
end L2
namespace L2
open PySem PySem.Spec PyProof.Rows
end L2
namespace L2
open PySem PySem.Spec PyProof.Rows
theorem znh (a b x y:Nat) (hx:x < 2) (hy:y < 2):(2 * a+x) &&& (2 * b+y)=2 * (a &&& b)+x * y:=by
 have h1:((2 * a+x) &&& (2 * b+y)) / 2=a &&& b:=by
  have:=Nat.and_div_two_pow (n:=1) (a:=2 * a+x) (b:=2 * b+y);rw [Nat.pow_one] at this;rw [this];have e1:(2 * a+x) / 2=a:=by omega
  have e2:(2 * b+y) / 2=b:=by omega
  rw [e1,e2]
 have h2:((2 * a+x) &&& (2 * b+y)) % 2=x * y:=by
  have:=Nat.and_mod_two_pow (n:=1) (a:=2 * a+x) (b:=2 * b+y);rw [Nat.pow_one] at this;rw [this];have e1:(2 * a+x) % 2=x:=by omega
  have e2:(2 * b+y) % 2=y:=by omega
  rw [e1,e2];have:x=0\/x=1:=by omega
  have:y=0\/y=1:=by omega
  rcases ‹x=0\/x=1› with rfl | rfl<;>rcases ‹y=0\/y=1› with rfl | rfl<;>rfl
 omega
noncomputable def Bit (x:Int):Prop:=x=0\/x=1
theorem zfi {a b x y:Int} (ha:0<=a) (hb:0<=b) (hx:Bit x) (hy:Bit y):Builtin.bitAnd (2 * a+x) (2 * b+y)=2 * Builtin.bitAnd a b+x * y:=by
 have x0:0<=x/\x < 2:=by rcases hx with rfl | rfl<;>decide
 have y0:0<=y/\y < 2:=by rcases hy with rfl | rfl<;>decide
 rw [bitAnd_pp (by omega) (by omega),bitAnd_pp ha hb];have e1:(2 * a+x).toNat=2 * a.toNat+x.toNat:=by omega
 have e2:(2 * b+y).toNat=2 * b.toNat+y.toNat:=by omega
 rw [e1,e2,znh _ _ _ _ (by omega) (by omega)];rcases hx with rfl | rfl<;>rcases hy with rfl | rfl<;>simp
theorem zuz (x y:Int):Builtin.bitXor x y=x+y - 2 * Builtin.bitAnd x y:=by
 show Builtin.bitOr x y - Builtin.bitAnd x y=_;rw [bitOr_and];omega
theorem zjy (x:Int):Builtin.bitAnd 0 x=0:=by rw [bitAnd_comm,bitAnd_zero]
theorem Bits.head {x:Int}{xs:List Int} (h:Bits (x::xs)):Bit x:=h x List.mem_cons_self
theorem Bits.tail {x:Int}{xs:List Int} (h:Bits (x::xs)):Bits xs:=fun y hy=>h y (List.mem_cons_of_mem _ hy)
theorem zem {xs:List Int} (h:Bits xs):0<=zab xs:=(zct h).1
theorem zcb (x:Int) (xs:List Int):zab (x::xs)=2 * zab xs+x:=rfl
theorem zaz:∀(l h:List Int),zab (l++h)=zab l+2 ^ l.length * zab h
  | [],h=>by show zab h=0+1 * zab h;omega
  | x::l,h=>by
    show 2 * zab (l++h)+x=2 * zab l+x+2 ^ (l.length+1) * zab h;rw [zaz l h,Int.pow_succ,Int.mul_add,Int.mul_comm (2 ^ l.length) 2,Int.mul_assoc];omega
theorem zhw:∀{xs ys:List Int},Bits xs->Bits ys->Builtin.bitAnd (zab xs) (zab ys)=zab (List.zipWith (· * ·) xs ys)
  | [],ys,_,_=>zjy _
  | x::xs,[],_,_=>bitAnd_zero _
  | x::xs,y::ys,h1,h2=>by
    rw [zcb,zcb,zfi (zem h1.tail) (zem h2.tail) h1.head h2.head,zhw h1.tail h2.tail]
    rfl
end L2
namespace L2
open PySem PySem.Spec PyProof.Rows
end L2
namespace L2
open PySem PySem.Spec PyProof.Rows
theorem zs8 {as:GAs}{en e1:En}{xs:List (W ⊕ Nat)}{j:Int} (h:as en=some (e1,xs)) (h2:zar e1 xs=some [.int j]) (h3:zc5 j=true):zc9 as en=some (e1,rngW 0 j.toNat):=by
 unfold zc9;rw [h];show (match zar e1 xs with | some [.int j]=>if zc5 j then some (e1,rngW 0 j.toNat) else none | _=>none)=_;rw [h2];show (if zc5 j then some (e1,rngW 0 j.toNat) else none)=_;rw [if_pos h3]
end L2
namespace L2
open PySem PySem.Spec PyProof.Rows
noncomputable def tab (n:Nat) (f:Nat->Int):List Int:=(List.range n).map f
theorem zbo (n:Nat) (f:Nat->Int):(tab n f).length=n:=by unfold tab;rw [List.length_map,List.length_range]
theorem zer {n:Nat}{f:Nat->Int}{i:Nat} (h:i < n):(tab n f)[i]?=some (f i):=by unfold tab;rw [List.getElem?_map,List.getElem?_range h];rfl
theorem zdd {n:Nat}{f g:Nat->Int} (h:∀i,i < n->f i=g i):tab n f=tab n g:=by
 unfold tab;refine List.map_congr_left fun i hi=>h i (List.mem_range.mp hi)
theorem tab_of (xs:List Int):tab xs.length (fun i=>xs.getD i 0)=xs:=by
 apply List.ext_getElem?;intro i;by_cases h:i < xs.length
 ·rw [zer h,List.getD_eq_getElem?_getD,List.getElem?_eq_getElem h];rfl
 ·rw [List.getElem?_eq_none (by rw [zbo];omega),List.getElem?_eq_none (by omega)]
theorem zu8 (n:Nat) (f g:Nat->Int) (h:Int->Int->Int):List.zipWith h (tab n f) (tab n g)=tab n fun i=>h (f i) (g i):=by
 apply List.ext_getElem?;intro i;by_cases hi:i < n
 ·rw [List.getElem?_zipWith,zer hi,zer hi,zer hi]
 ·rw [List.getElem?_eq_none (by rw [List.length_zipWith,zbo,zbo];omega),List.getElem?_eq_none (by rw [zbo];omega)]
theorem zcz {n:Nat}{f:Nat->Int} (h:∀i,i < n->Bit (f i)):Bits (tab n f):=fun x hx=>by
 obtain ⟨i,hi,rfl⟩:=List.mem_map.mp hx;exact h i (List.mem_range.mp hi)
theorem zoo (a b:Nat) (f:Nat->Int):tab (a+b) f=tab a f++tab b fun i=>f (a+i):=by
 unfold tab;rw [List.range_add,List.map_append,List.map_map]
 rfl
theorem zf2 (n:Nat):tab n (fun _=>0)=List.replicate n 0:=by unfold tab;rw [List.map_const',List.length_range]
theorem zdc (n:Nat):zab (List.replicate n 0)=0:=by
 induction n with
 | zero=>rfl
 | succ n ih=>rw [List.replicate_succ,zcb,ih];rfl
end L2
namespace L2
open PySem PySem.Spec PyProof.Rows
end L2
namespace L2
open PySem PySem.Spec PyProof.Rows
end L2
namespace L2
open PySem PySem.Spec PyProof.Rows
end L2
namespace L2
open PySem PySem.Spec PyProof.Rows
theorem zcd (n:Nat) (f:Nat->Int):tab (n+1) f=tab n f++[f n]:=by unfold tab;rw [List.range_succ,List.map_append];rfl
theorem zek:∀(p:Nat) (xs:List Int),Bits xs->Builtin.bitAnd (zab xs / 2 ^ p) 1=xs.getD p 0
  | p,[],_=>by
    show Builtin.bitAnd ((0:Int) / 2 ^ p) 1=0;rw [Int.zero_ediv,zjy]
  | 0,x::xs,h=>by
    have a:=zfi (zem h.tail) (Int.le_refl 0) h.head (show Bit 1 from .inr rfl);rw [bitAnd_zero] at a;show Builtin.bitAnd (zab (x::xs) / 1) 1=x;rw [Int.ediv_one,zcb];have e:(2 * 0+1:Int)=1:=rfl;rw [e] at a;rw [a];omega
  | p+1,x::xs,h=>by
    have ih:=zek p xs h.tail;have e:zab (x::xs) / 2 ^ (p+1)=zab xs / 2 ^ p:=by
      rw [zcb,Int.pow_succ,Int.mul_comm ((2:Int) ^ p) 2,<-Int.ediv_ediv_of_nonneg (by decide)];congr 1;rcases h.head with q | q<;>rw [q]<;>omega
    rw [e,ih]
    rfl
theorem zj2 {n:Nat}{f:Nat->Int} (h:∀i,n<=i->f i=0) (p:Nat):(tab n f).getD p 0=f p:=by
 rw [List.getD_eq_getElem?_getD];by_cases c:p < n
 ·rw [zer c];rfl
 ·rw [List.getElem?_eq_none (by rw [zbo];omega),h p (by omega)];rfl
noncomputable def dueL (f:Nat->Int) (n:Nat):List Nat:=(List.range n).filter fun p=>decide (f p=1)
noncomputable def zan (M:List Nat):List W:=M.map fun p:Nat=>W.int p
theorem zlu (M:List Nat):(zan M).length=M.length:=List.length_map ..
theorem znp {M:List Nat}{i:Nat}{w:W} (h:(zan M)[i]?=some w):∃p,M[i]?=some p/\w=.int (p:Nat):=by
 unfold zan at h;rw [List.getElem?_map] at h;obtain ⟨p,h1,h2⟩:=Option.map_eq_some_iff.mp h;exact ⟨p,h1,h2.symm⟩
theorem zva {f:Nat->Int} (h:∀i,Bit (f i)):∀n,((dueL f n).length:Int)=(tab n f).sum
  | 0=>rfl
  | n+1=>by
    have ih:=zva h n;unfold dueL at ih ⊢;rw [List.range_succ,List.filter_append,List.length_append,zcd,List.sum_append,<-ih];rcases h n with e | e
    · rw [List.filter_cons_of_neg (by rw [e];decide),e];rfl
    · rw [List.filter_cons_of_pos (by rw [e];decide),e];rfl
theorem zkd (f g h:Nat->Int):∀n,zab (tab n f)+zab (tab n g) - zab (tab n h)=zab (tab n fun i=>f i+g i - h i)
  | 0=>rfl
  | n+1=>by
    have ih:=zkd f g h n;rw [zcd,zcd,zcd,zcd,zaz,zaz,zaz,zaz,<-ih,zbo,zbo,zbo,zbo];show _+2 ^ n * (2 * 0+f n)+(_+2 ^ n * (2 * 0+g n)) - (_+2 ^ n * (2 * 0+h n))=_+2 ^ n * (2 * 0+(f n+g n - h n));rw [show (2 * 0+f n)=f n by omega,show (2 * 0+g n)=g n by omega,show (2 * 0+h n)=h n by omega,show (2 * 0+(f n+g n - h n))=f n+g n - h n by omega,Int.mul_sub,Int.mul_add];omega
theorem zpf {n p:Nat} (h:p < n):(1 * 2 ^ p:Int)=zab (tab n fun i=>if i=p then 1 else 0):=by
 obtain ⟨k,rfl⟩ : ∃k,n=p+(1+k):=⟨n - p - 1,by omega⟩;have e1:(tab p fun i=>if i=p then (1:Int) else 0)=List.replicate p 0:=by
  rw [<-zf2];exact zdd fun i hi=>if_neg (by omega)
 have e2:(tab k fun i=>if p+(1+i)=p then (1:Int) else 0)=List.replicate k 0:=by
  rw [<-zf2];exact zdd fun i hi=>if_neg (by omega)
 have e3:(tab 1 fun i=>if p+i=p then (1:Int) else 0)=[1]:=by
  show [if p+0=p then (1:Int) else 0]=[1];rw [if_pos (by omega)]
 rw [zoo,zoo,e1,e2,e3,zaz,zdc,List.length_replicate];show _=0+2 ^ p * (2 * zab (List.replicate k 0)+1);rw [zdc];omega
theorem zxk (x y:Int):Builtin.bitOr x y=x+y - Builtin.bitAnd x y:=by
 have h:=zuz x y;have e:Builtin.bitXor x y=Builtin.bitOr x y - Builtin.bitAnd x y:=rfl;omega
theorem zuh {n p:Nat}{f:Nat->Int} (h:∀i,Bit (f i)) (hp:p < n):Builtin.bitOr (zab (tab n f)) (1 * 2 ^ p)=zab (tab n fun i=>if i=p then 1 else f i):=by
 rw [zpf hp,zxk,zhw (zcz fun i _=>h i) (zcz fun i _=>by split<;>first | exact .inr rfl | exact .inl rfl),zu8,zkd];refine congrArg zab (zdd fun i _=>?_);by_cases c:i=p
 ·rw [if_pos c,if_pos c];omega
 ·rw [if_neg c,if_neg c];omega
theorem zxr {mp:List Nat}{o:O2}{i:Nat}{g:GA}{en e1:En}{x:W ⊕ Nat}{w u:W}{r:W × Bool} (h0:en[i]?=some (some (w,false))) (h1:g en=some (e1,x)) (h2:resA e1 x=some u) (h3:o w u=some r) (hc:(mp.contains i || !decide (i < e1.length))=false):gAug mp o i g en=some (e1.set i (some r),.nx):=by
 unfold gAug;rw [h0];show (g en).bind _=_;rw [h1];show (resA e1 x).bind _=_;rw [h2];show (o w u).bind _=_;rw [h3];show (if (mp.contains i || !decide (i < e1.length))=true then none else some (e1.set i (some r),Fl.nx))=_;rw [hc]
 rfl
noncomputable def zxy (Ψ:Str->Fn):GS:=(gRet (gOp2 (oI yes2 fun i j=>.int (Builtin.bitAnd i j)) (gArg (gOp2 (oI (fun _ j=>decide (0<=j)) fun i j=>.int (i / 2 ^ j.toNat)) (zaa 0) (zaa 1))) (gArg (gC (.int 1)))))
noncomputable def zr0 (Φ:Fn):Prop:=∀(n p:Nat) (f:Nat->Int),(∀i,Bit (f i))->(∀i,n<=i->f i=0)->Φ [.int (zab (tab n f)),.int (p:Nat)]=some ([.int (zab (tab n f)),.int (p:Nat)],(.int (f p),false))
theorem zte (Ψ:Str->Fn):zr0 (zal [false,false] 2 (zxy Ψ)):=fun n p f hf h0=>by
 have s:=zek p _ (zcz (n:=n) fun i _=>hf i);rw [zj2 h0] at s;have a:gArg (gOp2 (oI (fun _ j=>decide (0<=j)) fun i j=>.int (i / 2 ^ j.toNat)) (zaa 0) (zaa 1)) [some (.int (zab (tab n f)),false),some (.int (p:Nat),false)]=some ([some (.int (zab (tab n f)),false),some (.int (p:Nat),false)],.inl (.int (zab (tab n f) / 2 ^ p))):=arg_0 (r:=(.int (zab (tab n f) / 2 ^ p),false)) (op2_0 (x:=.inl (.int (zab (tab n f)))) (y:=.inl (.int (p:Nat))) rfl rfl rfl rfl (oI_t (decide_eq_true (Int.natCast_nonneg p))));refine zc2 (en:=[some (.int (zab (tab n f)),false),some (.int (p:Nat),false)]) rfl (zzj (op2_0 a (show gArg (gC (.int 1)) _=some (_,.inl (.int 1)) from rfl) rfl rfl ?_)) rfl;show some (W.int (Builtin.bitAnd (zab (tab n f) / 2 ^ p) 1),false)=_;rw [s]
noncomputable def zlw (Ψ:Str->Fn):GS:=(gSeq (gSet [] 1 (gC (.int 0))) (gSeq (gFor [] (.nm 2) (zeu (gVar 0)) (gAug [] (oI yes2 fun i j=>.int (Builtin.bitOr i j)) 1 (gArg (gOp2 (oI cPow fun i j=>.int (i * 2 ^ j.toNat)) (gArg (gC (.int 1))) (zaa 2))))) (zcq [] 1)))
noncomputable def zds (Φ:Fn):Prop:=∀(n:Nat) (M:List Nat),n<=64->(∀p∈M,p < n)->Φ [.tup (zan M)]=some ([.tup (zan M)],(.int (zab (tab n fun i=>if i∈M then 1 else 0)),false))
theorem zk2 (Ψ:Str->Fn):zds (zal [false] 3 (zlw Ψ)):=fun n M hn hM=>by
 have z0:(zab (tab n fun i=>if i∈M.take 0 then 1 else 0))=0:=by
  have:(tab n fun i=>if i∈M.take 0 then (1:Int) else 0)=List.replicate n 0:=by
   rw [<-zf2];exact zdd fun i _=>if_neg (by rw [List.take_zero];exact List.not_mem_nil)
  rw [this,zdc]
 obtain ⟨en',hl,hp⟩:=zcp (mp:=[]) (T:=(.nm 2)) (it:=(zeu (gVar 0))) (body:=(gAug [] (oI yes2 fun i j=>.int (Builtin.bitOr i j)) 1 (gArg (gOp2 (oI cPow fun i j=>.int (i * 2 ^ j.toNat)) (gArg (gC (.int 1))) (zaa 2)))))
  (fun j e=>∃v2,e=[some (.tup (zan M),false),some (.int (zab (tab n fun i=>if i∈M.take j then 1 else 0)),false),v2]) (en:=[some (.tup (zan M),false),some (.int 0,false),none]) (e0:=[some (.tup (zan M),false),some (.int 0,false),none]) (ws:=zan M) rfl ⟨none,by rw [z0]⟩
  (by
   rintro j w e hw ⟨v2,rfl⟩;obtain ⟨p,hp,rfl⟩:=znp hw;have pn:p < n:=hM p (List.mem_of_getElem? hp);have ow:=zuh (n:=n) (p:=p) (f:=fun i=>if i∈M.take j then 1 else 0) (fun i=>by show Bit (if _ then _ else _);split<;>first | exact .inr rfl | exact .inl rfl) pn;have e2:(tab n fun i=>if i=p then (1:Int) else if i∈M.take j then 1 else 0)=tab n fun i=>if i∈M.take (j+1) then 1 else 0:=zdd fun i _=>by
    have m:i∈M.take (j+1)↔(i∈M.take j\/i=p):=by
     rw [List.take_succ,hp,List.mem_append];show _\/i∈[p]↔_;rw [List.mem_singleton]
    by_cases c:i=p
    ·rw [if_pos c,if_pos (m.mpr (.inr c))]
    ·rw [if_neg c];by_cases c2:i∈M.take j
     ·rw [if_pos c2,if_pos (m.mpr (.inl c2))]
     ·rw [if_neg c2,if_neg (fun q=>(m.mp q).elim c2 c)]
   rw [e2] at ow;have pw:(1 * 2 ^ ((p:Nat):Int).toNat:Int)=1 * 2 ^ p:=rfl;refine ⟨[some (.tup (zan M),false),some (.int (zab (tab n fun i=>if i∈M.take j then 1 else 0)),false),some (.int (p:Nat),false)],[some (.tup (zan M),false),some (.int (zab (tab n fun i=>if i∈M.take (j+1) then 1 else 0)),false),some (.int (p:Nat),false)],rfl,.inl (zxr (w:=.int (zab (tab n fun i=>if i∈M.take j then 1 else 0))) (u:=.int (1 * 2 ^ p)) rfl (arg_0 (r:=(.int (1 * 2 ^ p),false)) (op2_0 (x:=.inl (.int 1)) (y:=.inl (.int (p:Nat))) rfl rfl rfl rfl (oI_t (zwf (by omega) (by omega) (by decide))))) rfl ?_ rfl),_,rfl⟩;show some (W.int (Builtin.bitOr (zab (tab n fun i=>if i∈M.take j then 1 else 0)) (1 * 2 ^ p)),false)=_;rw [ow])
 obtain ⟨v2,rfl⟩:=hp;rw [zlu,List.take_length] at hl;exact zc2 rfl ((seq_nx (e1:=[some (.tup (zan M),false),some (.int 0,false),none]) rfl).trans ((seq_nx hl).trans rfl)) rfl
end L2
namespace L2
open PySem PySem.Spec PyProof.Rows
theorem zc8:∀ws:List W,za6 (ws.map Sum.inl)=some ws
 | []=>rfl
 | w::ws=>by show (za6 (ws.map Sum.inl)).bind _=_;rw [zc8 ws];rfl
theorem zei:∀{xs:List (W ⊕ Nat)}{ws:List W},za6 xs=some ws->xs=ws.map Sum.inl
  | [],_,e=>by obtain rfl:=sI e;rfl
  | .inl w::xs,_,e=>by
    obtain ⟨ws,h,e⟩:=bS (show (za6 xs).bind _=_ from e);obtain rfl:=sI e;rw [zei h];rfl
  | .inr _::_,_,e=>by exact noSome e
theorem zhc {xs:List (W ⊕ Nat)} (m:List Bool) (hm:(m.all fun b=>!b)=true) (h:xs.map isR=m):∃ws:List W,xs=ws.map Sum.inl:=by
  induction xs generalizing m with
  | nil=>exact ⟨[],rfl⟩
  | cons x xs ih =>
    cases m with
    | nil=>cases h
    | cons b m =>
      rw [List.map_cons] at h;injection h with h1 h2;rw [List.all_cons,Bool.and_eq_true] at hm;obtain ⟨ws,e⟩:=ih m hm.2 h2;cases x with
      | inl w=>exact ⟨w::ws,by rw [e];rfl⟩
      | inr i=>rw [<-h1] at hm;cases hm.1
theorem zea:∀{m:List Bool} (hm:(m.all fun b=>!b)=true) (ws:List W),ws.length=m.length->(ws.map fun _=>false)=m
  | [],_,[],_=>rfl
  | [],_,_::_,h=>by cases h
  | _::_,_,[],h=>by cases h
  | b::m,hm,w::ws,h=>by
    rw [List.all_cons,Bool.and_eq_true] at hm;rw [List.map_cons,zea hm.2 ws (by simpa using h)];cases b with
    | false=>rfl
    | true=>cases hm.1
theorem zby (m:List Bool) (Φ:Fn) (as:GAs) (en:En) (hm:(m.all fun b=>!b)=true):zae m Φ as en=(as en).bind fun p=>(za6 p.2).bind fun ws=>if ws.length=m.length then (Φ ws).bind fun q=>if q.1.length=m.length then some (p.1,q.2) else none else none:=by
  cases ha:as en with
  | none=>unfold zae;rw [ha];rfl
  | some p =>
    obtain ⟨e1,xs⟩:=p;show _=(za6 xs).bind _;cases hf:za6 xs with
    | none =>
      unfold zae;rw [ha];show (if (decide (xs.map isR=m) && _ && _)=true then _ else none)=none;rw [decide_eq_false (fun z=>by obtain ⟨ws,e⟩:=zhc m hm z;rw [e,zc8] at hf;cases hf)]
      rfl
    | some ws =>
      have ex:=zei hf;subst ex;show _=if ws.length=m.length then _ else none;by_cases hl:ws.length=m.length
      · rw [if_pos hl]
        have h1:=zea hm ws hl;cases hq:Φ ws with
        | none =>
          unfold zae;rw [ha];show (if (decide ((ws.map Sum.inl).map isR=m) && zak e1 (ws.map Sum.inl) && zbl (zau (ws.map Sum.inl)))=true then _ else _)=_;have e:(ws.map Sum.inl).map isR=m:=by rw [<-h1,List.map_map];rfl
          rw [decide_eq_true e,zc0,zep];show (zar e1 (ws.map Sum.inl)).bind _=_;rw [zba];show (Φ ws).bind _=_;rw [hq]
          rfl
        | some q =>
          obtain ⟨ws',r⟩:=q;show _=if ws'.length=m.length then some (e1,r) else none;by_cases hl2:ws'.length=m.length
          · rw [if_pos hl2]
            exact zm2 ha h1 hq (by omega)
          · rw [if_neg hl2]
            unfold zae;rw [ha];show (if (decide ((ws.map Sum.inl).map isR=m) && zak e1 (ws.map Sum.inl) && zbl (zau (ws.map Sum.inl)))=true then _ else _)=_;have e:(ws.map Sum.inl).map isR=m:=by rw [<-h1,List.map_map];rfl
            rw [decide_eq_true e,zc0,zep];show (zar e1 (ws.map Sum.inl)).bind _=_;rw [zba];show (Φ ws).bind _=_;rw [hq];show (if ws'.length=m.length then _ else none)=none;rw [if_neg hl2]
      · rw [if_neg hl]
        unfold zae;rw [ha];show (if (decide ((ws.map Sum.inl).map isR=m) && _ && _)=true then _ else none)=none;rw [decide_eq_false (fun z=>hl (by rw [<-z,List.length_map,List.length_map]))]
        rfl
theorem zck (m:List Bool) (Φ:Fn) (as:GAs) (en:En) (hm:(m.all fun b=>!b)=true):zae (true::m) Φ as en=(as en).bind fun p=>match p.2 with
    | .inr i::xs=>(za6 xs).bind fun ws=>(match p.1[i]? with
      | some (some (st,true))=>if ws.length=m.length then (Φ (st::ws)).bind fun q=>(match q.1 with
        | st' :: wz=>if wz.length=m.length then some (p.1.set i (some (st',true)),q.2) else none
        | []=>none) else none
      | _=>none)
    | _=>none:=by
  cases ha:as en with
  | none=>unfold zae;rw [ha];rfl
  | some p =>
    obtain ⟨e1,xs⟩:=p;have base:zae (true::m) Φ as en=if decide (xs.map isR=true::m) && zak e1 xs && zbl (zau xs) then (zar e1 xs).bind fun ws=>(Φ ws).bind fun q=>if q.1.length=(true::m).length then some (zaw (zau xs) e1 (zav (true::m) q.1),q.2) else none else none:=by
      unfold zae;rw [ha];rfl
    have bad:xs.map isR≠true::m->zae (true::m) Φ as en=none:=fun z=>by rw [base,decide_eq_false z];rfl
    have bad2:zak e1 xs=false->zae (true::m) Φ as en=none:=fun z=>by rw [base,z,Bool.and_false];rfl
    simp only [Option.bind_some]
    match xs,ha,base,bad,bad2 with
    | [],ha,_,bad,_=>rw [bad (by simp)]
    | .inl w::xs,ha,_,bad,_=>rw [bad (by simp [isR])]
    | .inr i::xs,ha,base,bad,bad2 =>
      simp only;cases hf:za6 xs with
      | none=>rw [bad (fun z=>by
          rw [List.map_cons] at z;injection z with _ z;obtain ⟨ws,e⟩:=zhc m hm z;rw [e,zc8] at hf;cases hf)];rfl
      | some ws =>
        have ex:=zei hf;subst ex;simp only [Option.bind_some];have no:(∀st,e1[i]?≠some (some (st,true)))->zak e1 (.inr i::ws.map Sum.inl)=false:=fun z=>by
          unfold zak;rw [List.all_cons];have:(match e1[i]? with | some (some (_,true))=>true | _=>false)=false:=by
            split
            · rename_i q;exact absurd q (z _)
            · rfl
          simp only [this,Bool.false_and]
        split
        · rename_i st hst
          by_cases hl:ws.length=m.length
          · rw [if_pos hl]
            have h1:=zea hm ws hl;cases hq:Φ (st::ws) with
            | none =>
              rw [base];split
              · have rs:zar e1 (.inr i::ws.map Sum.inl)=some (st::ws):=by
                  show (resA e1 (.inr i)).bind _=_;have:resA e1 (.inr i)=some st:=by unfold resA;simp only [hst]
                  rw [this];show (zar e1 (ws.map Sum.inl)).bind _=_;rw [zba]
                  rfl
                rw [rs];show (Φ (st::ws)).bind _=_;rw [hq]
                rfl
              · rfl
            | some q =>
              obtain ⟨ws',r⟩:=q;simp only [Option.bind_some];have nn:ws'.length≠(true::m).length->zae (true::m) Φ as en=none:=fun z=>by
                rw [base];split
                · have rs:zar e1 (.inr i::ws.map Sum.inl)=some (st::ws):=by
                    show (resA e1 (.inr i)).bind _=_;have:resA e1 (.inr i)=some st:=by unfold resA;simp only [hst]
                    rw [this];show (zar e1 (ws.map Sum.inl)).bind _=_;rw [zba]
                    rfl
                  rw [rs];show (Φ (st::ws)).bind _=_;rw [hq];show (if ws'.length=(true::m).length then _ else none)=none;rw [if_neg z]
                · rfl
              match ws',hq,nn with
              | [],hq,nn=>rw [nn (by simp)]
              | st' :: wz,hq,nn =>
                simp only;by_cases hl2:wz.length=m.length
                · rw [if_pos hl2]
                  exact zki ha (by rw [h1]) hst hq (by omega)
                · rw [if_neg hl2,nn (by simpa using hl2)]
          · rw [if_neg hl,bad (fun z=>hl (by
              have:=congrArg List.length z;simpa using this))]
        · rename_i hst
          exact bad2 (no fun st z=>hst st z)
end L2
namespace L2
open PySem PySem.Spec PyProof.Rows
theorem oI_e {c:Int->Int->Bool}{g:Int->Int->W}{i j:Int}:oI c g (.int i) (.int j)=if c i j then some (g i j,false) else none:=rfl
theorem zyh {i j:Int}:yes2 i j=true:=rfl
theorem zqo {ws:List W}:seqW (.tup ws)=some ws:=rfl
theorem zq8 {ws:List W}:seqW (.lst ws)=some ws:=rfl
theorem zpl {ws:List W}:seqL (.lst ws)=some ws:=rfl
theorem zze {a:W}{i:Int}:oIx a (.int i)=(seqW a).bind fun ws=>(atI ws i).bind fun w=>some (w,false):=by cases a<;>rfl
theorem zxa {en:En}{w:W}:resA en (.inl w)=some w:=rfl
theorem zv1 {en:En}{i:Nat}:resA en (.inr i)=match en[i]? with | some (some (w,_))=>some w | _=>none:=by
 unfold resA;rfl
theorem zy0 {i j:Int}:oEq (.int i) (.int j)=some (.bl (decide (i=j)),false):=rfl
theorem zza {i j:Int}:oNe (.int i) (.int j)=some (.bl (!decide (i=j)),false):=rfl
theorem zp7 {w:W}{xs:List (W ⊕ Nat)}:za6 (.inl w::xs)=(za6 xs).bind fun ws=>some (w::ws):=rfl
theorem zre:za6 []=some []:=rfl
theorem zux {en:En}{x:W ⊕ Nat}{xs:List (W ⊕ Nat)}:zar en (x::xs)=(resA en x).bind fun w=>(zar en xs).bind fun ws=>some (w::ws):=rfl
theorem zu2 {en:En}:zar en []=some []:=rfl
theorem zt1 {b:Bool}{m:List Bool}{w:W}{ws:List W}:zav (b::m) (w::ws)=some (w,b)::zav m ws:=rfl
theorem zuf {ws:List W}:zav [] ws=[]:=by unfold zav;simp
theorem zww {en:En}:zbr [] [] en=some []:=rfl
theorem zwm {m:List Bool}{w u:W}{ws:List W}{en:En}:zbr (true::m) (u::ws) (some (w,true)::en)=(zbr m ws en).bind fun r=>some (w::r):=rfl
theorem zxh {m:List Bool}{w:W}{ws:List W}{x:Option (W × Bool)}{en:En}:zbr (false::m) (w::ws) (x::en)=(zbr m ws en).bind fun r=>some (w::r):=rfl
theorem zy8 {x:W}{xs:List W}:atI (x::xs) 0=some x:=by
 have:=zcg (xs:=x::xs) (i:=0) rfl;exact this
theorem zyz {x y:W}{xs:List W}:atI (x::y::xs) 1=some y:=by
 have:=zcg (xs:=x::y::xs) (i:=1) rfl;exact this
theorem zy9 {x y z:W}{xs:List W}:atI (x::y::z::xs) 2=some z:=by
 have:=zcg (xs:=x::y::z::xs) (i:=2) rfl;exact this
theorem zpc {n:Nat}:((no_index (OfNat.ofNat n):Nat):Int)=(OfNat.ofNat n:Int):=rfl
theorem zpe {xs ys:List W}:oAdd (.lst xs) (.lst ys)=if xs.length+ys.length<=sizeLine then some (.lst (xs++ys),true) else none:=by
 by_cases h:xs.length+ys.length<=sizeLine
 ·rw [if_pos h];exact zsk h
 ·rw [if_neg h];show oOr oCat (oOr zpv (oOr zuk zqm)) (.lst xs) (.lst ys)=none;have e:oCat (.lst xs) (.lst ys)=none:=by
   show (if xs.length+ys.length<=sizeLine then _ else none)=none;rw [if_neg h]
  unfold oOr;rw [e]
  rfl
theorem zja:oIsi .int .non=some (.bl false,false):=rfl
theorem zll {b:Bool}:oIsi .int (.bl b)=some (.bl true,false):=rfl
theorem zih {n:Int}:oIsi .int (.int n)=some (.bl true,false):=rfl
theorem zjc {x:Str}:oIsi .int (.str x)=some (.bl false,false):=rfl
theorem ziw {xs:List W}:oIsi .int (.tup xs)=some (.bl false,false):=rfl
theorem zh3 {xs:List W}:oIsi .int (.lst xs)=some (.bl false,false):=rfl
theorem zjb:oIsi .int .dic=some (.bl false,false):=rfl
theorem zhe:oIsi .bool .non=some (.bl false,false):=rfl
theorem zje {b:Bool}:oIsi .bool (.bl b)=some (.bl true,false):=rfl
theorem zg7 {n:Int}:oIsi .bool (.int n)=some (.bl false,false):=rfl
theorem zgi {x:Str}:oIsi .bool (.str x)=some (.bl false,false):=rfl
theorem zg2 {xs:List W}:oIsi .bool (.tup xs)=some (.bl false,false):=rfl
theorem zgp {xs:List W}:oIsi .bool (.lst xs)=some (.bl false,false):=rfl
theorem zho:oIsi .bool .dic=some (.bl false,false):=rfl
theorem ziz:oIsi .str .non=some (.bl false,false):=rfl
theorem zkl {b:Bool}:oIsi .str (.bl b)=some (.bl false,false):=rfl
theorem ziv {n:Int}:oIsi .str (.int n)=some (.bl false,false):=rfl
theorem zi7 {x:Str}:oIsi .str (.str x)=some (.bl true,false):=rfl
theorem ziy {xs:List W}:oIsi .str (.tup xs)=some (.bl false,false):=rfl
theorem zik {xs:List W}:oIsi .str (.lst xs)=some (.bl false,false):=rfl
theorem zig:oIsi .str .dic=some (.bl false,false):=rfl
theorem zfj:oIsi .tuple .non=some (.bl false,false):=rfl
theorem zhp {b:Bool}:oIsi .tuple (.bl b)=some (.bl false,false):=rfl
theorem zff {n:Int}:oIsi .tuple (.int n)=some (.bl false,false):=rfl
theorem zfc {x:Str}:oIsi .tuple (.str x)=some (.bl false,false):=rfl
theorem zfq {xs:List W}:oIsi .tuple (.tup xs)=some (.bl true,false):=rfl
theorem zft {xs:List W}:oIsi .tuple (.lst xs)=some (.bl false,false):=rfl
theorem zfp:oIsi .tuple .dic=some (.bl false,false):=rfl
theorem zf5:oIsi .list .non=some (.bl false,false):=rfl
theorem zjg {b:Bool}:oIsi .list (.bl b)=some (.bl false,false):=rfl
theorem zga {n:Int}:oIsi .list (.int n)=some (.bl false,false):=rfl
theorem zhq {x:Str}:oIsi .list (.str x)=some (.bl false,false):=rfl
theorem zgy {xs:List W}:oIsi .list (.tup xs)=some (.bl false,false):=rfl
theorem zhk {xs:List W}:oIsi .list (.lst xs)=some (.bl true,false):=rfl
theorem zgg:oIsi .list .dic=some (.bl false,false):=rfl
theorem zyq {i j:Bool}:oEq (.bl i) (.bl j)=some (.bl (decide (i=j)),false):=rfl
theorem zy3 {i j:Bool}:oNe (.bl i) (.bl j)=some (.bl (!decide (i=j)),false):=rfl
theorem zzr {i j:Str}:oEq (.str i) (.str j)=some (.bl (decide (i=j)),false):=rfl
theorem zzp {i j:Str}:oNe (.str i) (.str j)=some (.bl (!decide (i=j)),false):=rfl
theorem zyr {i j:Bool}:oIs (.bl i) (.bl j)=some (.bl (decide (i=j)),false):=rfl
theorem zv6 {f:List Bool->Bool}{bs:List Bool}:oBl f [.lst (bs.map W.bl)]=some (.bl (f bs),false):=by
 show (zi0 (bs.map W.bl)).bind _=_;rw [zgb];rfl
theorem znx {cap:Cap}{it:GL}{te:GE}{en e0:En}{ws rs:List W}{xs:En} (hi:it en=some (e0,ws)) (hz:ws.length<=1000) (hl:rs.length=ws.length) (hn:zbl cap=true) (hk:(capKeep cap).contains 1=false) (hx:zdp cap e0=none::none::xs) (hb:∀v0 v1,zaw cap e0 (v0::v1::xs)=e0)
  (ht:∀(i:Nat) v0 w r,ws[i]?=some w->rs[i]?=some r->∃u f,te (v0::some (w,false)::xs)=some (v0::u::xs,(r,f))) :
  ze2 cap (.nm 1) it gYes te en=some (e0,(.lst rs,true)):=by
 have s9:(1000:Nat)<=sizeLine:=by decide
 obtain ⟨ce',out,hc,hp⟩:=zkj (cap:=cap) (T:=.nm 1) (tc:=gYes) (te:=te) (fun i c dn=>(∃v0 v1,c=v0::v1::xs)/\dn=rs.take i) hi hn (by omega) ⟨⟨_,_,hx⟩,rfl⟩
  (fun i w c dn hw hp=>by
   obtain ⟨⟨v0,v1,rfl⟩,rfl⟩:=hp;have lt:i < ws.length:=(List.getElem?_eq_some_iff.mp hw).1;have hr:rs[i]?=some rs[i]:=List.getElem?_eq_getElem (by omega);obtain ⟨u,f,h⟩:=ht i v0 w _ hw hr;refine ⟨v0::some (w,false)::xs,?_,.inl ⟨_,_,_,rfl,h,⟨_,_,rfl⟩,?_⟩⟩
   ·show (if (capKeep cap).contains 1 || !decide (1 < (v0 :: v1 :: xs).length) then none else _) = _;rw [hk,decide_eq_true (by rw [List.length_cons,List.length_cons];omega)]
    rfl
   ·show rs.take i ++ [rs[i]] = rs.take (i + 1);rw [List.take_succ,hr];rfl)
 obtain ⟨⟨v0,v1,rfl⟩,rfl⟩:=hp;rw [hb,<-hl,List.take_length] at hc;exact hc
theorem zc1 {T:List Fd}{bn:List Str}{d:Nat}{x:Str}{t:Fd}{g:GS} (h:T.find? (·.nm == x)=some t) (hb:za5 T bn (sem T bn (d+2)) (d+2) t=some g):sem T bn (d+3) x=zal t.m t.N.length g:=by
 show (match T.find? (·.nm == x) with | some t=>fnAt T bn (sem T bn (d+2)) (d+2) t | none=>fun _=>none)=_;rw [h];show fnAt T bn (sem T bn (d+2)) (d+2) t=_;unfold fnAt;rw [hb]
noncomputable def evA:=And.intro @oI_e ( And.intro @zyh ( And.intro @zng ( And.intro @zpe ( And.intro @zqo ( And.intro @zq8 ( And.intro @zpl ( And.intro @zze ( And.intro @zxa ( And.intro @zv1 ( And.intro @zy0 ( And.intro @zza ( And.intro @zyq ( And.intro @zy3 ( And.intro @zzr ( And.intro @zzp ( And.intro @zyr ( And.intro @zv6 ( And.intro @zp7 ( And.intro @zre ( And.intro @zux ( And.intro @zu2 ( And.intro @zt1 ( And.intro @zuf ( And.intro @zww ( And.intro @zwm ( And.intro @zxh ( And.intro (fun Φ as en=>zby [false] Φ as en rfl) ( And.intro (fun Φ as en=>zby [false,false] Φ as en rfl) ( And.intro (fun Φ as en=>zby [false,false,false] Φ as en rfl) ( And.intro (fun Φ as en=>zby [false,false,false,false] Φ as en rfl) ( And.intro (fun Φ as en=>zck [] Φ as en rfl) ( And.intro (fun Φ as en=>zck [false] Φ as en rfl) ( And.intro (fun Φ as en=>zck [false,false] Φ as en rfl) ( And.intro (fun Φ as en=>zck [false,false,false] Φ as en rfl) ( And.intro @zy8 ( And.intro @zyz ( And.intro @zy9 ( And.intro @sizeLine_eq ( And.intro @zja ( And.intro @zll ( And.intro @zih ( And.intro @zjc ( And.intro @ziw ( And.intro @zh3 ( And.intro @zjb ( And.intro @zhe ( And.intro @zje ( And.intro @zg7 ( And.intro @zgi ( And.intro @zg2 ( And.intro @zgp ( And.intro @zho ( And.intro @ziz ( And.intro @zkl ( And.intro @ziv ( And.intro @zi7 ( And.intro @ziy ( And.intro @zik ( And.intro @zig ( And.intro @zfj ( And.intro @zhp ( And.intro @zff ( And.intro @zfc ( And.intro @zfq ( And.intro @zft ( And.intro @zfp ( And.intro @zf5 ( And.intro @zjg ( And.intro @zga ( And.intro @zhq ( And.intro @zgy ( And.intro @zhk ( And.intro @zgg ( And.intro @zpc ( And.intro @Option.bind_some.{0,0} ( And.intro @Option.bind_none.{0,0} ( And.intro @List.length_cons.{0} ( And.intro @List.length_nil.{0} ( And.intro @List.getElem?_cons_zero.{0} ( And.intro @List.getElem?_cons_succ.{0} ( And.intro @List.set_cons_zero.{0} ( And.intro @List.set_cons_succ.{0} ( And.intro @List.nil_append.{0} ( And.intro @List.cons_append.{0} ( And.intro @List.contains_nil.{0} ( And.intro @Bool.false_or ( And.intro @Bool.or_false ( And.intro @Bool.not_true ( And.intro @Bool.not_false ( And.intro @Nat.zero_add ( And.intro @Nat.lt_add_one ( And.intro @Nat.zero_lt_succ ( And.intro @decide_true ( And.intro @decide_false ( And.intro @decide_eq_true_eq ( And.intro @List.elem_nil.{0} ( And.intro @List.elem_cons.{0} ( And.intro @Bool.false_eq_true ( And.intro @Bool.true_eq_false ( And.intro @Bool.or_self ( And.intro @Bool.and_self ( And.intro @Bool.true_and ( And.intro @Bool.false_and ( And.intro @Bool.and_true ( And.intro @Bool.and_false ( And.intro @Bool.true_or ( And.intro @Bool.or_true ( And.intro @Int.toNat_natCast ( And.intro @gVar.eq_1 ( And.intro @zaa.eq_1 ( And.intro @gC.eq_1 ( And.intro @gArg.eq_1 ( And.intro @gA0.eq_1 ( And.intro @gCns.eq_1 ( And.intro @gOp1.eq_1 ( And.intro @gOp2.eq_1 ( And.intro @gOpN.eq_1 ( And.intro @zam.eq_1 ( And.intro @gAnd.eq_1 ( And.intro @gOr.eq_1 ( And.intro @gNot.eq_1 ( And.intro @zez.eq_1 ( And.intro @gOrT.eq_1 ( And.intro @zkz.eq_1 ( And.intro @gIf.eq_1 ( And.intro @zgv.eq_1 ( And.intro @za8.eq_1 ( And.intro @zyn.eq_1 ( And.intro @zbm.eq_1 ( And.intro @zeo.eq_1 ( And.intro @gSl.eq_1 ( And.intro @zeu.eq_1 ( And.intro @zc9.eq_1 ( And.intro @zzm.eq_1 ( And.intro @gRev.eq_1 ( And.intro @zco.eq_1 ( And.intro @gBrk.eq_1 ( And.intro @gCnt.eq_1 ( And.intro @gSeq.eq_1 ( And.intro @gRet.eq_1 ( And.intro @zyu.eq_1 ( And.intro @gIfS.eq_1 ( And.intro @zd3.eq_1 ( And.intro @gSet.eq_1 ( And.intro @gAsg.eq_1 ( And.intro @gPar.eq_1 ( And.intro @zax.eq_1 ( And.intro @gApp.eq_1 ( And.intro @gExt.eq_1 ( And.intro @gAug.eq_1 ( And.intro @gYes.eq_1 ( And.intro @zcq.eq_1 ( And.intro @gZip.eq_1 ( And.intro @zlm.eq_1 ( And.intro @zal.eq_1 ( And.intro @zzq.eq_1 (@zy4.eq_1)))))))))))))))))))))))))))))))))))))))))))))))))))))))))))))))))))))))))))))))))))))))))))))))))))))))))))))))))))))))))))))))))))))))))))))))))))))))))))))
end L2
local macro_rules | `(tactic| simp! [$xs,*])=>`(tactic| simp only [L2.evA,L2.tgSet,L2.keyW,L2.oNeg,L2.oLen,L2.setAll,List.replicate,List.contains,eq_self,Nat.reduceAdd,Nat.reduceSub,Nat.reduceLT,Nat.reduceLeDiff,reduceIte,reduceCtorEq,Nat.reduceEqDiff,Nat.reduceBEq,↓reduceIte,Int.reduceEq,Int.reduceLE,Int.reduceLT,Int.reduceAdd,Int.reduceSub,Int.reduceMul,Int.reduceNeg,$xs,*])
namespace L2
open PySem PySem.Spec PyProof.Rows
end L2
namespace L2
open PySem PySem.Spec PyProof.Rows
theorem zjh {a:GA}{en e1:En}{n:Nat} (h:a en=some (e1,.inl (.int (n:Nat)))) (hn:n<=1000000):zc9 (gCns a gA0) en=some (e1,rngW 0 n):=by
 have r:zc5 (n:Int)=true:=by
  unfold zc5;rw [decide_eq_true (by omega),decide_eq_true (by omega)];rfl
 have h2:gCns a gA0 en=some (e1,[.inl (.int (n:Nat))]):=by unfold gCns;rw [h];rfl
 have:=zs8 h2 rfl r;rw [Int.toNat_natCast] at this;exact this
theorem pow1 {l:Nat} (h:l<=100):cPow 1 (l:Int)=true:=by
 unfold cPow;rw [decide_eq_true (by omega),decide_eq_true (by omega)];rfl
theorem zay (l:Nat):(1:Int) * 2 ^ l=((2 ^ l:Nat):Int):=by rw [Int.one_mul];norm_cast
theorem zqg (l:Nat):(((2 ^ l:Nat):Int)).natAbs.log2=l:=by
 rw [Int.natAbs_natCast];exact Nat.log2_two_pow
theorem divP {p:Int}{l:Nat} (h:l<=100):cDiv p ((2 ^ l:Nat):Int)=true:=by
 unfold cDiv;have:0 < 2 ^ l:=Nat.pow_pos (by decide);rw [decide_eq_true (by omega),decide_eq_true (by rw [zqg];omega)];rfl
theorem zh7 {m:Nat} (h:m<=6):2 ^ m<=64:=Nat.pow_le_pow_right (by decide) h
end L2
namespace L2
open PySem PySem.Spec PyProof.Rows
end L2
namespace L2
open PySem PySem.Spec PyProof.Rows
theorem zj9 {c:Nat}:∀{ts:List Str},(∀t∈ts,t.length<=c)->piled ts<=(c+2) * ts.length
  | [],_=>by rw [piled_nil];omega
  | t::ts,h=>by
    have h1:=h t (List.mem_cons_self ..);have h2:=zj9 (c:=c) (ts:=ts) fun x hx=>h x (List.mem_cons_of_mem _ hx);rw [piled_cons,List.length_cons,Nat.mul_succ];omega
theorem ze9 {c:Nat}{ts:List Str} (h:∀t∈ts,t.length<=c):(tupleText ts).length<=(c+2) * ts.length+3:=by
 have hp:=zj9 h;have hj:(Str.join ", " ts).length<=piled ts:=by
  cases ts with
  | nil=>exact Nat.zero_le _
  | cons x xs=>have:=join_length_add (x::xs) (by simp);omega
 unfold tupleText;rw [Str.length_append,Str.length_append];have a:(Str.ofString "(").length=1:=by decide
 have b:(Str.ofString (if (ts.length == 1)=true then ",)" else ")")).length<=2:=by
  split
  ·decide
  ·decide
 omega
theorem zb8 {α:Type} (f:α->PyData):∀l:List α,PyData.shownAll (l.map f)=l.map fun x=>(f x).shown
 | []=>rfl
 | x::l=>by rw [List.map_cons,PyData.shownAll,zb8 f l];rfl
theorem showAll_map {α:Type} (f:α->PyData):∀l:List α,(∀x∈l,(f x).showable=true)->PyData.showableAll (l.map f)=true
 | [],_=>rfl
 | x::l,h=>by rw [List.map_cons,PyData.showableAll,h x (List.mem_cons_self ..),showAll_map f l fun y hy=>h y (List.mem_cons_of_mem _ hy)];rfl
theorem dictAll_map {α:Type} (f:α->PyData):∀l:List α,(∀x∈l,(f x).hasDict=false)->PyData.hasDictAll (l.map f)=false
 | [],_=>rfl
 | x::l,h=>by rw [List.map_cons,PyData.hasDictAll,h x (List.mem_cons_self ..),dictAll_map f l fun y hy=>h y (List.mem_cons_of_mem _ hy)];rfl
theorem depAll_map {α:Type}{c:Nat} (f:α->PyData):∀l:List α,(∀x∈l,(f x).depth<=c)->PyData.depthAll (l.map f)<=c
  | [],_=>Nat.zero_le _
  | x::l,h=>by
    rw [List.map_cons,PyData.depthAll];have:=h x (List.mem_cons_self ..);have:=depAll_map f l fun y hy=>h y (List.mem_cons_of_mem _ hy);omega
theorem layAll_map {α:Type} (f:α->PyData):∀l:List α,(∀x∈l,(f x).canLay0=true)->PyData.canLayAll0 (l.map f)=true
 | [],_=>rfl
 | x::l,h=>by rw [List.map_cons,PyData.canLayAll0,h x (List.mem_cons_self ..),layAll_map f l fun y hy=>h y (List.mem_cons_of_mem _ hy)];rfl
theorem zmd {α:Type} (f:α->W) (g:α->PyData) (h:∀x,dW (f x)=some (g x)):∀l:List α,dWs (l.map f)=some (l.map g)
 | []=>rfl
 | x::l=>by rw [List.map_cons,dWs,h x,zmd f g h l];rfl
noncomputable def zex (n:Int):Prop:=n.natAbs.log2 < 1920
noncomputable def ndI (ns:List Int):PyData:=.tuple (ns.map .int)
theorem ztw (ns:List Int):dW (.tup (ns.map W.int))=some (ndI ns):=by
 rw [dW,zmd W.int .int (fun _=>by rw [dW]) ns];rfl
theorem zvv {ns:List Int} (h:∀n∈ns,zex n):(ndI ns).showable=true/\(ndI ns).hasDict=false/\(ndI ns).depth<=1/\(ndI ns).canLay0=true/\(ndI ns).shown.length<=1923 * ns.length+3:=by
 refine ⟨?_,?_,?_,?_,?_⟩
 ·unfold ndI;rw [PyData.showable];exact showAll_map _ _ fun n hn=>by rw [PyData.showable];exact decide_eq_true (h n hn)
 ·unfold ndI;rw [PyData.hasDict];exact dictAll_map _ _ fun n hn=>by rw [PyData.hasDict]
 ·unfold ndI; rw [PyData.depth]; have := depAll_map (c := 0) PyData.int ns fun n hn => by rw [PyData.depth]; exact Nat.le_refl _
  omega
 ·unfold ndI;rw [PyData.canLay0];exact layAll_map _ _ fun n hn=>by rw [PyData.canLay0]
 ·unfold ndI;rw [PyData.shown,zb8];have:=ze9 (c:=1921) (ts:=ns.map fun x=>(PyData.int x).shown) fun t ht=>by
   obtain ⟨n,hn,rfl⟩:=List.mem_map.mp ht;rw [PyData.shown];exact int_text_len_1921 (h n hn)
  rw [List.length_map] at this;exact this
theorem zq7 {n:Int}{k:Nat} (h:n.natAbs < 2 ^ k) (hk:k<=1919):zex n:=by
 unfold zex;by_cases z:n.natAbs=0
 ·rw [z];decide
 ·have := (Nat.log2_lt z).mpr h;omega
end L2
namespace L2
open PySem PySem.Spec PyProof.Rows
theorem and1 {a:Int} (h:0<=a):Builtin.bitAnd a 1=a % 2:=by
 have b:Bit (a % 2):=by unfold Bit;omega
 have s:=zfi (a:=a / 2) (b:=0) (by omega) (Int.le_refl 0) b (show Bit 1 from .inr rfl);rw [bitAnd_zero] at s;have e:(2 * 0+1:Int)=1:=rfl;have e2:2 * (a / 2)+a % 2=a:=by omega
 rw [e,e2] at s;rw [s];omega
end L2
namespace L2
open PySem PySem.Spec PyProof.Rows
theorem getD_bit {xs:List Int} (h:Bits xs) (q:Nat):Bit (xs.getD q 0):=by
 rw [List.getD_eq_getElem?_getD];cases e:xs[q]? with
 | none=>exact .inl rfl
 | some x=>exact h x (List.mem_of_getElem? e)
end L2
namespace My
open PySem PySem.Spec PyProof.Rows L2
noncomputable def top (i:Nat):Stmt:=PySem.Challenge.pw_yesnowords_k72_words_written_and_read.main.body.getD i (.Pass ⟨0,0,0,0⟩)
noncomputable def zjl:Fd:=⟨"says",["word","place"],["word","place"],[false,false],top 1⟩
noncomputable def zcv:Fd:=⟨"word_at",["some"],["some","word","place"],[false],top 2⟩
noncomputable def zbj:Fd:=⟨"heard_text",["many","word","lost"],["many","word","lost"],[false,false,false],top 4⟩
noncomputable def zb3:Fd:=⟨"word_text",["many","word"],["many","word"],[false,false],top 5⟩
noncomputable def zbw:Fd:=⟨"places_of",["sign","text"],["sign","text"],[false,false],top 10⟩
noncomputable def zcj:Fd:=⟨"is_signs",["thing","size","signs"],["thing","size","signs"],[false,false,false],top 11⟩
noncomputable def zb4:Fd:=⟨"read_word",["many","text"],["many","text"],[false,false],top 12⟩
noncomputable def zbf:Fd:=⟨"read_heard",["many","text"],["many","text"],[false,false],top 13⟩
noncomputable def zb6:Fd:=⟨"_law_hand",["_law_script"],["_law_script","_law_state","_law_weighs","_law_cell","_law_k","_law_one"],[false],top 15⟩
noncomputable def zb2:Fd:=⟨"_law_take",["_law_state","_law_count"],["_law_state","_law_count","_law_digit","_law_mixed"],[true,false],top 16⟩
noncomputable def zbx:Fd:=⟨"_law_bits",["_law_state","_law_count"],["_law_state","_law_count","_law_way","_law_found","_law_k","_law_one"],[true,false],top 17⟩
noncomputable def zb1:Fd:=⟨"_law_word",["_law_bits_here"],["_law_bits_here","_law_found","_law_bit"],[false],top 18⟩
noncomputable def zao:Fd:=⟨"_law_word_text",["_law_many","_law_word_here"],["_law_many","_law_word_here"],[false,false],top 19⟩
noncomputable def zii:Fd:=⟨"law",["_law_script"],["_law_script","_law_state","_law_k","_law_many","_law_word_here","_law_text","_law_again"],[false],top 20⟩
noncomputable def T:List Fd:=[zjl,zcv,zbj,zb3,zbw,zcj,zb4,zbf,zb6,zb2,zbx,zb1,zao,zii]
noncomputable def bn:List Str:=["abs","all","enumerate","int","isinstance","len","max","min","range","repr","reversed","str","t _law_text","t _law_word_text","t heard_text","t signs","t text","t thing","t word_text","tuple"]
noncomputable def zru (Ψ:Str->Fn):GS:=(gRet (gOp2 (oI yes2 fun i j=>.int (Builtin.bitAnd i j)) (gArg (gOp2 (oI (fun _ j=>decide (0<=j)) fun i j=>.int (i / 2 ^ j.toNat)) (zaa 0) (zaa 1))) (gArg (gC (.int 1)))))
theorem zvr (Ψ:Str->Fn) (d:Nat):za5 T bn Ψ (d+2) zjl=some (zru Ψ):=by kernel_rfl
theorem zwc:T.find? (·.nm == ("says" : Str))=some zjl:=by kernel_rfl
theorem zxg (d:Nat):sem T bn (d+3) "says" = zal [false,false] 2 (zru (sem T bn (d+2))):=zc1 zwc (zvr _ d)
noncomputable def zko (Ψ:Str->Fn):GS:=(gAug [] (oI yes2 fun i j=>.int (Builtin.bitOr i j)) 1 (gArg (gOp2 (oI cPow fun i j=>.int (i * 2 ^ j.toNat)) (gArg (gC (.int 1))) (zaa 2))))
noncomputable def zlp (Ψ:Str->Fn):GS:=gFor [] (.nm 2) (zeu (gVar 0)) (zko Ψ)
noncomputable def zg1 (Ψ:Str->Fn):GS:=(gSeq (gSet [] 1 (gC (.int 0))) (gSeq (zlp Ψ) (zcq [] 1)))
theorem zmc (Ψ:Str->Fn) (d:Nat):za5 T bn Ψ (d+2) zcv=some (zg1 Ψ):=by kernel_rfl
theorem znt:T.find? (·.nm == ("word_at" : Str))=some zcv:=by kernel_rfl
theorem zmw (d:Nat):sem T bn (d+3) "word_at" = zal [false] 3 (zg1 (sem T bn (d+2))):=zc1 znt (zmc _ d)
noncomputable def zb0 (Ψ:Str->Fn):GE:=ze2 [none,none,some 2,some 1] (.nm 1) (zc9 (gCns (gArg (gOp2 (oI cPow fun i j=>.int (i * 2 ^ j.toNat)) (gArg (gC (.int 1))) (zaa 0))) gA0)) gYes (gIf (zam (gOp2 (oIn false) (zaa 1) (zaa 2))) (gC (.str "?")) (gOpN zpq (gCns (gArg (zae [false,false] (Ψ "says") (gCns (gArg (gVar 3)) (gCns (gArg (gVar 1)) gA0)))) gA0)))
noncomputable def zbi (Ψ:Str->Fn):GS:=(gRet (zk3 "" (zb0 Ψ)))
theorem zhv (Ψ:Str->Fn) (d:Nat):za5 T bn Ψ (d+2) zbj=some (zbi Ψ):=by kernel_rfl
theorem zgu:T.find? (·.nm == ("heard_text" : Str))=some zbj:=by kernel_rfl
theorem zha (d:Nat):sem T bn (d+3) "heard_text" = zal [false,false,false] 3 (zbi (sem T bn (d+2))):=zc1 zgu (zhv _ d)
noncomputable def zbv (Ψ:Str->Fn):GS:=(gRet (zae [false,false,false] (Ψ "heard_text") (gCns (gArg (gVar 0)) (gCns (gArg (gVar 1)) (gCns (gArg (zgv gA0)) gA0)))))
theorem zib (Ψ:Str->Fn) (d:Nat):za5 T bn Ψ (d+2) zb3=some (zbv Ψ):=by kernel_rfl
theorem ziu:T.find? (·.nm == ("word_text" : Str))=some zb3:=by kernel_rfl
theorem zij (d:Nat):sem T bn (d+3) "word_text" = zal [false,false] 2 (zbv (sem T bn (d+2))):=zc1 ziu (zib _ d)
noncomputable def zb9 (Ψ:Str->Fn):GE:=ze2 [none,none,none,some 0] (.tp [1,2]) (zl4 (gVar 1)) (zam (gOp2 oEq (zaa 2) (zaa 3))) (gVar 1)
noncomputable def zbu (Ψ:Str->Fn):GS:=(gRet (gOpN zj8 (gCns (gArg (zb9 Ψ)) gA0)))
theorem zix (Ψ:Str->Fn) (d:Nat):za5 T bn Ψ (d+2) zbw=some (zbu Ψ):=by kernel_rfl
theorem zi9:T.find? (·.nm == ("places_of" : Str))=some zbw:=by kernel_rfl
theorem zi2 (d:Nat):sem T bn (d+3) "places_of" = zal [false,false] 2 (zbu (sem T bn (d+2))):=zc1 zi9 (zix _ d)
noncomputable def zcr (Ψ:Str->Fn):GE:=ze2 [none,none,some 2] (.nm 1) (zti (gVar 0)) gYes (gOp2 (oInS false) (zaa 1) (zaa 2))
noncomputable def zcn (Ψ:Str->Fn):GS:=(gRet (gAnd (gOp1 (oIsi .str) (zaa 0)) (gAnd (gOp2 oEq (gArg (gOpN zm0 (gCns (zaa 0) gA0))) (zaa 1)) (gOpN (oBl fun bs=>bs.all id) (gCns (gArg (zcr Ψ)) gA0)))))
theorem zln (Ψ:Str->Fn) (d:Nat):za5 T bn Ψ (d+2) zcj=some (zcn Ψ):=by kernel_rfl
theorem zle:T.find? (·.nm == ("is_signs" : Str))=some zcj:=by kernel_rfl
theorem zkp (d:Nat):sem T bn (d+3) "is_signs" = zal [false,false,false] 3 (zcn (sem T bn (d+2))):=zc1 zle (zln _ d)
noncomputable def zbt (Ψ:Str->Fn):GS:=(gSeq (gIfS (zkz (zam (zae [false,false,false] (Ψ "is_signs") (gCns (gArg (gVar 1)) (gCns (gArg (gOp2 (oI cPow fun i j=>.int (i * 2 ^ j.toNat)) (gArg (gC (.int 1))) (zaa 0))) (gCns (gArg (gC (.str "01"))) gA0)))))) zgm zco) (gRet (zae [false] (Ψ "word_at") (gCns (gArg (zae [false,false] (Ψ "places_of") (gCns (gArg (gC (.str "1"))) (gCns (gArg (gVar 1)) gA0)))) gA0))))
theorem zi1 (Ψ:Str->Fn) (d:Nat):za5 T bn Ψ (d+2) zb4=some (zbt Ψ):=by kernel_rfl
theorem zh9:T.find? (·.nm == ("read_word" : Str))=some zb4:=by kernel_rfl
theorem zi8 (d:Nat):sem T bn (d+3) "read_word" = zal [false,false] 2 (zbt (sem T bn (d+2))):=zc1 zh9 (zi1 _ d)
noncomputable def zbg (Ψ:Str->Fn):GS:=(gSeq (gIfS (zkz (zam (zae [false,false,false] (Ψ "is_signs") (gCns (gArg (gVar 1)) (gCns (gArg (gOp2 (oI cPow fun i j=>.int (i * 2 ^ j.toNat)) (gArg (gC (.int 1))) (zaa 0))) (gCns (gArg (gC (.str "01?"))) gA0)))))) zgm zco) (gRet (zgv (gCns (gArg (zae [false] (Ψ "word_at") (gCns (gArg (zae [false,false] (Ψ "places_of") (gCns (gArg (gC (.str "1"))) (gCns (gArg (gVar 1)) gA0)))) gA0))) (gCns (gArg (zae [false,false] (Ψ "places_of") (gCns (gArg (gC (.str "?"))) (gCns (gArg (gVar 1)) gA0)))) gA0)))))
theorem zgq (Ψ:Str->Fn) (d:Nat):za5 T bn Ψ (d+2) zbf=some (zbg Ψ):=by kernel_rfl
theorem zg4:T.find? (·.nm == ("read_heard" : Str))=some zbf:=by kernel_rfl
theorem zgw (d:Nat):sem T bn (d+3) "read_heard" = zal [false,false] 2 (zbg (sem T bn (d+2))):=zc1 zg4 (zgq _ d)
noncomputable def zg5 (Ψ:Str->Fn):GS:=(gSeq (zax 1 (gC (.int 0)) (gOp2 oAdd (gArg (gOp2 oIx (zaa 1) (gArg (gC (.int 0))))) (gArg (gOp2 oMult (gArg (gOp2 (oI (fun _ j=>decide (0 < j)) fun i j=>.int (i % j)) (gArg (gOpN oAbs (gCns (zaa 3) gA0))) (gArg (gOp2 (oI cPow fun i j=>.int (i ^ j.toNat)) (gArg (gC (.int 10))) (gArg (gC (.int 60))))))) (zaa 2))))) (gSet [] 2 (gOp2 oMult (zaa 2) (gArg (gOp2 (oI cPow fun i j=>.int (i ^ j.toNat)) (gArg (gC (.int 10))) (gArg (gC (.int 60))))))))
noncomputable def zhy (Ψ:Str->Fn):GS:=gFor [] (.nm 3) (zeu (gSl (zaa 0) zbm (zeo (gC (.int 63))))) (zg5 Ψ)
noncomputable def zgn (Ψ:Str->Fn):GS:=(gSeq (gSet [] 5 (gOp2 oAdd (gArg (gOp2 oAdd (gArg (gOp2 (oI (fun _ j=>decide (0 < j)) fun i j=>.int (i % j)) (zaa 3) (gArg (gC (.int 2305843009213693951))))) (gArg (gOp2 oMult (gArg (gC (.int 7919))) (zaa 4))))) (gArg (gC (.int 3))))) (zax 1 (gC (.int 1)) (gOp2 (oI (fun _ j=>decide (0 < j)) fun i j=>.int (i % j)) (gArg (gOp2 oAdd (gArg (gOp2 oMult (gArg (gOp2 oIx (zaa 1) (gArg (gC (.int 1))))) (gArg (gC (.int 48271))))) (zaa 5))) (gArg (gC (.int 2305843009213693951))))))
noncomputable def zg9 (Ψ:Str->Fn):GS:=gFor [] (.tp [4,3]) (zlm (gSl (zaa 0) zbm (zeo (gC (.int 63))))) (zgn Ψ)
noncomputable def zdv (Ψ:Str->Fn):GS:=(gSeq (gSet [] 1 (za8 (gCns (gArg (gC (.int 0))) (gCns (gArg (gC (.int 0))) (gCns (gArg (gC (.int 0))) gA0))))) (gSeq (gIfS (zez (zam (gOp2 (oI yes2 fun i j=>.bl (decide (j < i))) (gArg (gOpN oLen (gCns (zaa 0) gA0))) (gArg (gC (.int 0))))) (zam (gOp2 (oI yes2 fun i j=>.bl (decide (j<=i))) (gArg (gOp2 oIx (zaa 0) (gArg (gC (.int 0))))) (gArg (gOp2 (oI cPow fun i j=>.int (i ^ j.toNat)) (gArg (gC (.int 10))) (gArg (gC (.int 18)))))))) (gSeq (gSet [] 2 (gC (.int 1))) (zhy Ψ)) zco) (gSeq (zg9 Ψ) (zcq [] 1))))
theorem zin (Ψ:Str->Fn) (d:Nat):za5 T bn Ψ (d+2) zb6=some (zdv Ψ):=by kernel_rfl
theorem zh1:T.find? (·.nm == ("_law_hand" : Str))=some zb6:=by kernel_rfl
theorem ziq (d:Nat):sem T bn (d+3) "_law_hand" = zal [false] 6 (zdv (sem T bn (d+2))):=zc1 zh1 (zin _ d)
noncomputable def zd9 (Ψ:Str->Fn):GS:=(gSeq (gIfS (zam (gOp2 (oI yes2 fun i j=>.bl (decide (j < i))) (gArg (gOp2 oIx (zaa 0) (gArg (gC (.int 0))))) (gArg (gC (.int 0))))) (gSeq (gSet [0] 2 (gOp2 (oI (fun _ j=>decide (0 < j)) fun i j=>.int (i % j)) (gArg (gOp2 oIx (zaa 0) (gArg (gC (.int 0))))) (zaa 1))) (gSeq (zax 0 (gC (.int 0)) (gOp2 (oI cDiv fun i j=>.int (i / j)) (gArg (gOp2 oIx (zaa 0) (gArg (gC (.int 0))))) (zaa 1))) (zcq [0] 2))) zco) (gSeq (zax 0 (gC (.int 2)) (gOp2 oAdd (gArg (gOp2 oIx (zaa 0) (gArg (gC (.int 2))))) (gArg (gC (.int 1))))) (gSeq (gSet [0] 3 (gOp2 (oI (fun _ j=>decide (0 < j)) fun i j=>.int (i % j)) (gArg (gOp2 oMult (gArg (gOp2 oAdd (gArg (gOp2 oAdd (gArg (gOp2 oIx (zaa 0) (gArg (gC (.int 1))))) (gArg (gOp2 oMult (gArg (gOp2 oMult (gArg (gC (.int 65537))) (gArg (gOp2 oIx (zaa 0) (gArg (gC (.int 2))))))) (gArg (gOp2 oIx (zaa 0) (gArg (gC (.int 2))))))))) (gArg (gC (.int 11))))) (gArg (gC (.int 48271))))) (gArg (gC (.int 2305843009213693921))))) (gSeq (gSet [0] 3 (gOp2 (oI (fun _ j=>decide (0 < j)) fun i j=>.int (i % j)) (gArg (gOp2 oMult (zaa 3) (gArg (gOp2 oAdd (gArg (gOp2 (oI (fun _ j=>decide (0 < j)) fun i j=>.int (i % j)) (zaa 3) (gArg (gC (.int 1000003))))) (gArg (gOp2 oMult (gArg (gC (.int 99991))) (gArg (gOp2 oIx (zaa 0) (gArg (gC (.int 2))))))))))) (gArg (gC (.int 2305843009213693907))))) (gRet (gOp2 (oI (fun _ j=>decide (0 < j)) fun i j=>.int (i % j)) (gArg (gOp2 oAdd (gArg (gOp2 (oI cDiv fun i j=>.int (i / j)) (zaa 3) (gArg (gC (.int 97))))) (gArg (gOp2 (oI cDiv fun i j=>.int (i / j)) (zaa 3) (gArg (gC (.int 1000033))))))) (zaa 1)))))))
theorem zio (Ψ:Str->Fn) (d:Nat):za5 T bn Ψ (d+2) zb2=some (zd9 Ψ):=by kernel_rfl
theorem zic:T.find? (·.nm == ("_law_take" : Str))=some zb2:=by kernel_rfl
theorem zh5 (d:Nat):sem T bn (d+3) "_law_take" = zal [true,false] 4 (zd9 (sem T bn (d+2))):=zc1 zic (zio _ d)
noncomputable def zht (Ψ:Str->Fn):GS:=(gSeq (gSet [0] 5 (zae [true,false] (Ψ "_law_take") (gCns (zaa 0) (gCns (gArg (gOp2 oIx (gArg (za8 (gCns (gArg (gC (.int 2))) (gCns (gArg (gC (.int 5))) (gCns (gArg (gC (.int 5))) gA0))))) (zaa 2))) gA0)))) (zd3 (gApp 3 (gOp2 oIx (gArg (za8 (gCns (gArg (gVar 5)) (gCns (gArg (gOpN oInt (gCns (gArg (gOp2 oEq (zaa 5) (gArg (gC (.int 0))))) gA0))) (gCns (gArg (gOpN oInt (gCns (gArg (gOp2 (oI yes2 fun i j=>.bl (decide (j < i))) (zaa 5) (gArg (gC (.int 0))))) gA0))) gA0))))) (zaa 2)))))
noncomputable def zhd (Ψ:Str->Fn):GS:=gFor [0] (.nm 4) (zc9 (gCns (zaa 1) gA0)) (zht Ψ)
noncomputable def zdz (Ψ:Str->Fn):GS:=(gSeq (gSet [0] 2 (zae [true,false] (Ψ "_law_take") (gCns (zaa 0) (gCns (gArg (gC (.int 4))) gA0)))) (gSeq (gIfS (zam (gOp2 oEq (zaa 2) (gArg (gC (.int 3))))) (gRet (gOp2 oMult (gArg (za8 (gCns (gArg (zae [true,false] (Ψ "_law_take") (gCns (zaa 0) (gCns (gArg (gC (.int 2))) gA0)))) gA0))) (zaa 1))) zco) (gSeq (gSet [0] 3 (za8 gA0)) (gSeq (zhd Ψ) (zcq [0] 3)))))
theorem zi4 (Ψ:Str->Fn) (d:Nat):za5 T bn Ψ (d+2) zbx=some (zdz Ψ):=by kernel_rfl
theorem zi5:T.find? (·.nm == ("_law_bits" : Str))=some zbx:=by kernel_rfl
theorem zh4 (d:Nat):sem T bn (d+3) "_law_bits" = zal [true,false] 6 (zdz (sem T bn (d+2))):=zc1 zi5 (zi4 _ d)
noncomputable def zgx (Ψ:Str->Fn):GS:=(gSet [] 1 (gOp2 oAdd (gArg (gOp2 oMult (gArg (gC (.int 2))) (zaa 1))) (zaa 2)))
noncomputable def zf9 (Ψ:Str->Fn):GS:=gFor [] (.nm 2) (gRev (gVar 0)) (zgx Ψ)
noncomputable def zee (Ψ:Str->Fn):GS:=(gSeq (gSet [] 1 (gC (.int 0))) (gSeq (zf9 Ψ) (zcq [] 1)))
theorem zi3 (Ψ:Str->Fn) (d:Nat):za5 T bn Ψ (d+2) zb1=some (zee Ψ):=by kernel_rfl
theorem zir:T.find? (·.nm == ("_law_word" : Str))=some zb1:=by kernel_rfl
theorem zhz (d:Nat):sem T bn (d+3) "_law_word" = zal [false] 3 (zee (sem T bn (d+2))):=zc1 zir (zi3 _ d)
noncomputable def za0 (Ψ:Str->Fn):GE:=ze2 [none,none,some 1] (.nm 1) (zc9 (gCns (gArg (gOp2 (oI cPow fun i j=>.int (i * 2 ^ j.toNat)) (gArg (gC (.int 1))) (zaa 0))) gA0)) gYes (gOp2 oIxS (gArg (gC (.str "01"))) (gArg (gOp2 (oI (fun _ j=>decide (0 < j)) fun i j=>.int (i % j)) (gArg (gOp2 (oI cDiv fun i j=>.int (i / j)) (zaa 2) (gArg (gOp2 (oI cPow fun i j=>.int (i * 2 ^ j.toNat)) (gArg (gC (.int 1))) (zaa 1))))) (gArg (gC (.int 2))))))
noncomputable def zap (Ψ:Str->Fn):GS:=(gRet (zk3 "" (za0 Ψ)))
theorem zdq (Ψ:Str->Fn) (d:Nat):za5 T bn Ψ (d+2) zao=some (zap Ψ):=by kernel_rfl
theorem zdm:T.find? (·.nm == ("_law_word_text" : Str))=some zao:=by kernel_rfl
theorem zdo (d:Nat):sem T bn (d+3) "_law_word_text" = zal [false,false] 2 (zap (sem T bn (d+2))):=zc1 zdm (zdq _ d)
noncomputable def zjk (Ψ:Str->Fn):GS:=(gIfS (gOrT (zam (gOp2 oNe (gArg (gOpN zdk (gCns (gArg (zae [false,false] (Ψ "word_text") (gCns (gArg (gVar 3)) (gCns (gArg (gVar 4)) gA0)))) gA0))) (gArg (gOpN zdk (gCns (zaa 5) gA0))))) (zam (gOp2 oNe (gArg (gOpN zey (gCns (gArg (zae [false,false] (Ψ "read_word") (gCns (gArg (gVar 3)) (gCns (gArg (gVar 5)) gA0)))) gA0))) (gArg (gOpN zey (gCns (zaa 4) gA0)))))) (gRet (gC (.bl false))) zco)
noncomputable def L1_law (Ψ:Str->Fn):GS:=gFor [] (.nm 6) (zc9 (gCns (gArg (gC (.int 2))) gA0)) (zjk Ψ)
noncomputable def zjj (Ψ:Str->Fn):GS:=(gSeq (gSet [] 3 (gOp2 oIx (gArg (za8 (gCns (gArg (gOp2 oAdd (gArg (gC (.int 1))) (gArg (zae [true,false] (Ψ "_law_take") (gCns (zaa 1) (gCns (gArg (gC (.int 6))) gA0)))))) (gCns (gArg (gC (.int 6))) gA0)))) (gArg (gOpN oInt (gCns (gArg (gOp2 oEq (gArg (zae [true,false] (Ψ "_law_take") (gCns (zaa 1) (gCns (gArg (gC (.int 8))) gA0)))) (gArg (gC (.int 0))))) gA0))))) (gSeq (gSet [] 4 (zae [false] (Ψ "_law_word") (gCns (gArg (zae [true,false] (Ψ "_law_bits") (gCns (zaa 1) (gCns (gArg (gOp2 (oI cPow fun i j=>.int (i * 2 ^ j.toNat)) (gArg (gC (.int 1))) (zaa 3))) gA0)))) gA0))) (gSeq (gSet [] 5 (zae [false,false] (Ψ "_law_word_text") (gCns (gArg (gVar 3)) (gCns (gArg (gVar 4)) gA0)))) (gSeq (L1_law Ψ) (gIfS (gOrT (zam (gOp2 oNe (gArg (gOpN zdk (gCns (gArg (zae [false,false,false] (Ψ "heard_text") (gCns (gArg (gVar 3)) (gCns (gArg (gVar 4)) (gCns (gArg (zgv gA0)) gA0))))) gA0))) (gArg (gOpN zdk (gCns (zaa 5) gA0))))) (zam (gOp2 oNe (gArg (gOpN zey (gCns (gArg (zae [false,false] (Ψ "read_heard") (gCns (gArg (gVar 3)) (gCns (gArg (gVar 5)) gA0)))) gA0))) (gArg (gOpN zey (gCns (gArg (zgv (gCns (gArg (gVar 4)) (gCns (gArg (zgv gA0)) gA0)))) gA0)))))) (gRet (gC (.bl false))) zco)))))
noncomputable def zm8 (Ψ:Str->Fn):GS:=gFor [] (.nm 2) (zc9 (gCns (gArg (gOpN oMax (gCns (gArg (gC (.int 4))) (gCns (gArg (gOpN oMin (gCns (gArg (gC (.int 16))) (gCns (gArg (gOpN oLen (gCns (zaa 0) gA0))) gA0)))) gA0)))) gA0)) (zjj Ψ)
noncomputable def zt6 (Ψ:Str->Fn):GS:=(gSeq (gSet [] 1 (zae [false] (Ψ "_law_hand") (gCns (gArg (gVar 0)) gA0))) (gSeq (zm8 Ψ) (gRet (gAnd (gOp2 oEq (gArg (zae [false,false] (Ψ "word_text") (gCns (gArg (gC (.int 1))) (gCns (gArg (gC (.int 2))) gA0)))) (gArg (gC (.str "01")))) (gOp2 oEq (gArg (zae [false,false] (Ψ "read_word") (gCns (gArg (gC (.int 1))) (gCns (gArg (gC (.str "10"))) gA0)))) (gArg (gC (.int 1))))))))
theorem zzb (Ψ:Str->Fn) (d:Nat):za5 T bn Ψ (d+2) zii=some (zt6 Ψ):=by kernel_rfl
theorem zzf:T.find? (·.nm == ("law" : Str))=some zii:=by kernel_rfl
theorem zy2 (d:Nat):sem T bn (d+3) "law" = zal [false] 7 (zt6 (sem T bn (d+2))):=zc1 zzf (zzb _ d)
theorem zk9 {a b:GS}{en e1:En}{r:Option (En × Fl)} (h1:a en=some (e1,.nx)) (h2:b e1=r):gSeq a b en=r:=(seq_nx h1).trans h2
theorem zs6 {α:Type}{cap:Cap}{it:GL}{tc:GT}{te:GE}{en e0:En}{ts:List α}{xs:En} (a b:α->W) (p:α->Bool) (g:α->W) (hi:it en=some (e0,ts.map fun x=>.tup [a x,b x])) (hz:ts.length<=1000) (hn:zbl cap=true) (hk:∀v0 v1 v2 x,tgSet (capKeep cap) (.tp [1,2]) (.tup [a x,b x]) (v0::v1::v2::xs)=some (v0::some (a x,false)::some (b x,false)::xs)) (hx:zdp cap e0=none::none::none::xs) (hb:∀v0 v1 v2,zaw cap e0 (v0::v1::v2::xs)=e0)
    (ht:∀v0 x,x∈ts->tc (v0::some (a x,false)::some (b x,false)::xs)=some (v0::some (a x,false)::some (b x,false)::xs,p x)/\(p x=true->∃u1 u2 f,te (v0::some (a x,false)::some (b x,false)::xs)=some (v0::u1::u2::xs,(g x,f)))) :
    ze2 cap (.tp [1,2]) it tc te en=some (e0,(.lst ((ts.filter p).map g),true)):=by
  have s9:(1000:Nat)<=sizeLine:=by decide
  obtain ⟨ce',out,hc,⟨v0,v1,v2,rfl⟩,rfl⟩:=zkj (cap:=cap) (T:=.tp [1,2]) (tc:=tc) (te:=te) (fun i c dn=>(∃v0 v1 v2,c=v0::v1::v2::xs)/\dn=((ts.take i).filter p).map g) hi hn (by rw [List.length_map];omega) ⟨⟨_,_,_,hx⟩,rfl⟩ fun i w c dn hw hp=>by
    obtain ⟨⟨v0,v1,v2,rfl⟩,rfl⟩:=hp;rw [List.getElem?_map] at hw;cases ha:ts[i]? with
    | none=>rw [ha] at hw;exact noSome hw
    | some x =>
      rw [ha] at hw;obtain rfl:=sI hw;obtain ⟨h1,h2⟩:=ht v0 x (List.mem_of_getElem? ha);have tk:ts.take (i+1)=ts.take i++[x]:=by rw [List.take_succ,ha];rfl
      refine ⟨_,hk v0 v1 v2 x,?_⟩;cases q:p x with
      | true =>
        obtain ⟨u1,u2,f,h3⟩:=h2 q;rw [q] at h1;refine .inl ⟨_,_,_,h1,h3,⟨_,_,_,rfl⟩,?_⟩;rw [tk,List.filter_append,List.map_append,List.filter_cons_of_pos q];rfl
      | false =>
        rw [q] at h1;refine .inr ⟨_,h1,⟨_,_,_,rfl⟩,?_⟩;rw [tk,List.filter_append,List.filter_cons_of_neg (by rw [q];exact Bool.false_ne_true),List.filter_nil,List.append_nil]
  rw [hc,hb,List.length_map,List.take_length]
noncomputable def ndM (a:Int) (ns:List Int):PyData:=.tuple ([PyData.int a,ndI ns].map id)
noncomputable def mixT (a:Int) (ns:List Int):W:=.tup [.int a,.tup (ns.map W.int)]
theorem zxq (a:Int) (ns:List Int):dW (mixT a ns)=some (ndM a ns):=by
 unfold mixT;rw [dW,dWs,dWs,dWs,ztw,dW];rfl
theorem zyd {a:Int}{ns:List Int} (ha:zex a) (h:∀n∈ns,zex n) (hl:ns.length<=128):(ndM a ns).showable=true/\(ndM a ns).hasDict=false/\(ndM a ns).depth<=2/\(ndM a ns).canLay0=true/\(ndM a ns).shown.length<=600007:=by
 obtain ⟨h1,h2,h3,h4,h5⟩:=zvv h;have two:∀d∈[PyData.int a,ndI ns],d=.int a\/d=ndI ns:=fun d hd=>by
  rcases List.mem_cons.mp hd with h | h
  ·exact .inl h
  ·exact .inr (List.mem_singleton.mp h)
 refine ⟨?_,?_,?_,?_,?_⟩
 ·unfold ndM; rw [PyData.showable]; refine showAll_map _ _ fun n hn => ?_;rcases two n hn with rfl | rfl
  ·show (PyData.int a).showable = true;rw [PyData.showable];exact decide_eq_true ha
  ·exact h1
 ·unfold ndM; rw [PyData.hasDict]; refine dictAll_map _ _ fun n hn => ?_;rcases two n hn with rfl | rfl
  ·show (PyData.int a).hasDict = false;rw [PyData.hasDict]
  ·exact h2
 ·unfold ndM;rw [PyData.depth];have:=depAll_map (c:=1) id [PyData.int a,ndI ns] fun n hn=>by
   rcases two n hn with rfl | rfl
   ·show (PyData.int a).depth ≤ 1;rw [PyData.depth];decide
   ·exact h3
  omega
 ·unfold ndM; rw [PyData.canLay0]; refine layAll_map _ _ fun n hn => ?_;rcases two n hn with rfl | rfl
  ·show (PyData.int a).canLay0 = true;rw [PyData.canLay0]
  ·exact h4
 ·unfold ndM;rw [PyData.shown,zb8];have:=ze9 (c:=300000) (ts:=[PyData.int a,ndI ns].map fun x=>(id x).shown) fun t ht=>by
   obtain ⟨n,hn,rfl⟩:=List.mem_map.mp ht;rcases two n hn with rfl | rfl
   ·show (PyData.int a).shown.length ≤ _;rw [PyData.shown];have:=int_text_len_1921 ha;omega
   ·show (ndI ns).shown.length ≤ _;omega
  rw [List.length_map] at this;exact this
theorem zrc {a:Int}{ns:List Int} (ha:zex a) (h:∀n∈ns,zex n) (hl:ns.length<=128):∃s,zey [mixT a ns]=some (.str s,false):=by
 obtain ⟨h1,h2,h3,_,h4⟩:=zyd ha h hl;refine ⟨(ndM a ns).shown,?_⟩;show (dW (mixT a ns)).bind _=_;rw [zxq];show (if okD (ndM a ns) then _ else none)=_;have ok:okD (ndM a ns)=true:=by
  unfold okD;rw [h1,h2,decide_eq_true (by omega),decide_eq_true (by rw [sizeLine_eq];omega)];rfl
 rw [if_pos ok]
theorem zyi {n:Int} (h:zex n):zey [.int n]=some (.str (toString n),false):=by
 show (if n.natAbs.log2 < 1920 then _ else none)=_;rw [if_pos (show n.natAbs.log2 < 1920 from h)]
noncomputable def cF (f:Nat->Int) (M:List Nat) (i:Nat):Nat:=if i∈M then 63 else if f i=1 then 49 else 48
noncomputable def one (c:Nat):W:=.str ⟨#[c]⟩
noncomputable def csF (n:Nat) (f:Nat->Int) (M:List Nat):List Nat:=(List.range n).map (cF f M)
noncomputable def txF (n:Nat) (f:Nat->Int) (M:List Nat):Str:=⟨(csF n f M).toArray⟩
theorem zcw (n:Nat) (f:Nat->Int) (M:List Nat):(csF n f M).length=n:=by unfold csF;rw [List.length_map,List.length_range]
theorem zjm {n i:Nat}{f:Nat->Int}{M:List Nat} (h:i < n):(csF n f M)[i]?=some (cF f M i):=by unfold csF;rw [List.getElem?_map,List.getElem?_range h];rfl
theorem zwz (f:Nat->Int) (M:List Nat) (i:Nat):cF f M i=48\/cF f M i=49\/cF f M i=63:=by
 unfold cF;split
 ·exact .inr (.inr rfl)
 ·split
  ·exact .inr (.inl rfl)
  ·exact .inl rfl
theorem in_c (i:Nat) (M:List Nat):oIn false (.int (i:Nat)) (.tup (zan M))=some (.bl (decide (i∈M)),false):=by
  have h1:(zan M).all zd0=true:=by unfold zan;rw [List.all_map];exact List.all_eq_true.mpr fun _ _=>rfl
  have h2:((zan M).any fun y=>eqF y (.int (i:Nat)))=decide (i∈M):=by
    unfold zan;rw [List.any_map]
    induction M with
    | nil=>rfl
    | cons p M ih =>
      rw [List.any_cons,ih (by unfold zan;rw [List.all_map];exact List.all_eq_true.mpr fun _ _=>rfl)];show (((p:Int) == (i:Int)) || decide (i∈M))=_;by_cases e:p=i
      · subst e;simp
      · have : ((p : Int) == (i : Int)) = false := by rw [beq_eq_false_iff_ne]; omega
        rw [this,Bool.false_or];exact decide_eq_decide.mpr ⟨fun z=>List.mem_cons_of_mem _ z,fun z=>(List.mem_cons.mp z).resolve_left fun q=>e q.symm⟩
  show (if zd0 (.int (i:Nat)) && (zan M).all zd0 then some (W.bl ((zan M).any fun y=>eqF y (.int (i:Nat))),false) else none)=_;rw [h1,h2];rfl
theorem ztg {a:Int} (h:Bit a):zpq [.int a]=some (one (if a=1 then 49 else 48),false):=by
 rcases h with rfl | rfl
 ·kernel_rfl
 ·kernel_rfl
theorem zxn {a:Int} (h:Bit a):oIxS (.str "01") (.int a)=some (one (if a=1 then 49 else 48),false):=by
 rcases h with rfl | rfl
 ·kernel_rfl
 ·kernel_rfl
theorem zkc:∀cs:List Nat,zdi (cs.map one)=some (cs.map fun c=>(⟨#[c]⟩ : Str))
  | []=>rfl
  | c::cs=>by
    show (zdi (cs.map one)).bind _=_;rw [zkc cs];rfl
theorem zob:∀cs:List Nat,((cs.map fun c=>(⟨#[c]⟩ : Str)).map (·.length)).sum=cs.length
  | []=>rfl
  | c::cs=>by
    rw [List.map_cons,List.map_cons,List.sum_cons,zob cs,List.length_cons];show 1+_=_;omega
theorem zr9 {g:GE}{en e1:En}{cs:List Nat}{fl:Bool} (h:g en=some (e1,(.lst (cs.map one),fl))) (hz:cs.length<=1000):zk3 "" g en=some (e1,(.str ⟨cs.toArray⟩,false)):=by
 unfold zk3;rw [h];show (zdi (cs.map one)).bind _=_;rw [zkc];show (if ((cs.map fun c=>(⟨#[c]⟩ : Str)).map (·.length)).sum+(cs.map fun c=>(⟨#[c]⟩ : Str)).length * (Str.length "")<=16777216 then some (e1,(W.str (Txt.join "" (cs.map fun c=>(⟨#[c]⟩ : Str))),false)) else none)=_;rw [zob,show Str.length "" = 0 from rfl,if_pos (by omega)];have e:Txt.join "" (cs.map fun c=>(⟨#[c]⟩ : Str))=⟨cs.toArray⟩:=(StrLaws.glued_eq_join _ _).trans (join_ones cs);rw [e]
noncomputable def zdw (Φ:Fn):Prop:=∀(m:Nat) (f:Nat->Int) (M:List Nat),m<=6->(∀i,Bit (f i))->(∀i,2 ^ m<=i->f i=0)->Φ [.int (m:Nat),.int (zab (tab (2 ^ m) f)),.tup (zan M)]=some ([.int (m:Nat),.int (zab (tab (2 ^ m) f)),.tup (zan M)],(.str (txF (2 ^ m) f M),false))
theorem zp0 {Ψ:Str->Fn} (hS:zr0 (Ψ "says")):zdw (zal [false,false,false] 3 (zbi Ψ)):=fun m f M hm hf h0=>by
 have p6:=zh7 hm;have c:zb0 Ψ [some (.int (m:Nat),false),some (.int (zab (tab (2 ^ m) f)),false),some (.tup (zan M),false)]=some ([some (.int (m:Nat),false),some (.int (zab (tab (2 ^ m) f)),false),some (.tup (zan M),false)],(.lst ((csF (2 ^ m) f M).map one),true)):=by
  unfold zb0;refine znx (xs:=[some (.tup (zan M),false),some (.int (zab (tab (2 ^ m) f)),false)]) (e0:=[some (.int (m:Nat),false),some (.int (zab (tab (2 ^ m) f)),false),some (.tup (zan M),false)]) (ws:=rngW 0 (2 ^ m)) ?_ (by rw [zci];omega) (by rw [zci,List.length_map,zcw]) rfl rfl rfl (fun _ _=>rfl) fun i v0 w r hw hr=>?_
  ·have e1 := pow1 (l := m) (by omega);refine zjh ?_ (by omega);simp! [e1,zay]
  ·obtain ⟨li, rfl⟩ := rngW_get hw;rw [Int.zero_add] at *
   rw [List.getElem?_map,zjm li] at hr;obtain rfl:=sI hr;refine ⟨some (.int (i:Nat),false),false,?_⟩;have ic:=in_c i M;have sy:=hS (2 ^ m) i f hf h0;have sb:=ztg (hf i);by_cases q:i∈M
   ·rw [decide_eq_true q] at ic;have ec:one (cF f M i)=.str "?" := by unfold cF;rw [if_pos q];rfl
    rw [ec];simp! [ic]
   ·rw [decide_eq_false q] at ic;have ec:cF f M i=if f i=1 then 49 else 48:=by unfold cF;rw [if_neg q]
    rw [ec];simp! [ic,sy,sb]
 unfold zbi;exact zc2 rfl (zjp (zr9 c (by rw [zcw];omega))) rfl
noncomputable def zeh (Φ:Fn):Prop:=∀(m:Nat) (f:Nat->Int),m<=6->(∀i,Bit (f i))->(∀i,2 ^ m<=i->f i=0)->Φ [.int (m:Nat),.int (zab (tab (2 ^ m) f))]=some ([.int (m:Nat),.int (zab (tab (2 ^ m) f))],(.str (txF (2 ^ m) f []),false))
theorem zum {Ψ:Str->Fn} (hH:zdw (Ψ "heard_text")):zeh (zal [false,false] 2 (zbv Ψ)):=fun m f hm hf h0=>by
 have h:=hH m f [] hm hf h0;have e:zan []=[]:=rfl;rw [e] at h;unfold zbv;simp! [h]
theorem zpu (Ψ:Str->Fn):zeh (zal [false,false] 2 (zap Ψ)):=fun m f hm hf h0=>by
 have p6:=zh7 hm;have c:za0 Ψ [some (.int (m:Nat),false),some (.int (zab (tab (2 ^ m) f)),false)]=some ([some (.int (m:Nat),false),some (.int (zab (tab (2 ^ m) f)),false)],(.lst ((csF (2 ^ m) f []).map one),true)):=by
  unfold za0;refine znx (xs:=[some (.int (zab (tab (2 ^ m) f)),false)]) (e0:=[some (.int (m:Nat),false),some (.int (zab (tab (2 ^ m) f)),false)]) (ws:=rngW 0 (2 ^ m)) ?_ (by rw [zci];omega) (by rw [zci,List.length_map,zcw]) rfl rfl rfl (fun _ _=>rfl) fun i v0 w r hw hr=>?_
  ·have e1 := pow1 (l := m) (by omega);refine zjh ?_ (by omega);simp! [e1,zay]
  ·obtain ⟨li, rfl⟩ := rngW_get hw;rw [Int.zero_add] at *
   rw [List.getElem?_map,zjm li] at hr;obtain rfl:=sI hr;refine ⟨some (.int (i:Nat),false),false,?_⟩;have e1:=pow1 (l:=i) (by omega);have e2:=divP (p:=zab (tab (2 ^ m) f)) (l:=i) (by omega);have bb:=zcz (n:=2 ^ m) fun i _=>hf i;have e3:zab (tab (2 ^ m) f) / ((2 ^ i:Nat):Int) % 2=f i:=by
    have s:=zek i _ bb;rw [zj2 h0,and1 (Int.ediv_nonneg (zem bb) (Int.pow_nonneg (by decide)))] at s;rw [<-s];norm_cast
   have ib:=zxn (hf i);have ec:cF f [] i=if f i=1 then 49 else 48:=by unfold cF;rw [if_neg List.not_mem_nil]
   rw [ec];simp! [e1,zay,e2,e3,ib]
 unfold zap;exact zc2 rfl (zjp (zr9 c (by rw [zcw];omega))) rfl
theorem zwh (n:Nat) (f:Nat->Int) (M:List Nat):chW (txF n f M)=(csF n f M).map one:=by unfold chW txF;simp [one,List.map_map,Function.comp]
theorem zr5 (n:Nat) (f:Nat->Int) (M:List Nat):(txF n f M).length=n:=by
 show ((csF n f M).toArray).size=n;rw [List.size_toArray,zcw]
noncomputable def zdt (Φ:Fn):Prop:=∀(n:Nat) (f:Nat->Int) (M:List Nat) (sg:Str),n<=64->(∀i,i < n->inS2 ⟨#[cF f M i]⟩ sg=true)->Φ [.str (txF n f M),.int (n:Nat),.str sg]=some ([.str (txF n f M),.int (n:Nat),.str sg],(.bl true,false))
theorem zqz (Ψ:Str->Fn):zdt (zal [false,false,false] 3 (zcn Ψ)):=fun n f M sg hn hi=>by
 have c:zcr Ψ [some (.str (txF n f M),false),some (.int (n:Nat),false),some (.str sg,false)]=some ([some (.str (txF n f M),false),some (.int (n:Nat),false),some (.str sg,false)],(.lst (((List.range n).map fun _=>true).map W.bl),true)):=by
  unfold zcr;refine znx (xs:=[some (.str sg,false)]) (e0:=[some (.str (txF n f M),false),some (.int (n:Nat),false),some (.str sg,false)]) (ws:=(csF n f M).map one) ?_ (by rw [List.length_map,zcw];omega) (by rw [List.length_map,List.length_map,List.length_map,zcw,List.length_range]) rfl rfl rfl (fun _ _=>rfl) fun i v0 w r hw hr=>?_
  ·show (some _ : Option (En × List W)) = _;rw [<-zwh];rfl
  ·have li:i < n:=by
    have:=(List.getElem?_eq_some_iff.mp hw).1;rw [List.length_map,zcw] at this;exact this
   rw [List.getElem?_map,zjm li] at hw;rw [List.getElem?_map,List.getElem?_map,List.getElem?_range li] at hr;obtain rfl:=sI hw;obtain rfl:=sI hr;have oi:oInS false (one (cF f M i)) (.str sg)=some (.bl true,false):=by
    show some (W.bl (inS2 ⟨#[cF f M i]⟩ sg),false)=_;rw [hi i li]
   refine ⟨some (one (cF f M i),false),false,?_⟩;simp! [oi]
 have ol:zm0 [.str (txF n f M)]=some (.int (n:Nat),false):=by
  show (if (txF n f M).length<=sizeLine then some (W.int (txF n f M).length,false) else none)=_;rw [zr5,if_pos (by rw [sizeLine_eq];omega)]
 have al:((List.range n).map fun _=>true).all id=true:=by rw [List.all_map];exact List.all_eq_true.mpr fun _ _=>rfl
 unfold zcn;simp! [ol,c,al]
theorem zx6 {cs:List Nat}:∀(k:Nat),zde (cs.map one) k=(cs.zipIdx k).map fun x:Nat × Nat=>.tup [.int (x.2:Nat),one x.1]:=by
 induction cs with
 | nil=>intro k;rfl
 | cons c cs ih=>intro k;rw [List.map_cons,List.zipIdx_cons,List.map_cons,<-ih (k+1)];rfl
theorem zlk {a b:Nat} (h:a≠b):((⟨#[a]⟩ : Str)=⟨#[b]⟩)=False:=by
 apply propext;constructor
 ·intro z;injection z with z;exact absurd (by simpa using z) h
 ·exact False.elim
noncomputable def zdu (Φ:Fn):Prop:=∀(n c:Nat) (f:Nat->Int) (M:List Nat),n<=64->Φ [one c,.str (txF n f M)]=some ([one c,.str (txF n f M)],(.tup (zan ((List.range n).filter fun i=>decide (cF f M i=c))),false))
theorem zv0 (f:Nat->Int) (M:List Nat) (n:Nat):(csF n f M).zipIdx 0=(List.range n).map fun i=>(cF f M i,i):=by
 apply List.ext_getElem?;intro i;rw [List.getElem?_zipIdx,List.getElem?_map];by_cases h:i < n
 ·rw [zjm h,List.getElem?_range h];simp
 ·rw [List.getElem?_eq_none (by rw [zcw];omega),List.getElem?_eq_none (by rw [List.length_range];omega)];rfl
theorem zo2 (Ψ:Str->Fn):zdu (zal [false,false] 2 (zbu Ψ)):=fun n c f M hn=>by
 have cc:zb9 Ψ [some (one c,false),some (.str (txF n f M),false)]=some ([some (one c,false),some (.str (txF n f M),false)],(.lst (zan ((List.range n).filter fun i=>decide (cF f M i=c))),true)):=by
  unfold zb9 zan;refine zs6 (ts:=List.range n) (xs:=[some (one c,false)]) (e0:=[some (one c,false),some (.str (txF n f M),false)]) (fun i=>.int (i:Nat)) (fun i=>one (cF f M i)) (fun i=>decide (cF f M i=c)) (fun i:Nat=>.int (i:Nat)) ?_ (by rw [List.length_range];omega) rfl (fun _ _ _ _=>rfl) rfl (fun _ _ _=>rfl) fun v0 i hi=>?_
  ·show (some _ : Option (En × List W)) = _;rw [zwh,zx6,zv0,List.map_map];rfl
  ·have oe:oEq (one (cF f M i)) (one c)=some (.bl (decide (cF f M i=c)),false):=by
    show some (W.bl (decide ((⟨#[cF f M i]⟩ : Str)=⟨#[c]⟩)),false)=_;by_cases z:cF f M i=c
    ·rw [z,decide_eq_true rfl,decide_eq_true rfl]
    ·rw [decide_eq_false (by rw [zlk z];exact id),decide_eq_false z]
   refine ⟨?_,fun _=>⟨some (.int (i:Nat),false),some (one (cF f M i),false),false,?_⟩⟩
   ·simp! [oe]
   ·rfl
 have ot:zj8 [.lst (zan ((List.range n).filter fun i=>decide (cF f M i=c)))]=some (.tup (zan ((List.range n).filter fun i=>decide (cF f M i=c))),false):=rfl;unfold zbu;simp! [cc,ot]
theorem zsu {m:Nat}{f:Nat->Int} (hf:∀i,Bit (f i)) (M:List Nat) (i:Nat):(i∈((List.range (2 ^ m)).filter fun i=>decide (cF f M i=49)))↔i < 2 ^ m/\i ∉ M/\f i=1:=by
 rw [List.mem_filter,List.mem_range,decide_eq_true_eq];unfold cF;constructor
 ·rintro ⟨h1, h2⟩;refine ⟨h1,?_,?_⟩
  ·intro z;rw [if_pos z] at h2;cases h2
  ·split at h2
   ·cases h2
   ·split at h2
    ·assumption
    ·cases h2
 ·rintro ⟨h1, h2, h3⟩;rw [if_neg h2,if_pos h3];exact ⟨h1,rfl⟩
noncomputable def zju (Φ:Fn):Prop:=∀(m:Nat) (f:Nat->Int),m<=6->(∀i,Bit (f i))->Φ [.int (m:Nat),.str (txF (2 ^ m) f [])]=some ([.int (m:Nat),.str (txF (2 ^ m) f [])],(.int (zab (tab (2 ^ m) f)),false))
theorem zoe {m:Nat}{f:Nat->Int} (hf:∀i,Bit (f i)) (M:List Nat):(tab (2 ^ m) fun i=>if i∈((List.range (2 ^ m)).filter fun i=>decide (cF f M i=49)) then 1 else 0)=tab (2 ^ m) fun i=>if i∈M then 0 else f i:=zdd fun i hi=>by
 have h:=zsu (m:=m) hf M i;by_cases q:i∈M
 ·rw [if_neg fun z=>(h.mp z).2.1 q,if_pos q]
 ·rw [if_neg q];rcases hf i with e | e
  ·rw [if_neg (fun z=>by have:=(h.mp z).2.2;rw [e] at this;cases this),e]
  ·rw [if_pos (h.mpr ⟨hi,q,e⟩),e]
theorem zwj {f:Nat->Int} (i:Nat):inS2 ⟨#[cF f [] i]⟩ "01" = true:=by
 have:cF f [] i=48\/cF f [] i=49:=by
  unfold cF;rw [if_neg List.not_mem_nil];split
  ·exact .inr rfl
  ·exact .inl rfl
 rcases this with e | e<;>rw [e]<;>decide +kernel
theorem zpo {f:Nat->Int}{M:List Nat} (i:Nat):inS2 ⟨#[cF f M i]⟩ "01?" = true:=by
 rcases zwz f M i with e | e | e<;>rw [e]<;>decide +kernel
theorem zu7 {Ψ:Str->Fn} (hG:zdt (Ψ "is_signs")) (hA:zds (Ψ "word_at")) (hP:zdu (Ψ "places_of")):zju (zal [false,false] 2 (zbt Ψ)):=fun m f hm hf=>by
 have p6:=zh7 hm;have e1:=pow1 (l:=m) (by omega);have g:=hG (2 ^ m) f [] "01" p6 fun i _=>zwj i;have p:=hP (2 ^ m) 49 f [] p6;have a:=hA (2 ^ m) ((List.range (2 ^ m)).filter fun i=>decide (cF f [] i=49)) p6 fun p hp=>List.mem_range.mp (List.mem_filter.mp hp).1;rw [zoe hf] at a;simp only [List.not_mem_nil,if_false] at a;have o:one 49=.str "1" := rfl;rw [o] at p;unfold zbt;simp! [e1,zay,g,p,a]
noncomputable def zsr (Φ:Fn):Prop:=∀(m:Nat) (f:Nat->Int) (M:List Nat),m<=6->(∀i,Bit (f i))->Φ [.int (m:Nat),.str (txF (2 ^ m) f M)]=some ([.int (m:Nat),.str (txF (2 ^ m) f M)],(.tup [.int (zab (tab (2 ^ m) fun i=>if i∈M then 0 else f i)),.tup (zan ((List.range (2 ^ m)).filter fun i=>decide (i∈M)))],false))
theorem zub (m:Nat) (f:Nat->Int) (M:List Nat):((List.range (2 ^ m)).filter fun i=>decide (cF f M i=63))=(List.range (2 ^ m)).filter fun i=>decide (i∈M):=by
 congr 1
 funext i
 unfold cF;by_cases q:i∈M
 ·rw [if_pos q,decide_eq_true rfl,decide_eq_true q]
 ·rw [if_neg q, decide_eq_false q];split<;>rfl
theorem zp1 {Ψ:Str->Fn} (hG:zdt (Ψ "is_signs")) (hA:zds (Ψ "word_at")) (hP:zdu (Ψ "places_of")):zsr (zal [false,false] 2 (zbg Ψ)):=fun m f M hm hf=>by
 have p6:=zh7 hm;have e1:=pow1 (l:=m) (by omega);have g:=hG (2 ^ m) f M "01?" p6 fun i _=>zpo i;have p:=hP (2 ^ m) 49 f M p6;have p2:=hP (2 ^ m) 63 f M p6;rw [zub] at p2;have a:=hA (2 ^ m) ((List.range (2 ^ m)).filter fun i=>decide (cF f M i=49)) p6 fun p hp=>List.mem_range.mp (List.mem_filter.mp hp).1;rw [zoe hf] at a;have o:one 49=.str "1" := rfl;have o2:one 63=.str "?" := rfl;rw [o] at p;rw [o2] at p2;unfold zbg;simp! [e1,zay,g,p,p2,a]
theorem znl {n:Nat} (f:Nat->Int) (M:List Nat) (hn:n<=64):zdk [.str (txF n f M)]=some (.str (reprText (txF n f M)),false):=by
 have h:=StrLaws.reprText_len (txF n f M) fun c hc=>by
  have hc:c∈csF n f M:=by simpa [txF] using hc
  unfold csF at hc;obtain ⟨i,_,rfl⟩:=List.mem_map.mp hc;rcases zwz f M i with e | e | e<;>rw [e]<;>decide
 rw [zr5] at h;show (if (reprText (txF n f M)).length<=sizeLine then _ else none)=_;rw [if_pos (by rw [sizeLine_eq];omega)]
theorem getD_bit {xs:List Int} (h:Bits xs) (i:Nat):Bit (xs.getD i 0):=by
 by_cases q:i < xs.length
 ·rw [List.getD_eq_getElem?_getD,List.getElem?_eq_getElem q];exact h _ (List.getElem_mem q)
 ·rw [List.getD_eq_getElem?_getD,List.getElem?_eq_none (by omega)];exact .inl rfl
theorem zwk {xs:List Int} (i:Nat) (q:xs.length<=i):xs.getD i 0=0:=by rw [List.getD_eq_getElem?_getD,List.getElem?_eq_none q];rfl
theorem zk1 {xs:List Int} (h:Bits xs) (hl:xs.length<=64):zex (zab xs):=by
 have b:=zct h;have n:=zem h;refine zq7 (k:=64) ?_ (by decide);have q:2 ^ xs.length<=2 ^ 64:=Nat.pow_le_pow_right (by decide) hl;have:(2:Int) ^ xs.length<=2 ^ 64:=by exact_mod_cast q
 omega
theorem zmm {m:Nat}{f:Nat->Int} (hm:m<=6) (hf:∀i,Bit (f i)):zex (zab (tab (2 ^ m) f)):=zk1 (zcz fun i _=>hf i) (by rw [zbo];exact zh7 hm)
theorem zv2 {Ψ:Str->Fn} (hX:zeh (Ψ "word_text")) (hR:zju (Ψ "read_word")) {m:Nat}{f:Nat->Int} (hm:m<=6) (hf:∀i,Bit (f i)) (h0:∀i,2 ^ m<=i->f i=0) {v0 v1 v2 v6:Option (W × Bool)}:zjk Ψ [v0,v1,v2,some (.int (m:Nat),false),some (.int (zab (tab (2 ^ m) f)),false),some (.str (txF (2 ^ m) f []),false),v6]=some ([v0,v1,v2,some (.int (m:Nat),false),some (.int (zab (tab (2 ^ m) f)),false),some (.str (txF (2 ^ m) f []),false),v6],.nx):=by
 have x:=hX m f hm hf h0;have r:=hR m f hm hf;have rp:=znl f [] (zh7 hm);have ri:=zyi (zmm hm hf);unfold zjk;simp! [x,r,rp,ri]
theorem zwx {Ψ:Str->Fn} (hK:zhl (Ψ "_law_take")) (hB:zn2 (Ψ "_law_bits")) (hW:zor (Ψ "_law_word")) (hL:zeh (Ψ "_law_word_text")) (hX:zeh (Ψ "word_text")) (hH:zdw (Ψ "heard_text")) (hR:zju (Ψ "read_word")) (hS:zsr (Ψ "read_heard")) {k:Nat}{st:W}{v0 v2 v3 v4 v5 v6:Option (W × Bool)} (hs:HS k st) (hk:k+900 < big):∃st' w3 w4 w5 w6,zjj Ψ [v0,some (st,true),v2,v3,v4,v5,v6]=some ([v0,some (st',true),v2,w3,w4,w5,w6],.nx)/\HS (k+80) st':=by
 obtain ⟨st1,r,e1,g1,r0,r5⟩:=hK k st 6 hs (by omega) (by decide) (by decide);obtain ⟨st2,q,e2,g2,q0,q8⟩:=hK (k+1) st1 8 g1 (by omega) (by decide) (by decide);obtain ⟨r,rfl⟩:=Int.eq_ofNat_of_zero_le r0;have ch:∃m:Nat,gSet [] 3 (gOp2 oIx (gArg (za8 (gCns (gArg (gOp2 oAdd (gArg (gC (.int 1))) (gArg (zae [true,false] (Ψ "_law_take") (gCns (zaa 1) (gCns (gArg (gC (.int 6))) gA0)))))) (gCns (gArg (gC (.int 6))) gA0)))) (gArg (gOpN oInt (gCns (gArg (gOp2 oEq (gArg (zae [true,false] (Ψ "_law_take") (gCns (zaa 1) (gCns (gArg (gC (.int 8))) gA0)))) (gArg (gC (.int 0))))) gA0)))) [v0,some (st,true),v2,v3,v4,v5,v6]=some ([v0,some (st2,true),v2,some (.int (m:Nat),false),v4,v5,v6],.nx)/\m<=6:=by
  by_cases c:q=0
  ·subst c;have oi:oInt [.bl true]=some (.int 1,false):=rfl;exact ⟨6,by simp! [e1,e2,oi],Nat.le_refl _⟩
  ·have d : decide (q = 0) = false := decide_eq_false c;have oi:oInt [.bl false]=some (.int 0,false):=rfl;have ec:(1:Int)+(r:Int)=((1+r:Nat):Int):=by omega
   exact ⟨1+r,by simp! [e1,e2,d,oi,ec],by omega⟩
 obtain ⟨m,e3,hm⟩:=ch;have p6:=zh7 hm;have p1:=pow1 (l:=m) (by omega);obtain ⟨st4,xs,e4,g4,lx,bx⟩:=hB (k+2) st2 ((2 ^ m:Nat):Int) g2 (by omega) (Int.natCast_nonneg _) (by omega);have lx:xs.length=2 ^ m:=by omega
 have xe:xs=tab (2 ^ m) fun i=>xs.getD i 0:=by rw [<-lx,tab_of]
 have e5:=hW xs;have hf:=getD_bit bx;have h0:∀i,2 ^ m<=i->xs.getD i 0=0:=fun i h=>zwk i (by omega);have we:zab xs=zab (tab (2 ^ m) fun i=>xs.getD i 0):=by rw [<-xe]
 rw [we] at e5;generalize hfe:(fun i=>xs.getD i 0)=f at *
 have hf:∀i,Bit (f i):=by rw [<-hfe];exact hf
 have h0:∀i,2 ^ m<=i->f i=0:=by rw [<-hfe];exact h0
 have t:=hL m f hm hf h0;have hh:=hH m f [] hm hf h0;have ce:zan []=[]:=rfl;rw [ce] at hh;have rh:=hS m f [] hm hf;have fe:((List.range (2 ^ m)).filter fun i=>decide (i∈([]:List Nat)))=[]:=by simp
 rw [fe,ce] at rh;simp only [List.not_mem_nil,if_false] at rh;have rp:=znl f [] p6;obtain ⟨s,rm⟩:=zrc (a:=zab (tab (2 ^ m) f)) (ns:=[]) (zmm hm hf) (fun _ z=>nomatch z) (by decide);have rm:zey [.tup [.int (zab (tab (2 ^ m) f)),.tup []]]=some (.str s,false):=rm;refine ⟨st4,some (.int (m:Nat),false),some (.int (zab (tab (2 ^ m) f)),false),some (.str (txF (2 ^ m) f []),false),some (.int (0+((1:Nat):Int)),false),?_,g4.mono (by omega)⟩;unfold zjj;refine zk9 e3 (zk9 (e1:=[v0,some (st4,true),v2,some (.int (m:Nat),false),some (.int (zab (tab (2 ^ m) f)),false),v5,v6]) ?_ (zk9 (e1:=[v0,some (st4,true),v2,some (.int (m:Nat),false),some (.int (zab (tab (2 ^ m) f)),false),some (.str (txF (2 ^ m) f []),false),v6]) ?_ (zk9 (e1:=[v0,some (st4,true),v2,some (.int (m:Nat),false),some (.int (zab (tab (2 ^ m) f)),false),some (.str (txF (2 ^ m) f []),false),some (.int (0+((1:Nat):Int)),false)]) ?_ ?_)))
 ·simp! [p1,zay,e4,e5]
 ·simp! [t]
 ·unfold L1_law;obtain ⟨en',h,v,rfl,hv⟩:=zcp (mp:=[]) (T:=.nm 6) (body:=zjk Ψ) (fun i e=>∃v,e=[v0,some (st4,true),v2,some (.int (m:Nat),false),some (.int (zab (tab (2 ^ m) f)),false),some (.str (txF (2 ^ m) f []),false),v]/\(i=2->v=some (.int (0+((1:Nat):Int)),false))) (zjh (a:=gArg (gC (.int 2))) (en:=[v0,some (st4,true),v2,some (.int (m:Nat),false),some (.int (zab (tab (2 ^ m) f)),false),some (.str (txF (2 ^ m) f []),false),v6]) (e1:=[v0,some (st4,true),v2,some (.int (m:Nat),false),some (.int (zab (tab (2 ^ m) f)),false),some (.str (txF (2 ^ m) f []),false),v6]) (n:=2) rfl (by omega)) ⟨_,rfl,fun z=>nomatch z⟩ fun i w e hw hp=>by
   obtain ⟨v,rfl,_⟩:=hp;obtain ⟨li,rfl⟩:=rngW_get hw;exact ⟨_,_,rfl,.inl (zv2 hX hR hm hf h0),_,rfl,fun z=>by rw [show i=1 by omega]⟩
  rw [zci] at hv;rw [h,hv rfl]
 ·simp! [hh,rh,rp,rm]
theorem zqu (ns:List Int) (hl:ns.length<=63):sem T bn 40 "law" [.frl (ns.map W.int)]=some ([.frl (ns.map W.int)],(.bl true,false)):=by
 have bb:(20000:Nat) < big:=by decide
 rw [zy2];generalize hΨ:sem T bn 39=Ψ;have hH:zrp (Ψ "_law_hand"):=by rw [<-hΨ,ziq];exact zth (sem T bn 0)
 have hT:∀d,zhl (sem T bn (d+3) "_law_take"):=fun d=>by rw [zh5];exact zsf (sem T bn 0)
 have hK:zhl (Ψ "_law_take"):=by rw [<-hΨ];exact hT 36
 have hB:zn2 (Ψ "_law_bits"):=by rw [<-hΨ,zh4];exact ztv (hT 35)
 have hW:zor (Ψ "_law_word"):=by rw [<-hΨ,zhz];exact zto (sem T bn 0)
 have hL:zeh (Ψ "_law_word_text"):=by rw [<-hΨ,zdo];exact zpu _
 have hE:∀d,zdw (sem T bn (d+6) "heard_text"):=fun d=>by rw [zha];exact zp0 (by rw [zxg];exact zte (sem T bn 0))
 have hX:zeh (Ψ "word_text"):=by rw [<-hΨ,zij];exact zum (hE 32)
 have hG:∀d,zdt (sem T bn (d+3) "is_signs"):=fun d=>by rw [zkp];exact zqz _
 have hA:∀d,zds (sem T bn (d+3) "word_at"):=fun d=>by rw [zmw];exact zk2 (sem T bn 0)
 have hP:∀d,zdu (sem T bn (d+3) "places_of"):=fun d=>by rw [zi2];exact zo2 _
 have hR:zju (Ψ "read_word"):=by rw [<-hΨ,zi8];exact zu7 (hG 35) (hA 35) (hP 35)
 have hS:zsr (Ψ "read_heard"):=by rw [<-hΨ,zgw];exact zp1 (hG 35) (hA 35) (hP 35)
 have hM:zdw (Ψ "heard_text"):=by rw [<-hΨ];exact hE 33
 obtain ⟨st0,h0,g0⟩:=hH ns hl;have ct:∃t:Nat,t<=16/\gArg (gOpN oMax (gCns (gArg (gC (.int 4))) (gCns (gArg (gOpN oMin (gCns (gArg (gC (.int 16))) (gCns (gArg (gOpN oLen (gCns (zaa 0) gA0))) gA0)))) gA0))) [some (.frl (ns.map W.int),false),some (st0,true),none,none,none,none,none]=some ([some (.frl (ns.map W.int),false),some (st0,true),none,none,none,none,none],.inl (.int (t:Nat))):=by
  have s:seqW (.frl (ns.map W.int))=some (ns.map W.int):=rfl;have om:∃n:Nat,oMin [.int 16,.int (ns.length:Nat)]=some (.int (n:Nat),false)/\n<=16:=by
   by_cases c:(ns.length:Int) < 16
   ·exact ⟨ns.length,by show some (W.int (if (ns.length:Int) < 16 then _ else _),false)=_;rw [if_pos c],by omega⟩
   ·exact ⟨16,by show some (W.int (if (ns.length:Int) < 16 then _ else _),false)=_;rw [if_neg c];rfl,by omega⟩
  obtain ⟨n,om,hn⟩:=om;have ox:∃j:Nat,oMax [.int 4,.int (n:Nat)]=some (.int (j:Nat),false)/\j<=16:=by
   by_cases c:(n:Int) > 4
   ·exact ⟨n,by show some (W.int (if (n:Int) > 4 then _ else _),false)=_;rw [if_pos c],hn⟩
   ·exact ⟨4,by show some (W.int (if (n:Int) > 4 then _ else _),false)=_;rw [if_neg c];rfl,by omega⟩
  obtain ⟨j,ox,hj⟩:=ox;exact ⟨j,hj,by simp! [s,List.length_map,om,ox]⟩
 obtain ⟨t,t16,ct⟩:=ct;have l2:∃en',zm8 Ψ [some (.frl (ns.map W.int),false),some (st0,true),none,none,none,none,none]=some (some (.frl (ns.map W.int),false)::en',.nx):=by
  unfold zm8;obtain ⟨en',h,st',w2,w3,w4,w5,w6,rfl,_⟩:=zcp (mp:=[]) (T:=.nm 2) (body:=zjj Ψ) (fun i e=>∃st' w2 w3 w4 w5 w6,e=[some (.frl (ns.map W.int),false),some (st',true),w2,w3,w4,w5,w6]/\HS (80 * i) st') (zjh ct (by omega)) ⟨_,_,_,_,_,_,rfl,g0⟩ fun i w e hw hp=>by
   obtain ⟨st',w2,w3,w4,w5,w6,rfl,g⟩:=hp;obtain ⟨li,rfl⟩:=rngW_get hw;obtain ⟨st2,x3,x4,x5,x6,hb,g2⟩:=zwx (Ψ:=Ψ) (v0:=some (.frl (ns.map W.int),false)) (v2:=some (.int (0+(i:Int)),false)) (v3:=w3) (v4:=w4) (v5:=w5) (v6:=w6) hK hB hW hL hX hM hR hS g (by omega);exact ⟨_,_,rfl,.inl hb,_,_,_,_,_,_,rfl,g2.mono (by omega)⟩
  exact ⟨_,h⟩
 obtain ⟨en',l2⟩:=l2;have b01:∀(f:Nat->Int),(f 0=0/\f 1=1\/f 0=1/\f 1=0)->(∀i,2<=i->f i=0)->∀i,Bit (f i):=fun f h1 h2 i=>by
  match i with
  | 0=>rcases h1 with ⟨a,_⟩ | ⟨a,_⟩<;>rw [a]<;>first | exact .inl rfl | exact .inr rfl
  | 1=>rcases h1 with ⟨_,a⟩ | ⟨_,a⟩<;>rw [a]<;>first | exact .inl rfl | exact .inr rfl
  | i+2=>rw [h2 (i+2) (by omega)];exact .inl rfl
 have x1:=hX 1 (fun i=>if i=1 then 1 else 0) (by decide) (b01 _ (.inl ⟨rfl,rfl⟩) fun i hi=>if_neg (by omega)) fun i hi=>if_neg (by omega);have r1:=hR 1 (fun i=>if i=0 then 1 else 0) (by decide) (b01 _ (.inr ⟨rfl,rfl⟩) fun i hi=>if_neg (by omega));have y1:Ψ "word_text" [.int 1,.int 2]=some ([.int 1,.int 2],(.str "01",false)):=x1;have y2:Ψ "read_word" [.int 1,.str "10"]=some ([.int 1,.str "10"],(.int 1,false)):=r1;unfold zt6;refine zc2 (en:=some (.frl (ns.map W.int),false)::en') rfl (zk9 (e1:=[some (.frl (ns.map W.int),false),some (st0,true),none,none,none,none,none]) ?_ (zk9 l2 ?_)) rfl
 ·simp! [h0]
 ·simp! [y1,y2]
noncomputable abbrev nA (K:PySem.W.Frag) (n:Str) (f:Addr):Prop:=PySem.W.nsIn K mainGlobals n=some (some (.ref f))
noncomputable abbrev nL (K:PySem.W.Frag) (f:Addr) (oc:Value) (od:Option Addr) (n:Str) (st:Stmt) (kV dc pm:Value) (an:Option Addr) (cd ct:Value) (sl:Array (Option Value)):Prop:=K.lookup f=some ⟨oc,od,.func (PySem.W.fnOf n n (zda st) (zcf st) (zai st) .none kV dc pm an cd ct),sl⟩
noncomputable abbrev nC (K:PySem.W.Frag) (cd:Value) (n:Str):Prop:=PySem.W.codeIn K cd n=true
noncomputable abbrev nK (K:PySem.W.Frag) (f:Addr):Prop:=PySem.W.keepIn K (.ref f)=true
noncomputable def nD (K:PySem.W.Frag) (t:Fd):Prop:=∃(f:Addr) (oc:Value) (od:Option Addr) (kV dc pm:Value) (an:Option Addr) (cd ct:Value) (sl:Array (Option Value)),nA K t.nm f/\nL K f oc od t.nm t.st kV dc pm an cd ct sl/\nC K cd t.nm/\nK K f
theorem nD_i {K:PySem.W.Frag}{n:Str}{t:Fd}{f:Addr}{oc:Value}{od:Option Addr}{kV dc pm:Value}{an:Option Addr}{cd ct:Value}{sl:Array (Option Value)} (e:t.nm=n) (a:nA K n f) (l:nL K f oc od n t.st kV dc pm an cd ct sl) (c:nC K cd n) (k:nK K f):nD K t:=by
 subst e;exact ⟨_,_,_,_,_,_,_,_,_,_,a,l,c,k⟩
noncomputable def bO (t:Fd):Prop:=FnScope t.N t.ps (zai t.st)/\t.m.length=t.ps.length/\∀(kV doc pm:Value) (an:Option Addr) (cdv ct:Value) (us:List Value),us.length=t.ps.length->bindArgs (PySem.W.fnOf t.nm t.nm (zda t.st) (zcf t.st) (zai t.st) .none kV doc pm an cdv ct) ⟨us,[]⟩=pure (t.ps.zip us)
theorem zzn {K:PySem.W.Frag}{h:Heap}{mg:Str->Option Value} (X:K.In h) (G:h.Ns mainGlobals mg) {t:Fd} (b:bO t) (lm:t.nm∈lams->zq5 K t.nm=true) (d:nD K t):FdOk K mg t:=by
 obtain ⟨f,oc,od,kV,dc,pm,an,cd,ct,sl,a,l,c,k⟩:=d;have F:=zrt (st:=t.st) l c k;exact ⟨b.1,b.2.1,⟨_,_,F,F.binds b.2.2,PySem.W.mg_of X G a⟩,lm⟩
theorem nd_T:(T.map (·.nm)).Nodup:=by decide +kernel
theorem all_c {α:Type}{P:α->Prop}{a:α}{l:List α} (h:P a) (r:∀x∈l,P x):∀x∈a::l,P x:=List.forall_mem_cons.mpr ⟨h,r⟩
theorem all_n {α:Type}{P:α->Prop}:∀x∈([]:List α),P x:=fun _ h=>nomatch h
@[elab_as_elim] theorem lenS {α:Type}{P:List α->Prop}{n:Nat} (us:List α) (hl:us.length=n+1) (h:∀a l,l.length=n->P (a::l)):P us:=by
 cases us with
 | nil=>cases hl
 | cons a l=>exact h a l (Nat.succ.inj hl)
@[elab_as_elim] theorem len0 {α:Type}{P:List α->Prop} (us:List α) (hl:us.length=0) (h:P []):P us:=by
 cases us with
 | nil=>exact h
 | cons a l=>cases hl
@[elab_as_elim] theorem len1 {α:Type}{P:List α->Prop} (us:List α) (hl:us.length=1) (h:∀a,P [a]):P us:=lenS us hl fun a l e=>len0 l e (h a)
@[elab_as_elim] theorem len2 {α:Type}{P:List α->Prop} (us:List α) (hl:us.length=2) (h:∀a b,P [a,b]):P us:=lenS us hl fun a l e=>lenS l e fun b l e=>len0 l e (h a b)
@[elab_as_elim] theorem len3 {α:Type}{P:List α->Prop} (us:List α) (hl:us.length=3) (h:∀a b c,P [a,b,c]):P us:=lenS us hl fun a l e=>len2 l e (h a)
theorem zta:bO zjl:=⟨⟨by kernel_rfl,by kernel_rfl,by kernel_rfl,by decide +kernel,rfl,by decide +kernel,by decide +kernel⟩,rfl,fun _ _ _ _ _ _ us hl=>len2 us hl fun _ _=>rfl⟩
theorem zla:bO zcv:=⟨⟨by kernel_rfl,by kernel_rfl,by kernel_rfl,by decide +kernel,rfl,by decide +kernel,by decide +kernel⟩,rfl,fun _ _ _ _ _ _ us hl=>len1 us hl fun _=>rfl⟩
theorem zfo:bO zbj:=⟨⟨by kernel_rfl,by kernel_rfl,by kernel_rfl,by decide +kernel,rfl,by decide +kernel,by decide +kernel⟩,rfl,fun _ _ _ _ _ _ us hl=>len3 us hl fun _ _ _=>rfl⟩
theorem zf6:bO zb3:=⟨⟨by kernel_rfl,by kernel_rfl,by kernel_rfl,by decide +kernel,rfl,by decide +kernel,by decide +kernel⟩,rfl,fun _ _ _ _ _ _ us hl=>len2 us hl fun _ _=>rfl⟩
theorem zhj:bO zbw:=⟨⟨by kernel_rfl,by kernel_rfl,by kernel_rfl,by decide +kernel,rfl,by decide +kernel,by decide +kernel⟩,rfl,fun _ _ _ _ _ _ us hl=>len2 us hl fun _ _=>rfl⟩
theorem zi6:bO zcj:=⟨⟨by kernel_rfl,by kernel_rfl,by kernel_rfl,by decide +kernel,rfl,by decide +kernel,by decide +kernel⟩,rfl,fun _ _ _ _ _ _ us hl=>len3 us hl fun _ _ _=>rfl⟩
theorem zhx:bO zb4:=⟨⟨by kernel_rfl,by kernel_rfl,by kernel_rfl,by decide +kernel,rfl,by decide +kernel,by decide +kernel⟩,rfl,fun _ _ _ _ _ _ us hl=>len2 us hl fun _ _=>rfl⟩
theorem zfl:bO zbf:=⟨⟨by kernel_rfl,by kernel_rfl,by kernel_rfl,by decide +kernel,rfl,by decide +kernel,by decide +kernel⟩,rfl,fun _ _ _ _ _ _ us hl=>len2 us hl fun _ _=>rfl⟩
theorem zg0:bO zb6:=⟨⟨by kernel_rfl,by kernel_rfl,by kernel_rfl,by decide +kernel,rfl,by decide +kernel,by decide +kernel⟩,rfl,fun _ _ _ _ _ _ us hl=>len1 us hl fun _=>rfl⟩
theorem zhg:bO zb2:=⟨⟨by kernel_rfl,by kernel_rfl,by kernel_rfl,by decide +kernel,rfl,by decide +kernel,by decide +kernel⟩,rfl,fun _ _ _ _ _ _ us hl=>len2 us hl fun _ _=>rfl⟩
theorem zgr:bO zbx:=⟨⟨by kernel_rfl,by kernel_rfl,by kernel_rfl,by decide +kernel,rfl,by decide +kernel,by decide +kernel⟩,rfl,fun _ _ _ _ _ _ us hl=>len2 us hl fun _ _=>rfl⟩
theorem zhn:bO zb1:=⟨⟨by kernel_rfl,by kernel_rfl,by kernel_rfl,by decide +kernel,rfl,by decide +kernel,by decide +kernel⟩,rfl,fun _ _ _ _ _ _ us hl=>len1 us hl fun _=>rfl⟩
theorem zdb:bO zao:=⟨⟨by kernel_rfl,by kernel_rfl,by kernel_rfl,by decide +kernel,rfl,by decide +kernel,by decide +kernel⟩,rfl,fun _ _ _ _ _ _ us hl=>len2 us hl fun _ _=>rfl⟩
theorem zxt:bO zii:=⟨⟨by kernel_rfl,by kernel_rfl,by kernel_rfl,by decide +kernel,rfl,by decide +kernel,by decide +kernel⟩,rfl,fun _ _ _ _ _ _ us hl=>len1 us hl fun _=>rfl⟩
theorem all_mk {l:PySem.W.OpenLaw}{w:World}{K:PySem.W.Frag}{h:Heap}{mg:Str->Option Value}{fa:Addr} (X:K.In h) (G:h.Ns mainGlobals mg) (hfa:mg "law" = some (.ref fa)) (D:∀t∈T,nD K t) (M:∀x∈(["law"]:List Str),zq5 K x=true) (Z:∀x∈bn,PySem.W.nsIn K mainGlobals x=some none) :
  ∃fd:FuncData,(∀(s:Shared) (v:Value),BindsTo s fd ⟨[v],[]⟩ [("_law_script",v)])/\∀base:Heap,K.In base->base.Ns mainGlobals mg->FnOk l.prog w K mg base CX0 40 fa fd ["_law_script"] (spF K [false] (sem T bn 40 "law")):=by
 have B:∀t∈T,bO t:=all_c zta (all_c zla (all_c zfo (all_c zf6 (all_c zhj (all_c zi6 (all_c zhx (all_c zfl (all_c zg0 (all_c zhg (all_c zgr (all_c zhn (all_c zdb (all_c zxt (all_n))))))))))))));have q:∀t∈T,t.nm∈lams->t.nm∈(["law"]:List Str):=by decide +kernel
 obtain ⟨f,oc,od,kV,dc,pm,an,cd,ct,sl,a,lk,c,k⟩:=D zii (by simp [T]);have F:=zrt (st:=zii.st) lk c k;have e:=hfa.symm.trans (PySem.W.mg_of X G a);cases e;exact ⟨_,fun s v=>.of_eq rfl,fun base kb nb=>zmt nd_T (fun t ht=>zzn X G (B t ht) (fun hl=>M _ (q t ht hl)) (D t ht)) (fun x hx=>PySem.W.mg_none_of X G (Z x hx)) kb nb 40 zii (by simp [T]) _ _ F (PySem.W.mg_of X G a)⟩
theorem walk {l:PySem.W.OpenLaw}{q:Program}{loose:List Str}{XP:(Str->Option Value)->Heap->Prop}{YP:World->Heap->Prop}{d:DefRec}{K:Params->PySem.W.Frag} (hn:l.most=some 63) (hdf:d.params.defaults=[])
  (hY:∀(w:World) (h:Heap),YP w h->(K w.params).In h)
  (nt:∀w:World,PySem.W.noTabs (K w.params)=true) (nd:∀w:World,znq (K w.params)=true) (hrec:∀(w:World),∀x∈lams,∀c P,PySem.W.tabIn (K w.params) x=some (c,P)->∃d,(recsOf q).find? (fun e=>e.name == x)=some d)
  (F:∀(w:World) (mg:Str->Option Value) (fa:Addr) (h:Heap),(K w.params).In h->h.Ns mainGlobals mg->mg d.name=some (.ref fa) ->
   ∃fd:FuncData,(∀(s:Shared) (u:Value),BindsTo s fd ⟨[u],[]⟩ [("_law_script",u)])/\∀base:Heap,(K w.params).In base->base.Ns mainGlobals mg->FnOk l.prog w (K w.params) mg base CX0 40 fa fd ["_law_script"] (spF (K w.params) [false] (sem T bn 40 "law"))) :
  PySem.W.WalkO q loose XP YP l.row.toRowW d [] (fun f vs=>PySem.call f vs) :=
 L2.walk_ofT (n:=63) (k:=40) (x := "_law_script") (CX:=fun _=>CX0) (sp:=fun w=>spF (K w.params) [false] (sem T bn 40 "law")) hn (by decide) hdf ⟨rfl,by decide,by decide,rfl⟩ hY nt nd hrec F (fun _ _ _ a ns hl st hS=>zlo st.sub st.tb hS (ws':=[.frl (ns.map W.int)]) (zqu ns hl) rfl) fun _ _ _ _ _ z=>z
end My
open PySem PySem.W PyProof.Rows
set_option maxRecDepth 100000 in
set_option maxHeartbeats 0 in
theorem PySem.Challenge.cw_yesnowords_k72_words_written_and_read_holds : PySem.Challenge.rw_yesnowords_k72_words_written_and_read.Holds := by
 w_on;o_law;k_head;(case hw=>w_witness2)
 k_fill
 refine My.walk (l:=PySem.Challenge.rw_yesnowords_k72_words_written_and_read) rfl rfl (fun w h Y=>by first | exact PySem.W.kIn_of Y | exact PySem.W.km_in_of Y) ?nt ?nd ?hrec ?F
 case nt=>exact fun w=>by kernel_rfl
 case nd=>exact fun w=>by kernel_rfl
 case hrec =>
  intro w x hx c P e;simp only [L2.lams,List.mem_cons,List.not_mem_nil,or_false] at hx;rcases hx with rfl | rfl | rfl | rfl | rfl
  ·exact nomatch (Eq.trans (by kernel_rfl) e:(none:Option (Addr × Addr))=some (c,P))
  ·exact nomatch (Eq.trans (by kernel_rfl) e:(none:Option (Addr × Addr))=some (c,P))
  ·exact nomatch (Eq.trans (by kernel_rfl) e:(none:Option (Addr × Addr))=some (c,P))
  ·exact nomatch (Eq.trans (by kernel_rfl) e:(none:Option (Addr × Addr))=some (c,P))
  ·exact Option.isSome_iff_exists.mp (by kernel_rfl)
 case F =>
  intro w mg fa h KX G hmg;refine My.all_mk KX G hmg ?xD ?xM ?xZ
  case xM=>exact My.all_c (by kernel_rfl) (My.all_n)
  case xZ =>
   refine' My.all_c ?_ (My.all_c ?_ (My.all_c ?_ (My.all_c ?_ (My.all_c ?_ (My.all_c ?_ (My.all_c ?_ (My.all_c ?_ (My.all_c ?_ (My.all_c ?_ (My.all_c ?_ (My.all_c ?_ (My.all_c ?_ (My.all_c ?_ (My.all_c ?_ (My.all_c ?_ (My.all_c ?_ (My.all_c ?_ (My.all_c ?_ (My.all_c ?_ (My.all_n))))))))))))))))))))
   any_goals k_is
  case xD =>
   refine' My.all_c (My.nD_i (n := "says") rfl ?_ ?_ ?_ ?_) (My.all_c (My.nD_i (n := "word_at") rfl ?_ ?_ ?_ ?_) (My.all_c (My.nD_i (n := "heard_text") rfl ?_ ?_ ?_ ?_) (My.all_c (My.nD_i (n := "word_text") rfl ?_ ?_ ?_ ?_) (My.all_c (My.nD_i (n := "places_of") rfl ?_ ?_ ?_ ?_) (My.all_c (My.nD_i (n := "is_signs") rfl ?_ ?_ ?_ ?_) (My.all_c (My.nD_i (n := "read_word") rfl ?_ ?_ ?_ ?_) (My.all_c (My.nD_i (n := "read_heard") rfl ?_ ?_ ?_ ?_) (My.all_c (My.nD_i (n := "_law_hand") rfl ?_ ?_ ?_ ?_) (My.all_c (My.nD_i (n := "_law_take") rfl ?_ ?_ ?_ ?_) (My.all_c (My.nD_i (n := "_law_bits") rfl ?_ ?_ ?_ ?_) (My.all_c (My.nD_i (n := "_law_word") rfl ?_ ?_ ?_ ?_) (My.all_c (My.nD_i (n := "_law_word_text") rfl ?_ ?_ ?_ ?_) (My.all_c (My.nD_i (n := "law") rfl ?_ ?_ ?_ ?_) (My.all_n))))))))))))))
   any_goals (first | (delta My.nA;k_is) | (delta My.nL;k_is) | (delta My.nC;k_is) | (delta My.nK;k_is) | k_is)