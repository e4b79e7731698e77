import PyProof.Rows.All
import Wide.All
import OpenK.AllK
import Wide.FinOn
import Lean
import PyProof.EqAt
import PyProof.EqKinds
import PyProof.TupleCall
import PySem.Challenge.RW_yesnowords_k70_polynomials_written_and_r
set_option Elab.async false
set_option linter.all false
set_option maxRecDepth 100000
namespace PySem.W.Fast
def tw11082842644072223900:=0
def tw8302896316684162716:=0
def tw10714097915364140936:=0
def tw15768602393292693224:=0
def tw8622078860231935433:=0
def tw5145219122654464837:=0
def tw7333034906655926927:=0
def tw10579647733350348819:=0
def tw16632686956680110151:=0
def tw10616361604482388620:=0
def tw15318748909255055511:=0
def tw17339982697091672787:=0
def tw1097518349332009614:=0
def tw3369649429317645150:=0
def tw3808493129180317171:=0
def tw3410570374419608038:=0
def tw3099944766798720264:=0
def tw11401519703963333706:=0
def tw7258788107294537600:=0
def tw10398980363581950128:=0
def tw9734351870074020906:=0
def tw14873846160761090977:=0
def tw11604478164989696455:=0
def tw14294380813972531142:=0
def tw17895236648712980385:=0
def tw3221729438660076714:=0
def tw4703467291406899474:=0
def tw13206654546000723253:=0
def tw7675917491748583327:=0
def tw4565148650296889504:=0
def tw18299275565610923485:=0
def tw11230191416549567685:=0
def tw11455543848107892463:=0
def tw5318385171784024147:=0
def tw16457195882013250073:=0
def tw14248696797057504714:=0
def tw17186708696083929151:=0
def tw15330975237451479323:=0
def tw4918519501606409471:=0
def tw16796524405496970699:=0
def tw15229699174071590359:=0
def tw1520697494737810050:=0
def tw6459928903729335737:=0
def tw12792323959663481327:=0
def tw2587043817578238613:=0
def tw16147083180377776336:=0
def tw8104184028812028402:=0
def tw7012447165657462484:=0
def tw14122411926993640956:=0
def tw8750939746550738987:=0
def tw17115783560922964778:=0
def tw12337621492626165696:=0
def tw5680049148235471201:=0
def tw12407585669118328750:=0
def tw1175640996758193541:=0
def tw13178699549434384237:=0
def tw12000980733250770270:=0
def tw2254377104234368392:=0
def tw2079093021407396302:=0
def tw16957164608966338376:=0
def tw4255912112572827275:=0
def tw5127522183912604638:=0
def tw9289468462232063557:=0
def tw15381676304334182758:=0
def tw14071698666225795424:=0
def tw10804196286612092939:=0
def tw10902541288022753019:=0
def tw10450757178204674190:=0
def tw4238588537027837715:=0
def tw17502463031302817334:=0
def tw10038026034302303088:=0
def tw14627262388587134627:=0
def tw6352723858020144380:=0
def tw4899270409200580065:=0
def tw1768267881092145198:=0
def tw1502566041887383813:=0
def tw5758930612624625890:=0
def tw5369331626142927322:=0
def tw15537039848216022794:=0
def tw11424273000988773807:=0
def tw9525542048099408373:=0
def tw6999618967288229106:=0
def tw15806618074792828914:=0
def tw13837977614159647590:=0
def tw15777478035642467222:=0
def tw8399289342455444876:=0
def tw7518749852881373259:=0
def tw16404591442214524358:=0
def tw11788187228003718396:=0
def tw8624572817161499544:=0
def tw459568699865966120:=0
def tw10382491014227368851:=0
def tw10070889997505966213:=0
def tw774037746699711365:=0
def tw13956479026138374743:=0
def tw9846275930696859274:=0
def tw16513213384212395878:=0
def tw11930248528698013924:=0
def tw17276936097191031538:=0
def tw2779700884728395286:=0
def tw12908553816314546747:=0
def tw8553872190188737125:=0
def tw4151264549587866971:=0
def tw14172122860283151181:=0
def tw7557127139807588934:=0
def tw12804386450219952386:=0
def tw2507171682947787525:=0
def tw14590927567012812598:=0
def tw8506300656652173070:=0
def tw9461202166020470125:=0
def tw8649701360133699677:=0
def tw16783328308750732240:=0
def tw12637925426940392731:=0
def tw3032968060954056155:=0
def tw16862397057704966340:=0
def tw5715158384395400926:=0
def tw17631463606507318834:=0
def tw9350882821685594069:=0
def tw5948486707424340742:=0
def tw3938465660193329379:=0
def tw17290956454153299523:=0
def tw16222886462278281013:=0
def tw18193630223309058462:=0
def tw5131767071076688547:=0
def tw464691844235668429:=0
def tw2602180914639150274:=0
end PySem.W.Fast
theorem bS {α β}{o:Option α}{f:α->Option β}{b} (h:o.bind f=some b):∃a,o=some a/\f a=some b:=Option.bind_eq_some_iff.mp h
theorem sI {α}{a b:α} (h:some a=some b):a=b:=Option.some.inj h
namespace L2
open PySem PySem.Spec PyProof.Rows
theorem aG {P:Prop} (h:∀G:Prop,(P->G)->G):P:=h P id
noncomputable abbrev Key:=Sum Int Str
noncomputable def z30:Key->Value->Bool
 | .inl k,v=>Value.isInt k v
 | .inr x,v=>Value.isStrOf x v
noncomputable def keyH (w:World):Key->Int
 | .inl k=>hashInt k
 | .inr x=>hashStr w x
theorem keyIs_shape:∀{k:Key}{v:Value},z30 k v=true->(∃i t,k=Sum.inl i/\v=Value.int i t)\/(∃x t,k=Sum.inr x/\v=Value.str x t)
  | .inl i,v,h=>by
    obtain ⟨t,e⟩:=Value.isInt_shape (k:=i) (v:=v) h;exact .inl ⟨i,t,rfl,e⟩
  | .inr x,v,h=>by
    obtain ⟨t,e⟩:=Value.isStrOf_shape (x:=x) (v:=v) h;exact .inr ⟨x,t,rfl,e⟩
theorem z0s (a b:Int):decide ((Sum.inl a:Key)=Sum.inl b)=(a == b):=by
 by_cases e:a=b
 ·subst e;simp
 ·have h : ¬ (Sum.inl a : Key) = Sum.inl b := fun q => e (Sum.inl.inj q);rw [decide_eq_false h];exact (beq_eq_false_iff_ne.mpr e).symm
theorem z3f (a b:Str):decide ((Sum.inr a:Key)=Sum.inr b)=decide (a=b):=by
 by_cases e:a=b
 ·subst e;simp
 ·have h : ¬ (Sum.inr a : Key) = Sum.inr b := fun q => e (Sum.inr.inj q);rw [decide_eq_false h,decide_eq_false e]
theorem z0u (a:Int) (b:Str):decide ((Sum.inl a:Key)=Sum.inr b)=false:=decide_eq_false (fun q=>nomatch q)
theorem z1v (a:Str) (b:Int):decide ((Sum.inr a:Key)=Sum.inl b)=false:=decide_eq_false (fun q=>nomatch q)
noncomputable def zqj (prog:Program) (w:World):PySem.KeyKind prog w Key where
 is:=z30
 hash:=keyH w
 inj:=fun v a b ha hb=>by
  rcases keyIs_shape ha with ⟨i,t,rfl,rfl⟩ | ⟨x,t,rfl,rfl⟩
  ·rcases keyIs_shape hb with ⟨j, u, rfl, e⟩ | ⟨y, u, rfl, e⟩
   ·injection e with e1 _;rw [e1]
   ·exact nomatch e
  ·rcases keyIs_shape hb with ⟨j, u, rfl, e⟩ | ⟨y, u, rfl, e⟩
   ·exact nomatch e
   ·injection e with e1 _;rw [e1]
 byValue:=fun k v h=>by
  rcases keyIs_shape h with ⟨i,t,rfl,rfl⟩ | ⟨x,t,rfl,rfl⟩<;>rfl
 pyHash:=fun hv h=>by
  rcases keyIs_shape hv with ⟨i,t,rfl,rfl⟩ | ⟨x,t,rfl,rfl⟩
  ·exact wpAny_pyHash_int h
  ·exact wpAny_pyHash_str h
 eqBool:=fun hu hv h=>by
  rcases keyIs_shape hu with ⟨i,t,rfl,rfl⟩ | ⟨x,t,rfl,rfl⟩
  ·rcases keyIs_shape hv with ⟨j, u, rfl, rfl⟩ | ⟨y, u, rfl, rfl⟩
   ·rw [z0s] at h;exact wpAny_eqBool_int h
   ·rw [z0u] at h;exact SeqAt.EqAt.int_str i t y u _ _ _ _ h
  ·rcases keyIs_shape hv with ⟨j, u, rfl, rfl⟩ | ⟨y, u, rfl, rfl⟩
   ·rw [z1v] at h;exact SeqAt.EqAt.str_int x t j u _ _ _ _ h
   ·rw [z3f] at h;exact wpAny_eqBool_str h
 «strs»:=fun k x t v h=>by
  rcases keyIs_shape h with ⟨i,u,rfl,e⟩ | ⟨y,u,rfl,e⟩
  ·exact nomatch e
  ·injection e with e1 _;subst e1;cases v<;>rfl
end L2
namespace L2
open PySem PySem.Spec PyProof.Rows
inductive V where
 | non | bl (b:Bool) | int (i:Int) | str (x:Str) | byt (b:Array UInt8) | flt (b:UInt64) | ref (a:Addr) | ty (n:String)
 deriving DecidableEq
noncomputable def RelV:V->Value->Prop
 | .non,u=>u=Value.none
 | .bl b,u=>u=Value.bool b
 | .int i,u=>∃t,u=Value.int i t
 | .str x,u=>∃t,u=Value.str x t
 | .byt b,u=>∃t,u=Value.bytes b t
 | .flt b,u=>∃t,u=Value.float b t
 | .ref a,u=>u=Value.ref a
 | .ty n,u=>u=Value.type n
noncomputable abbrev Vals:List V->List Value->Prop:=Paired RelV
theorem Vals.length {xs:List V}{us:List Value} (r:Vals xs us):xs.length=us.length:=Paired.length r
theorem Vals.get:∀{xs:List V}{us:List Value}{i:Nat}{x:V},Vals xs us->xs[i]?=some x->∃u,us[i]?=some u/\RelV x u
  | _,_,_,_,.nil,e=>by simp at e
  | _,_,0,_,.cons r _,e=>by simp at e;subst e;exact ⟨_,rfl,r⟩
  | _,_,i+1,x,.cons _ t,e=>by
    obtain ⟨u,h1,h2⟩:=Vals.get (i:=i) (x:=x) t (by simpa using e);exact ⟨u,by simpa using h1,h2⟩
theorem Vals.set {x:V}{u:Value} (r:RelV x u):∀{xs:List V}{us:List Value} (i:Nat),Vals xs us->Vals (xs.set i x) (us.set i u)
 | _,_,_,.nil=>.nil
 | _,_,0,.cons _ t=>.cons r t
 | _,_,i+1,.cons q t=>.cons q (Vals.set r i t)
theorem Vals.append:∀{xs ys:List V}{us ws:List Value},Vals xs us->Vals ys ws->Vals (xs++ys) (us++ws)
 | _,_,_,_,.nil,s=>s
 | _,_,_,_,.cons r t,s=>.cons r (Vals.append t s)
theorem Vals.take:∀{xs:List V}{us:List Value} (n:Nat),Vals xs us->Vals (xs.take n) (us.take n)
 | _,_,0,_=>.nil
 | _,_,_+1,.nil=>.nil
 | _,_,n+1,.cons r t=>.cons r (Vals.take n t)
theorem Vals.drop:∀{xs:List V}{us:List Value} (n:Nat),Vals xs us->Vals (xs.drop n) (us.drop n)
 | _,_,0,r=>r
 | _,_,_+1,.nil=>.nil
 | _,_,n+1,.cons _ t=>Vals.drop n t
noncomputable def RelO:Option V->Option Value->Prop
 | some v,some u=>RelV v u
 | none,none=>True
 | _,_=>False
noncomputable def KV {κ:Type}:List (κ × V)->List (κ × Value)->Prop:=Paired fun (p:κ × V) (q:κ × Value)=>p.1=q.1/\RelV p.2 q.2
noncomputable def kV:Key->V
 | .inl i=>.int i
 | .inr x=>.str x
inductive HO where
 /-- a list -/
 | lst (xs:List V)
 /-- a tuple (never changes) -/
 | tup (xs:List V)
 /-- a dict whose keys are ints and texts;one whose keys are tuples of ints and texts (the empty one is both) -/
 | dK (kvs:List (Key × V)) | dT (kvs:List (List Key × V))
 /-- a set of ints: its members,its size -/
 | set (S:Int->Bool) (n:Nat)
 /-- an instance of the class at C,its dict at dx,its attributes -/
 | ins (C dx:Addr) (fs:List (Str × V))
 /-- the dict of the instance at x -/
 | own (x:Addr)
 /-- the dict of an exception -/
 | xd (fs:List (Str × V))
 /-- a bound method,f of x -/
 | met (f x:Addr)
 /-- a range object lo,lo+1,.. below hi -/
 | rng (lo hi:Int)
 /-- a thing that is known to the object (the script;a dict while a loop walks it): read,never written while it is so -/
 | frz (o:Obj) (u:HO)
 /-- a code object's table -/
 | tbl (ps:Array Value)
 /-- any other thing,by what is true of its one object (a def of one's own: SetO a S n:=HO.ext fun h=>..) -/
 | ext (φ:Heap->Prop)
noncomputable abbrev Hp:=Addr->Option HO
noncomputable def upd (H:Hp) (a:Addr) (o:HO):Hp:=fun b=>if b=a then some o else H b
theorem upd_same {H:Hp}{a:Addr}{o:HO}:upd H a o a=some o:=by unfold upd;rw [if_pos rfl]
theorem upd_ne {H:Hp}{a b:Addr}{o:HO} (h:b≠a):upd H a o b=H b:=by unfold upd;rw [if_neg h]
theorem zab {H:Hp}{a b:Addr}{o:HO} (h:H a=some o) (h' : H b=none):a≠b:=by
 intro e;subst e;rw [h] at h';cases h'
noncomputable def zgv (h:Heap) (a:Addr) (items:Array Value):Prop:=∃o,h.get? a=some o/\(o.cls=.type "tuple"/\∃n,o.data=.seq items n)/\o.dict=none
theorem zgv.t {h:Heap}{a:Addr}{items:Array Value} (x:zgv h a items):IsTup h a items:=let ⟨o,e,r,_⟩:=x;⟨o,e,r⟩
theorem zgv.new (h:Heap) (items:Array Value):zgv (h.push { cls:=.type "tuple",data:=.seq items }) h.objs.size items:=⟨_,Heap.get?_push_size _ rfl,⟨rfl,_,rfl⟩,rfl⟩
section
variable (P:Program) (w:World)
noncomputable def zbd (H:Hp) (h:Heap) (a:Addr):HO->Prop
 | .lst xs=>xs.length<=sizeLine/\∃(its:List Value) (n:Nat),Vals xs its/\h.get? a=some { cls:=.type "list",data:=.seq its.toArray n }
 | .tup xs=>xs.length<=sizeLine/\∃its:List Value,Vals xs its/\zgv h a its.toArray
 | .dK kvs=>kvs.length<=sizeLine/\(a == sysModules)=false/\∃vs,KV kvs vs/\h.DictOf (zqj P w) a vs
 | .dT kvs=>kvs.length<=sizeLine/\(a == sysModules)=false/\∃xs:List (List Key × Addr × Value),
   Paired (fun (p:List Key × V) (q:List Key × Addr × Value)=>p.1=q.1/\H q.2.1=some (.tup (p.1.map kV))/\RelV p.2 q.2.2) kvs xs /\
   ∃o es ep,h.get? a=some o/\o.ExactDict/\o.data=.dict es ep/\es.toList=xs.map (entryOfKey (tupleKind (zqj P w)))/\(xs.map (·.1)).Nodup
 | .set S n=>h.SetOf (intKind P w) a S n
 | .ins C dx fs=>H dx=some (.own a)/\fs.length<=1000/\dx≠a/\h.get? a=some (PySem.W.instObj C dx) /\
   ∃mA,h.Ns1 dx mA/\(∀f,RelO (fs.lookup f) (mA f))/\PySem.Within mA (fs.map (·.1))
 | .own _=>∃o,h.get? a=some o
 | .xd fs=>∃mA,h.Ns1 a mA/\∀f,RelO (fs.lookup f) (mA f)
 | .rng lo hi=>∃t u v,h.get? a=some { cls:=.type "range",data:=.fields #[.int lo t,.int hi u,.int 1 v] }
 | .frz o u=>h.get? a=some o/\zbd H h a u
 | .tbl ps=>h.get? a=some { cls:=.none,data:=.fields ps }
 | .met f x=>h.get? a=some (PySem.W.methodObj (.ref f) (.ref x))
 | .ext φ=>φ h/\(∃o,h.get? a=some o)/\∀h1 h2:Heap,φ h1->(∀o,h1.get? a=some o->h2.get? a=some o)->φ h2
noncomputable def HOk (H:Hp) (h:Heap):Prop:=∀a o,H a=some o->zbd P w H h a o
end
section
variable {P:Program}{w:World}{H H' : Hp}{h h' : Heap}{a:Addr}{o:HO}
theorem zbd.lt (x:zbd P w H h a o):a < h.objs.size:=by
 cases o with
 | lst xs=>obtain ⟨_,_,_,_,e⟩:=x;exact Heap.lt_size e
 | tup xs=>obtain ⟨_,_,_,p⟩:=x;exact p.t.lt
 | dK kvs=>obtain ⟨_,_,_,_,o,_,_,e,_⟩:=x;exact Heap.lt_size e
 | dT kvs=>obtain ⟨_,_,_,_,o,_,_,e,_⟩:=x;exact Heap.lt_size e
 | set S n=>obtain ⟨o,_,_,_,e,_⟩:=x;exact Heap.lt_size e
 | ins C dx fs=>obtain ⟨_,_,_,e,_⟩:=x;exact Heap.lt_size e
 | own y=>obtain ⟨_,e⟩:=x;exact Heap.lt_size e
 | xd fs=>obtain ⟨_,⟨_,_,_,e,_⟩,_⟩:=x;exact Heap.lt_size e
 | rng lo hi=>obtain ⟨_,_,_,e⟩:=x;exact Heap.lt_size e
 | frz ob u=>obtain ⟨e,_⟩:=x;exact Heap.lt_size e
 | tbl ps=>exact Heap.lt_size (show h.get? a=some _ from x)
 | met f y=>exact Heap.lt_size (show h.get? a=some _ from x)
 | ext φ=>obtain ⟨_,⟨_,e⟩,_⟩:=x;exact Heap.lt_size e
theorem Paired.mapP {α β:Type}{F G:α->β->Prop}:∀{l₁:List α}{l₂:List β},Paired F l₁ l₂->(∀a b,F a b->G a b)->Paired G l₁ l₂
 | _,_,.nil,_=>.nil
 | _,_,.cons r t,f=>.cons (f _ _ r) (Paired.mapP t f)
theorem zbd.stay (x:zbd P w H h a o) (k:∀b u,(b=a\/H b=some (.own a))->h.get? b=some u->h'.get? b=some u)
    (ho:∀b,H b=some (.own a)->H' b=some (.own a)) (ht:∀b xs,H b=some (.tup xs)->H' b=some (.tup xs)):zbd P w H' h' a o:=by
  induction o with
  | lst xs=>obtain ⟨z,its,n,r,e⟩:=x;exact ⟨z,its,n,r,k _ _ (.inl rfl) e⟩
  | tup xs=>obtain ⟨z,its,r,ob,e,c⟩:=x;exact ⟨z,its,r,ob,k _ _ (.inl rfl) e,c⟩
  | dK kvs=>obtain ⟨z,y,vs,r,ob,es,ep,e,c⟩:=x;exact ⟨z,y,vs,r,ob,es,ep,k _ _ (.inl rfl) e,c⟩
  | dT kvs =>
    obtain ⟨z,y,xs,r,ob,es,ep,e,c⟩:=x;exact ⟨z,y,xs,Paired.mapP r fun p q z=>⟨z.1,ht _ _ z.2.1,z.2.2⟩,ob,es,ep,k _ _ (.inl rfl) e,c⟩
  | set S n=>obtain ⟨ob,es,ep,t,e,c⟩:=x;exact ⟨ob,es,ep,t,k _ _ (.inl rfl) e,c⟩
  | ins C dx fs =>
    obtain ⟨d,z,ne,e,mA,⟨od,es,ep,e2,c⟩,r⟩:=x;exact ⟨ho _ d,z,ne,k _ _ (.inl rfl) e,mA,⟨od,es,ep,k _ _ (.inr d) e2,c⟩,r⟩
  | own y=>obtain ⟨ob,e⟩:=x;exact ⟨ob,k _ _ (.inl rfl) e⟩
  | xd fs=>obtain ⟨mA,⟨od,es,ep,e,c⟩,r⟩:=x;exact ⟨mA,⟨od,es,ep,k _ _ (.inl rfl) e,c⟩,r⟩
  | rng lo hi=>obtain ⟨t,u,v,e⟩:=x;exact ⟨t,u,v,k _ _ (.inl rfl) e⟩
  | frz ob u ih=>obtain ⟨e,q⟩:=x;exact ⟨k _ _ (.inl rfl) e,ih q⟩
  | tbl ps =>
    have e:h.get? a=some { cls:=.none,data:=.fields ps }:=x;show h'.get? a=some { cls:=.none,data:=.fields ps };exact k a _ (.inl rfl) e
  | met f y =>
    have e:h.get? a=some (PySem.W.methodObj (.ref f) (.ref y)):=x;show h'.get? a=some (PySem.W.methodObj (.ref f) (.ref y));exact k a _ (.inl rfl) e
  | ext φ=>obtain ⟨p,⟨o,e⟩,st⟩:=x;exact ⟨st _ _ p fun o q=>k _ _ (.inl rfl) q,⟨o,k _ _ (.inl rfl) e⟩,st⟩
theorem HOk.lt (x:HOk P w H h) (e:H a=some o):a < h.objs.size:=(x a o e).lt
theorem HOk.fresh (x:HOk P w H h) (e:h.objs.size<=a):H a=none:=by
 cases q:H a with
 | none=>rfl
 | some u=>exact absurd (Nat.lt_of_lt_of_le (x.lt q) e) (Nat.lt_irrefl _)
theorem HOk.kept (x:HOk P w H h) (k:∀b u,h.get? b=some u->h'.get? b=some u):HOk P w H h':=fun a o e =>
 (x a o e).stay (fun b u _ q=>k b u q) (fun _ q=>q) fun _ _ q=>q
theorem HOk.laid (x:HOk P w H h) (k:∀b u,h.get? b=some u->h'.get? b=some u) (hp:h.objs.size<=a) (new:zbd P w (upd H a o) h' a o):HOk P w (upd H a o) h':=fun b u e=>by
 have hn:=x.fresh hp;by_cases hb:b=a
 ·subst hb;rw [upd_same] at e;obtain rfl:=sI e;exact new
 ·rw [upd_ne hb] at e;exact (x b u e).stay (fun c v _ q=>k c v q) (fun c q=>by rw [upd_ne (zab q hn)];exact q) fun c xs q=>by rw [upd_ne (zab q hn)];exact q
end
noncomputable def Rd (H:Hp) (a:Addr) (u:HO):Prop:=H a=some u\/∃o,H a=some (.frz o u)
theorem Rd.ok {P:Program}{w:World}{H:Hp}{h:Heap}{a:Addr}{u:HO} (r:Rd H a u) (x:HOk P w H h):zbd P w H h a u:=by
 rcases r with r | ⟨o,r⟩
 ·exact x a u r
 ·obtain ⟨_, q⟩ := x a _ r;exact q
noncomputable def Mut:Option HO->Prop
 | some (.lst _)=>True
 | some (.dK _)=>True
 | some (.dT _)=>True
 | some (.set _ _)=>True
 | some (.ins _ _ _)=>True
 | some (.ext _)=>True
 | _=>False
section
variable {P:Program}{w:World}{H:Hp}{h h' : Heap}{x e:Addr}{o' : HO}
theorem HOk.write (ok:HOk P w H h) (mu:Mut (H x)) (he:e=x\/H e=some (.own x)) (k:∀b u,b≠e->h.get? b=some u->h'.get? b=some u) (heo:∃u,h'.get? e=some u)
  (new:zbd P w (upd H x o') h' x o'):HOk P w (upd H x o') h':=fun b u q=>by
 have nown:∀c y,H c=some (.own y)->c≠x:=fun c y r z=>by subst z;rw [r] at mu;exact mu
 have ntup:∀c xs,H c=some (.tup xs)->c≠x:=fun c xs r z=>by subst z;rw [r] at mu;exact mu
 by_cases hb:b=x
 ·subst hb;rw [upd_same] at q;obtain rfl:=sI q;exact new
 ·rw [upd_ne hb] at q;by_cases hbe:b=e
  ·have q' : H b=some (.own x):=by
    rcases he with z | z
    ·exact absurd (hbe.trans z) hb
    ·rw [hbe];exact z
   rw [q] at q';obtain rfl:=sI q';obtain ⟨v,hv⟩:=heo;exact ⟨v,by rw [hbe];exact hv⟩
  ·refine (ok b u q).stay (fun c v hc r => k c v ?_ r) (fun c r => by rw [upd_ne (nown c b r)]; exact r) fun c xs r => by rw [upd_ne (ntup c xs r)]; exact r
   rcases hc with rfl | hc
   ·exact hbe
   ·rintro rfl;rcases he with z | z
    ·exact nown c b hc z
    ·rw [hc] at z;cases z;exact hb rfl
end
structure Un (fs ex:List Addr) (H H' : Hp) (h h' : Heap):Prop where
 keep:∀b o,h.get? b=some o->H b=none->b ∉ fs->b ∉ ex->h'.get? b=some o
 slot:∀b o,h.get? b=some o->H b=none->b∈fs->b ∉ ex->∃sl,h'.get? b=some { o with slots:=sl }
 free:∀b o,h.get? b=some o->H b=none->b ∉ ex->H' b=none
 there:∀b o,h.get? b=some o->b ∉ ex->∃o',h'.get? b=some o'
 tups:∀b xs,H b=some (.tup xs)->H' b=some (.tup xs)
 frzs:∀b o u,H b=some (.frz o u)->H' b=some (.frz o u)
 tbls:∀b ps,H b=some (.tbl ps)->∃more,H' b=some (.tbl (ps++more))
section
variable {fs fs' ex ex' : List Addr}{H H1 H2:Hp}{h h1 h2 h' : Heap}{a x e:Addr}{o:HO}
theorem Un.any (u:Un fs ex H H1 h h1) {b:Addr}{ob:Obj} (q:h.get? b=some ob) (n:H b=none) (hx:b ∉ ex):∃sl,h1.get? b=some { ob with slots:=sl }:=by
 by_cases hb:b∈fs
 ·exact u.slot b ob q n hb hx
 ·exact ⟨ob.slots,u.keep b ob q n hb hx⟩
theorem Un.kept (k:∀b u,h.get? b=some u->h'.get? b=some u):Un fs ex H H h h' :=
 ⟨fun b ob q _ _ _=>k b ob q,fun b ob q _ _ _=>⟨ob.slots,k b ob q⟩,fun _ _ _ n _=>n,fun b ob q _=>⟨ob,k b ob q⟩,fun _ _ q=>q,fun _ _ _ q=>q,fun _ ps q=>⟨#[],by rw [q];simp⟩⟩
theorem Un.refl:Un fs ex H H h h:=Un.kept fun _ _ q=>q
theorem Un.laid (k:∀b u,h.get? b=some u->h'.get? b=some u) (hp:h.objs.size<=a) (hn:H a=none):Un fs ex H (upd H a o) h h' where
 keep:=fun b u q _ _ _=>k b u q
 slot:=fun b u q _ _ _=>⟨u.slots,k b u q⟩
 free:=fun b u q n _=>by rw [upd_ne (Nat.ne_of_lt (Nat.lt_of_lt_of_le (Heap.lt_size q) hp))];exact n
 there:=fun b u q _=>⟨u,k b u q⟩
 tups:=fun b xs q=>by rw [upd_ne (zab q hn)];exact q
 frzs:=fun b u xs q=>by rw [upd_ne (zab q hn)];exact q
 tbls:=fun b ps q=>⟨#[],by rw [upd_ne (zab q hn),q];simp⟩
theorem Un.write (mu:Mut (H x)) (he:e=x\/H e=some (.own x)) (k:∀b u,b≠e->h.get? b=some u->h'.get? b=some u) (heo:∃u,h'.get? e=some u):Un fs ex H (upd H x o) h h':=by
 have hx:∀b,H b=none->b≠x:=fun b n z=>by subst z;rw [n] at mu;exact mu
 have hb:∀b,H b=none->b≠e:=fun b n z=>by
  subst z;rcases he with r | r
  ·exact hx b n r
  ·rw [n] at r;cases r
 have hm:∀b u,H b=some u->¬ Mut (some u)->b≠x:=fun b u q nm z=>by subst z;rw [q] at mu;exact nm mu
 refine ⟨fun b u q n _ _=>k b u (hb b n) q,fun b u q n _ _=>⟨u.slots,k b u (hb b n) q⟩,fun b u q n _=>by rw [upd_ne (hx b n)];exact n,fun b u q _=>?_,
  fun b xs q=>by rw [upd_ne (hm b _ q fun z=>z)];exact q,fun b u xs q=>by rw [upd_ne (hm b _ q fun z=>z)];exact q,fun b ps q=>⟨#[],by rw [upd_ne (hm b _ q fun z=>z),q];simp⟩⟩
 by_cases hbe:b=e
 ·subst hbe;exact heo
 ·exact ⟨u,k b u hbe q⟩
end
noncomputable def trk (h:Heap) (H:Hp):List Addr:=(List.range h.objs.size).filter fun a=>(H a).isSome
noncomputable def hidT (h:Heap) (H:Hp):Heap:=PySem.W.hideAll h (trk h H)
theorem zot (h:Heap) (H:Hp):(hidT h H).objs.size=h.objs.size:=PySem.W.hideAll_size _ _
theorem zuv {h:Heap}{H:Hp}{b:Addr}{o:Obj} (e:h.get? b=some o) (n:H b=none):(hidT h H).get? b=some o :=
 PySem.W.hideAll_get _ e fun hm=>by
  have q:(H b).isSome=true:=(List.mem_filter.mp hm).2;rw [n] at q;simp at q
theorem zx8 {h:Heap}{H:Hp}{b:Addr}{o:Obj} (e:(hidT h H).get? b=some o):h.get? b=some o/\H b=none:=by
  have e' : h.get? b=some o:=PySem.W.of_hideAll (trk h H) e;refine ⟨e',?_⟩;cases q:H b with
  | none=>rfl
  | some x =>
    have hm:b∈trk h H:=List.mem_filter.mpr ⟨List.mem_range.mpr (Heap.lt_size e'),by simp [q]⟩;have z:(hidT h H).get? b=none:=PySem.W.hideAll_none (trk h H) hm;rw [z] at e;cases e
noncomputable def zz0 (g h:Heap) (L:Addr):List (Addr × Obj):=(List.range h.objs.size).filterMap fun a=>if a=L\/(g.get? a).isSome=true then none else (h.get? a).map fun o=>(a,o)
noncomputable def rest (g h:Heap) (L d:Addr):List (Addr × Obj):=(zz0 g h L).filter fun p=>decide (p.1≠d)
end L2
namespace L2
open PySem PySem.Spec PyProof.Rows
structure Mod (K:PySem.W.Frag) (mg:Str->Option Value) (base:Heap):Prop where
 kin:K.In base
 glob:base.Ns mainGlobals mg
 blt:∃mb,base.Ns builtinsNs mb/\∀x:Str,x≠"__name__" -> mb x=bootBuiltins x
 nolimit:base.NoLimit
 bmn:∃(b:Addr) (ob:Obj),mg "__builtins__" = some (.ref b)/\b≠builtinsNs/\base.get? b=some ob/\ob.cls=.type "module"/\ob.dict=some builtinsNs/\ob.data=.plain
structure Cx where
 prog:Program
 w:World
 K:PySem.W.Frag
 mg:Str->Option Value
 base:Heap
 A:Around
 N:List Str
 s₀:Shared
 H₀:Hp
 env:Env
 outer:List Env
 stack:List Env
 ex:List Addr
 fn:Str->Bool
 calm:Bool
 pn:List (Addr × Obj)
 xe:Value->Shared->Prop
noncomputable def frs (l:List Env):List Addr:=l.filterMap (·.frame)
noncomputable abbrev Cx.fs (X:Cx):List Addr:=frs X.outer
noncomputable def Vis (sc:Scope) (x:Str):Prop:=sc.names.lookup x=some .local\/sc.names.lookup x=some .cell\/sc.names.lookup x=some .free
noncomputable def Loc (sc:Scope) (x:Str):Prop:=sc.names.lookup x=some .local\/sc.names.lookup x=some .cell
noncomputable def Look (env:Env) (h:Heap) (m:Str->Option Value) (x:Str) (u:Value):Prop :=
 (env.kindOf x=some .local/\m x=some u)\/((env.kindOf x=some .cell\/env.kindOf x=some .free)/\∃c,env.cells.lookup x=some c/\h.IsCell c (some u))
structure Cx.Ok (X:Cx):Prop where
 mod:Mod X.K X.mg X.base
 kind:X.env.scope.kind=.function
 glob:X.env.globals=mainGlobals
 blt:X.env.builtins=builtinsNs
 above:X.s₀.heap.objs.size<=X.env.locals
 inj:∀x y c,X.env.cells.lookup x=some c->X.env.cells.lookup y=some c->x=y
 has:∀x,(X.env.kindOf x=some .cell\/X.env.kindOf x=some .free)->∃c,X.env.cells.lookup x=some c
 cab:∀x c,X.fn x=true->X.env.cells.lookup x=some c->X.s₀.heap.objs.size<=c
 hd:X.calm=true->X.A.handled=none
 frames:X.A.frames=some X.stack
 stk:X.stack=X.outer\/(X.stack=X.env::X.outer/\X.env.frame=some X.env.locals)
 exf:∀b∈X.ex,b≠X.env.locals/\∀x c,X.env.cells.lookup x=some c->c≠b
 bs:∀b o,X.base.get? b=some o->X.s₀.heap.get? b=some o/\X.H₀ b=none
 bsz:X.base.objs.size<=X.s₀.heap.objs.size
 noex:∀b o,X.base.get? b=some o->b ∉ X.ex
 exfs:∀b∈X.ex,b ∉ X.fs
 funs:X.s₀.heap.FunFrames X.base X.outer
 frf:∀b∈X.fs,X.H₀ b=none
structure Inv (X:Cx) (pins:List (Addr × Obj)) (σ:List (Option V)) (H:Hp) (s:Shared):Prop where
 ok:X.Ok
 os:s.os=X.s₀.os
 bare:AllBare s.gens
 base:Un X.fs X.ex X.H₀ H X.s₀.heap s.heap
 loc:∃m,s.heap.Ns X.env.locals m/\∀(i:Nat) (x:Str) (v:V),X.N[i]?=some x->σ[i]?=some (some v)->Vis X.env.scope x->∃u,RelV v u/\Look X.env s.heap m x u
 cell:∀x c,X.env.cells.lookup x=some c->∃v,s.heap.IsCell c v
 free:H X.env.locals=none
 freeC:∀x c,X.env.cells.lookup x=some c->H c=none
 pin:∀p∈X.pn++pins,s.heap.get? p.1=some p.2/\H p.1=none/\p.1≠X.env.locals/\p.1 ∉ X.fs/\∀v,p.2.data≠.cell v
 hok:HOk X.prog X.w H s.heap
 len:σ.length=X.N.length
section
variable {X:Cx}{pins:List (Addr × Obj)}{σ:List (Option V)}{H H' : Hp}{s:Shared}{h' : Heap}
theorem Cx.Ok.nofr (ok:X.Ok) {b:Addr}{o:Obj} (e:X.base.get? b=some o):b ∉ X.fs:=fun hb=>by
 have:=(ok.funs.mem hb).1;rw [e] at this;cases this
theorem Inv.bs (I:Inv X pins σ H s):∀b o,X.base.get? b=some o->s.heap.get? b=some o/\H b=none:=fun b o e =>
 ⟨I.base.keep b o (I.ok.bs b o e).1 (I.ok.bs b o e).2 (I.ok.nofr e) (I.ok.noex b o e),I.base.free b o (I.ok.bs b o e).1 (I.ok.bs b o e).2 (I.ok.noex b o e)⟩
theorem Inv.bk (I:Inv X pins σ H s):∀b o,X.base.get? b=some o->s.heap.get? b=some o:=fun b o e=>(I.bs b o e).1
theorem Inv.mod (I:Inv X pins σ H s):Mod X.K X.mg X.base:=I.ok.mod
theorem Inv.kIn (I:Inv X pins σ H s):X.K.In s.heap:=I.ok.mod.kin.keeps I.bk
theorem Inv.lt (I:Inv X pins σ H s):X.env.locals < s.heap.objs.size:=let ⟨_,hn,_⟩:=I.loc;hn.lt
theorem Inv.sz (I:Inv X pins σ H s):X.s₀.heap.objs.size<=s.heap.objs.size:=Nat.le_trans I.ok.above (Nat.le_of_lt I.lt)
theorem Inv.nofs (I:Inv X pins σ H s) {a:Addr} (h:s.heap.objs.size<=a):a ∉ X.fs:=fun hb=>by
 obtain ⟨_,o,ho,_⟩:=I.ok.funs.mem hb;exact absurd (Nat.lt_of_lt_of_le (Heap.lt_size ho) (Nat.le_trans I.sz h)) (Nat.lt_irrefl _)
theorem Inv.cne (I:Inv X pins σ H s):∀x c,X.env.cells.lookup x=some c->c≠X.env.locals:=fun x c e z=>by
 obtain ⟨v,o,ho,hd⟩:=I.cell x c e;obtain ⟨m,⟨o',es,ep,ho',hd',_⟩,_⟩:=I.loc;rw [z,ho'] at ho;obtain rfl:=sI ho;rw [hd'] at hd;cases hd
theorem Inv.funs (I:Inv X pins σ H s):s.heap.FunFrames X.base X.outer:=by
  have all:∀(l:List Env),(∀b∈frs l,b∈X.fs)->X.s₀.heap.FunFrames X.base l->s.heap.FunFrames X.base l:=by
    intro l
    induction l with
    | nil=>intro _ _;trivial
    | cons env r ih =>
      intro hs hl;refine aG fun _ qG=>?_;obtain ⟨hk,⟨L,o,hf,hn,ho,hd⟩,hr⟩:=hl;refine qG ?_;clear qG;have hL:L∈X.fs:=hs L (by unfold frs;rw [List.filterMap_cons,hf];exact List.mem_cons_self);obtain ⟨sl,e⟩:=I.base.slot L o ho (I.ok.frf L hL) hL fun z=>I.ok.exfs L z hL;exact ⟨hk,⟨L,_,hf,hn,e,hd⟩,ih (fun b hb=>hs b (by unfold frs;rw [List.filterMap_cons,hf];exact List.mem_cons_of_mem _ hb)) hr⟩
  exact all X.outer (fun _ hb=>hb) I.ok.funs
theorem Inv.stack (I:Inv X pins σ H s):s.heap.FunFrames X.base X.stack:=by
 rcases I.ok.stk with e | ⟨e,hf⟩
 ·rw [e];exact I.funs
 ·rw [e];obtain ⟨m,hn,_⟩:=I.loc;refine .cons (by rw [I.ok.kind];decide) hf hn ?_ I.funs;exact Heap.get?_none_of_le (Nat.le_trans I.ok.bsz I.ok.above)
theorem Inv.stkSub (I:Inv X pins σ H s):∀b∈frs X.stack,b∈X.env.locals::X.fs:=fun b hb=>by
 rcases I.ok.stk with e | ⟨e,hf⟩
 ·rw [e] at hb;exact List.mem_cons_of_mem _ hb
 ·rw [e] at hb;unfold frs at hb;rw [List.filterMap_cons,hf] at hb;exact hb
theorem Inv.stkFree (I:Inv X pins σ H s):∀b∈frs X.stack,H b=none:=fun b hb=>by
 rcases List.mem_cons.mp (I.stkSub b hb) with e | hb
 ·rw [e];exact I.free
 ·obtain ⟨_, o, ho, _⟩ := I.ok.funs.mem hb;exact I.base.free b o ho (I.ok.frf b hb) fun z=>I.ok.exfs b z hb
theorem Inv.step {g' : Array GenState}{t' : Nat}{d' : Drawn}{ch:List Addr} (I:Inv X pins σ H s)
  (hch:∀b∈ch,(b∈X.ex\/X.s₀.heap.objs.size<=b)/\b≠X.env.locals/\(∀x c,X.env.cells.lookup x=some c->c≠b)/\∀p∈X.pn++pins,p.1≠b)
  (keep:∀b o,b≠X.env.locals->b ∉ X.fs->b ∉ ch->s.heap.get? b=some o->H b=none->h'.get? b=some o)
  (slot:∀b o,b≠X.env.locals->b∈X.fs->b ∉ ch->s.heap.get? b=some o->H b=none->∃sl,h'.get? b=some { o with slots:=sl }) (free:∀b o,b ∉ ch->s.heap.get? b=some o->H b=none->H' b=none)
  (there:∀b o,b ∉ ch->s.heap.get? b=some o->∃o',h'.get? b=some o')
  (tups:∀b xs,H b=some (.tup xs)->H' b=some (.tup xs)) (frzs:∀b o u,H b=some (.frz o u)->H' b=some (.frz o u)) (tbls:∀b ps,H b=some (.tbl ps)->∃more,H' b=some (.tbl (ps++more)))
  (ns:∀m,s.heap.Ns X.env.locals m->h'.Ns X.env.locals m) (hok:HOk X.prog X.w H' h') (hg:AllBare g') :
  Inv X pins σ H' { s with heap:=h',gens:=g',drawn:=d',toks:=t' }:=by
 have neL:∀b o,X.s₀.heap.get? b=some o->b≠X.env.locals:=fun b o e=>Nat.ne_of_lt (Nat.lt_of_lt_of_le (Heap.lt_size e) I.ok.above);have neC:∀b o,X.s₀.heap.get? b=some o->b ∉ X.ex->b ∉ ch:=fun b o e hx hb=>by
  rcases (hch b hb).1 with z | z
  ·exact hx z
  ·exact absurd (Nat.lt_of_lt_of_le (Heap.lt_size e) z) (Nat.lt_irrefl _)
 have cellK:∀x c,X.env.cells.lookup x=some c->∀v,s.heap.IsCell c v->h'.IsCell c v:=fun x c e v ⟨o,ho,hd⟩=>by
  have nch:c ∉ ch:=fun z=>(hch c z).2.2.1 x c e rfl;by_cases hc:c∈X.fs
  ·obtain ⟨sl, q⟩ := slot c o (I.cne x c e) hc nch ho (I.freeC x c e);exact ⟨_,q,hd⟩
  ·exact ⟨o,keep c o (I.cne x c e) hc nch ho (I.freeC x c e),hd⟩
 refine ⟨I.ok,I.os,hg,⟨fun b o e n hb hx=>?_,fun b o e n hb hx=>?_,fun b o e n hx=>?_,fun b o e hx=>?_,fun b xs e=>tups b xs (I.base.tups b xs e),fun b o xs e=>frzs b o xs (I.base.frzs b o xs e),fun b ps e=>?_⟩,?_,fun x c e=>?_,?_,fun x c e=>?_,fun p hp=>?_,hok,I.len⟩
 ·exact keep b o (neL b o e) hb (neC b o e hx) (I.base.keep b o e n hb hx) (I.base.free b o e n hx)
 ·obtain ⟨sl, e1⟩ := I.base.slot b o e n hb hx;obtain ⟨sl',e2⟩:=slot b _ (neL b o e) hb (neC b o e hx) e1 (I.base.free b o e n hx);exact ⟨sl',e2⟩
 ·obtain ⟨o', e1⟩ := I.base.there b o e hx;exact free b o' (neC b o e hx) e1 (I.base.free b o e n hx)
 ·obtain ⟨o', e1⟩ := I.base.there b o e hx;exact there b o' (neC b o e hx) e1
 ·obtain ⟨m1, e1⟩ := I.base.tbls b ps e;obtain ⟨m2,e2⟩:=tbls b _ e1;exact ⟨m1++m2,by rw [e2,Array.append_assoc]⟩
 ·obtain ⟨m, hn, hl⟩ := I.loc;refine ⟨m,ns m hn,fun i x v e1 e2 e3=>?_⟩;obtain ⟨u,r,l⟩:=hl i x v e1 e2 e3;refine ⟨u,r,?_⟩;rcases l with l | ⟨k,c,e,z⟩
  ·exact .inl l
  ·exact .inr ⟨k,c,e,cellK x c e _ z⟩
 ·obtain ⟨v, z⟩ := I.cell x c e;exact ⟨v,cellK x c e v z⟩
 ·obtain ⟨m, ⟨o, _, _, ho, _⟩, _⟩ := I.loc;exact free _ o (fun z=>(hch _ z).2.1 rfl) ho I.free
 ·obtain ⟨v, o, ho, hd⟩ := I.cell x c e;exact free c o (fun z=>(hch c z).2.2.1 x c e rfl) ho (I.freeC x c e)
 ·obtain ⟨e, n, ne, nf, d⟩ := I.pin p hp;have nch:p.1 ∉ ch:=fun z=>(hch p.1 z).2.2.2 p hp rfl;exact ⟨keep p.1 p.2 ne nf nch e n,free p.1 p.2 nch e n,ne,nf,d⟩
theorem Inv.un {t' : Nat} (I:Inv X pins σ H s) (u:Un X.fs [] H H' s.heap h') (hok:HOk X.prog X.w H' h'):Inv X pins σ H' { s with heap:=h',toks:=t' }:=by
 obtain ⟨m,⟨o,es,ep,ho,r⟩,_⟩:=id I.loc;obtain ⟨sl,hL⟩:=u.any ho I.free (by simp);exact I.step (g':=s.gens) (d':=s.drawn) (ch:=[]) (fun _ z=>nomatch z) (fun b o _ hb _ e n=>u.keep b o e n hb (by simp)) (fun b o _ hb _ e n=>u.slot b o e n hb (by simp)) (fun b o _ e n=>u.free b o e n (by simp)) (fun b o _ e=>u.there b o e (by simp)) u.tups u.frzs u.tbls (fun m' hm=>by
  obtain ⟨o',es',ep',ho',r'⟩:=hm;rw [ho] at ho';obtain rfl:=sI ho';exact ⟨_,es',ep',hL,r'⟩) hok I.bare
theorem Inv.call {g' : Array GenState}{t' : Nat}{d' : Drawn}{ch:List Addr} (I:Inv X pins σ H s) (u:Un (frs X.stack) ch H H' s.heap h') (hok:HOk X.prog X.w H' h') (hg:AllBare g')
  (hch:∀b∈ch,(b∈X.ex\/X.s₀.heap.objs.size<=b)/\b≠X.env.locals/\(∀x c,X.env.cells.lookup x=some c->c≠b)/\∀p∈X.pn++pins,p.1≠b) :
  Inv X pins σ H' { s with heap:=h',gens:=g',drawn:=d',toks:=t' }:=by
 obtain ⟨m,⟨o,es,ep,ho,r⟩,_⟩:=id I.loc;obtain ⟨sl,hL⟩:=u.any ho I.free fun z=>(hch _ z).2.1 rfl;exact I.step (ch:=ch) hch (fun b o hL hb hc e n=>u.keep b o e n (fun z=>(List.mem_cons.mp (I.stkSub b z)).elim hL hb) hc) (fun b o _ _ hc e n=>u.any e n hc) (fun b o hc e n=>u.free b o e n hc) (fun b o hc e=>u.there b o e hc) u.tups u.frzs u.tbls (fun m' hm=>by
  obtain ⟨o',es',ep',ho',r'⟩:=hm;rw [ho] at ho';obtain rfl:=sI ho';exact ⟨_,es',ep',hL,r'⟩) hok hg
theorem Inv.turned {t' : Nat}{it:Addr} (I:Inv X pins σ H s) (k:∀b o,b≠it->s.heap.get? b=some o->h'.get? b=some o) (hn:H it=none) (hL:it≠X.env.locals)
  (h1:it∈X.ex\/X.s₀.heap.objs.size<=it) (h2:∀x c,X.env.cells.lookup x=some c->c≠it) (h3:∀p∈X.pn++pins,p.1≠it):Inv X pins σ H { s with heap:=h',toks:=t' }:=by
 have nit:∀b u,H b=some u->b≠it:=fun b u e z=>by rw [z,hn] at e;cases e
 refine I.step (g':=s.gens) (d':=s.drawn) (ch:=[it]) (fun b hb=>?_) (fun b o _ _ hc e _=>k b o (fun z=>hc (by simp [z])) e) (fun b o _ _ hc e _=>⟨o.slots,k b o (fun z=>hc (by simp [z])) e⟩) (fun _ _ _ _ n=>n)
  (fun b o hc e=>⟨o,k b o (fun z=>hc (by simp [z])) e⟩) (fun _ _ e=>e) (fun _ _ _ e=>e) (fun b ps e=>⟨#[],by rw [e];simp⟩) (fun m hm=>?_) (fun b u e=>?_) I.bare
 ·have e : b = it := by simpa using hb
  subst e;exact ⟨h1,hL,h2,h3⟩
 ·obtain ⟨o, es, ep, ho, r⟩ := hm;exact ⟨o,es,ep,k _ o (Ne.symm hL) ho,r⟩
 ·refine (I.hok b u e).stay (fun c v hc q => k c v ?_ q) (fun _ q => q) fun _ _ q => q;rcases hc with z | z
  ·rw [z];exact nit b u e
  ·exact nit c _ z
theorem Inv.tok (I:Inv X pins σ H s) (t:Nat):Inv X pins σ H { s with toks:=t }:=I.un (h':=s.heap) (t':=t) Un.refl I.hok
theorem Inv.kept {t' : Nat} (I:Inv X pins σ H s) (k:∀b u,s.heap.get? b=some u->h'.get? b=some u):Inv X pins σ H { s with heap:=h',toks:=t' }:=I.un (Un.kept k) (I.hok.kept k)
theorem Inv.laid {a:Addr}{o:HO}{t' : Nat} (I:Inv X pins σ H s) (k:∀b u,s.heap.get? b=some u->h'.get? b=some u) (hp:s.heap.objs.size<=a) (new:zbd X.prog X.w (upd H a o) h' a o) :
  Inv X pins σ (upd H a o) { s with heap:=h',toks:=t' }:=I.un (Un.laid k hp (I.hok.fresh hp)) (I.hok.laid k hp new)
theorem Inv.write {x e:Addr}{o:HO}{t' : Nat} (I:Inv X pins σ H s) (mu:Mut (H x)) (he:e=x\/H e=some (.own x)) (k:∀b u,b≠e->s.heap.get? b=some u->h'.get? b=some u) (heo:∃u,h'.get? e=some u)
  (new:zbd X.prog X.w (upd H x o) h' x o):Inv X pins σ (upd H x o) { s with heap:=h',toks:=t' }:=I.un (Un.write mu he k heo) (I.hok.write mu he k heo new)
theorem Inv.pins_of {pins' : List (Addr × Obj)} (I:Inv X pins σ H s) (h:∀p∈pins',s.heap.get? p.1=some p.2/\H p.1=none/\p.1≠X.env.locals/\p.1 ∉ X.fs/\∀v,p.2.data≠.cell v):Inv X pins' σ H s :=
 ⟨I.ok,I.os,I.bare,I.base,I.loc,I.cell,I.free,I.freeC,fun p hp=>(List.mem_append.mp hp).elim (fun z=>I.pin p (List.mem_append_left _ z)) (h p),I.hok,I.len⟩
theorem zmr {N:List Str} (hN:N.Nodup) {i j:Nat}{x:Str} (a:N[i]?=some x) (b:N[j]?=some x):i=j:=by
 obtain ⟨h1,e1⟩:=List.getElem?_eq_some_iff.mp a;obtain ⟨h2,e2⟩:=List.getElem?_eq_some_iff.mp b;exact (List.getElem_inj hN).mp (e1.trans e2.symm)
theorem zi1 {M:Model}{A:Around}{E:Value->Shared->Prop}{i:Nat}{x:Str}{v:V}{u:Value}{Q:Unit->Shared->Prop} (I:Inv X pins σ H s) (hN:X.N.Nodup) (hi:X.N[i]?=some x) (hx:Loc X.env.scope x) (r:RelV v u)
  (h:∀s',Inv X pins (σ.set i (some v)) H s'->(∃a,Heap.SameBut a s.heap s'.heap/\(a=X.env.locals\/X.env.cells.lookup x=some a))->Q () s') (hf:X.fn x=true\/X.env.scope.names.lookup x=some .local:=by first | exact .inl rfl | exact .inr rfl | assumption):wpAny M A (storeName X.env x u) Q E s:=by
 obtain ⟨m,hn,hl⟩:=id I.loc;have hcls:(X.env.scope.kind == .class || (X.env.scope.kind == .module && X.env.locals != X.env.globals))=false:=by rw [I.ok.kind];rfl
 have hiσ:i < σ.length:=by rw [I.len];exact (List.getElem?_eq_some_iff.mp hi).1
 have cne:=I.cne;have tracked:∀{a:Addr}{h' : Heap},(∃o,s.heap.get? a=some o/\H a=none)->Heap.SameBut a s.heap h'->HOk X.prog X.w H h':=fun {a h'} ha hs b ob e=>by
  obtain ⟨_,_,hfree⟩:=ha;refine (I.hok b ob e).stay (fun c w' hc q=>(hs.2 c ?_).trans q) (fun _ q=>q) fun _ _ q=>q;rintro rfl;rcases hc with rfl | hc
  ·rw [hfree] at e;cases e
  ·rw [hfree] at hc;cases hc
 rcases hx with hk | hk
 ·refine wpAny_storeName_local hk hn (fun h' hn' hs => ?_) hcls;obtain ⟨oL,_,_,hoL,_⟩:=id hn;refine h _ ⟨I.ok,I.os,I.bare,⟨fun b o e n hb hx=>?_,fun b o e n hb hx=>?_,I.base.free,fun b o e hx=>?_,I.base.tups,I.base.frzs,I.base.tbls⟩,⟨_,hn',fun j y v' e1 e2 e3=>?_⟩,fun y c e=>?_,I.free,I.freeC,fun p hp=>?_,tracked ⟨oL,hoL,I.free⟩ hs,by simpa using I.len⟩ ⟨_,hs,.inl rfl⟩
  ·exact (hs.2 b (Nat.ne_of_lt (Nat.lt_of_lt_of_le (Heap.lt_size e) I.ok.above))).trans (I.base.keep b o e n hb hx)
  ·obtain ⟨sl, e1⟩ := I.base.slot b o e n hb hx;exact ⟨sl,(hs.2 b (Nat.ne_of_lt (Nat.lt_of_lt_of_le (Heap.lt_size e) I.ok.above))).trans e1⟩
  ·obtain ⟨o', e1⟩ := I.base.there b o e hx;exact ⟨o',(hs.2 b (Nat.ne_of_lt (Nat.lt_of_lt_of_le (Heap.lt_size e) I.ok.above))).trans e1⟩
  ·by_cases hj : j = i
   ·subst hj;rw [hi] at e1;obtain rfl:=sI e1;rw [List.getElem?_set_self hiσ] at e2;cases e2;exact ⟨u,r,.inl ⟨hk,by simp⟩⟩
   ·rw [List.getElem?_set_ne (Ne.symm hj)] at e2;obtain ⟨u',r',q⟩:=hl j y v' e1 e2 e3;refine ⟨u',r',?_⟩;rcases q with ⟨k,e⟩ | ⟨k,c,e,z⟩
    ·refine .inl ⟨k, ?_⟩;have:y≠x:=fun e=>hj (zmr hN e1 (e ▸ hi));simp [this,e]
    ·exact .inr ⟨k,c,e,z.sameBut hs (cne y c e)⟩
  ·obtain ⟨w', z⟩ := I.cell y c e;exact ⟨w',z.sameBut hs (cne y c e)⟩
  ·obtain ⟨e, n, ne, nf, d⟩ := I.pin p hp;exact ⟨(hs.2 p.1 ne).trans e,n,ne,nf,d⟩
 ·have hfn:X.fn x=true:=by
   rcases hf with z | z
   ·exact z
   ·rw [z] at hk;cases hk
  obtain ⟨c,hc⟩:=I.ok.has x (.inl hk);obtain ⟨w',z⟩:=I.cell x c hc;refine wpAny_storeName_cell I.ok.kind hk hc z (fun h' hc' hs=>?_);obtain ⟨oc,hoc,hocd⟩:=id z;refine h { s with heap:=h' } ⟨I.ok,I.os,I.bare,⟨fun b o e n hb hx=>?_,fun b o e n hb hx=>?_,I.base.free,fun b o e hx=>?_,I.base.tups,I.base.frzs,I.base.tbls⟩,⟨m,hn.sameBut hs (Ne.symm (cne x c hc)),fun j y v' e1 e2 e3=>?_⟩,fun y c' e=>?_,I.free,I.freeC,fun p hp=>?_,tracked ⟨oc,hoc,I.freeC x c hc⟩ hs,by simpa using I.len⟩ ⟨c,hs,.inr hc⟩
  ·exact (hs.2 b (Nat.ne_of_lt (Nat.lt_of_lt_of_le (Heap.lt_size e) (I.ok.cab x c hfn hc)))).trans (I.base.keep b o e n hb hx)
  ·obtain ⟨sl, e1⟩ := I.base.slot b o e n hb hx;exact ⟨sl,(hs.2 b (Nat.ne_of_lt (Nat.lt_of_lt_of_le (Heap.lt_size e) (I.ok.cab x c hfn hc)))).trans e1⟩
  ·obtain ⟨o', e1⟩ := I.base.there b o e hx;exact ⟨o',(hs.2 b (Nat.ne_of_lt (Nat.lt_of_lt_of_le (Heap.lt_size e) (I.ok.cab x c hfn hc)))).trans e1⟩
  ·by_cases hj : j = i
   ·subst hj;rw [hi] at e1;obtain rfl:=sI e1;rw [List.getElem?_set_self hiσ] at e2;cases e2;exact ⟨u,r,.inr ⟨.inl hk,c,hc,hc'⟩⟩
   ·rw [List.getElem?_set_ne (Ne.symm hj)] at e2;obtain ⟨u',r',q⟩:=hl j y v' e1 e2 e3;refine ⟨u',r',?_⟩;rcases q with q | ⟨k,c',e,z'⟩
    ·exact .inl q
    ·refine .inr ⟨k, c', e, z'.sameBut hs ?_⟩;rintro rfl;exact hj (zmr hN e1 (I.ok.inj _ _ _ e hc ▸ hi))
  ·by_cases hcc : c' = c
   ·subst hcc;exact ⟨_,hc'⟩
   ·obtain ⟨w2, z2⟩ := I.cell y c' e;exact ⟨w2,z2.sameBut hs hcc⟩
  ·obtain ⟨e, n, ne, nf, d⟩ := I.pin p hp;refine ⟨(hs.2 p.1 ?_).trans e,n,ne,nf,d⟩;intro q;rw [q,hoc] at e;have q' : oc=p.2:=sI e;exact d w' (by rw [<-q'];exact hocd)
theorem zmz {M:Model}{A:Around}{E:Value->Shared->Prop}{i:Nat}{x:Str}{v:V}{u:Value}{Q:Unit->Shared->Prop} (I:Inv X pins σ H s) (hN:X.N.Nodup) (hi:X.N[i]?=some x) (hx:Loc X.env.scope x) (r:RelV v u)
  (h:∀s',Inv X pins (σ.set i (some v)) H s'->Q () s') (hf:X.fn x=true\/X.env.scope.names.lookup x=some .local:=by first | exact .inl rfl | exact .inr rfl | assumption):wpAny M A (storeName X.env x u) Q E s :=
 zi1 I hN hi hx r (fun s' I' _=>h s' I') hf
theorem Inv.call' {s' : Shared}{ch:List Addr} (I:Inv X pins σ H s) (ho:s'.os=s.os) (u:Un (frs X.stack) ch H H' s.heap s'.heap) (hok:HOk X.prog X.w H' s'.heap) (hg:AllBare s'.gens)
  (hch:∀b∈ch,(b∈X.ex\/X.s₀.heap.objs.size<=b)/\b≠X.env.locals/\(∀x c,X.env.cells.lookup x=some c->c≠b)/\∀p∈X.pn++pins,p.1≠b):Inv X pins σ H' s':=by
 obtain ⟨h',g',d',t',o'⟩:=s';have e:o'=s.os:=ho;subst e;exact I.call (g':=g') (t':=t') (d':=d') u hok hg hch
end
noncomputable abbrev XK:=Value->Option Addr->Hp->Prop
noncomputable abbrev St:=List (Option V)
noncomputable abbrev VK:=V->Hp->Prop
noncomputable abbrev TE:=St->Hp->VK->Prop
noncomputable abbrev TT:=St->Hp->(Bool->Hp->Prop)->Prop
noncomputable abbrev TA:=St->Hp->(List V->Hp->Prop)->Prop
structure Ends where
 nx:St->Hp->Prop
 rt:VK
 bk:St->Hp->Prop:=fun _ _=>False
 ct:St->Hp->Prop:=fun _ _=>False
noncomputable abbrev TS:=Ends->St->Hp->Prop
noncomputable def EP (X:Cx) (pins:List (Addr × Obj)) (σ:St) (Q:VK) (u:Value) (s' : Shared):Prop:=∃v H',Inv X pins σ H' s'/\RelV v u/\Q v H'
noncomputable def TP (X:Cx) (pins:List (Addr × Obj)) (σ:St) (Q:Bool->Hp->Prop) (b:Bool) (s' : Shared):Prop:=∃H',Inv X pins σ H' s'/\Q b H'
noncomputable def AP (X:Cx) (pins:List (Addr × Obj)) (σ:St) (Q:List V->Hp->Prop) (us:List Value) (s' : Shared):Prop:=∃vs H',Inv X pins σ H' s'/\Vals vs us/\Q vs H'
noncomputable def SP (X:Cx) (pins:List (Addr × Obj)) (D:Ends) (f:Flow) (s' : Shared):Prop :=
 match f with
 | .next=>∃σ' H',Inv X pins σ' H' s'/\D.nx σ' H'
 | .brk=>∃σ' H',Inv X pins σ' H' s'/\D.bk σ' H'
 | .cont=>∃σ' H',Inv X pins σ' H' s'/\D.ct σ' H'
 | .ret u=>∃v σ' H',Inv X pins σ' H' s'/\RelV v u/\D.rt v H'
noncomputable def PE (X:Cx) (e:Expr) (t:TE):Prop :=
 ∀(pins:List (Addr × Obj)) (s:Shared) (σ:St) (H:Hp) (Q:VK),Inv X pins σ H s->t σ H Q->wpAny (model X.prog X.w) X.A (eval e X.env) (EP X pins σ Q) X.xe s
noncomputable def PT (X:Cx) (e:Expr) (t:TT):Prop :=
 ∀(pins:List (Addr × Obj)) (s:Shared) (σ:St) (H:Hp) (Q:Bool->Hp->Prop),Inv X pins σ H s->t σ H Q->wpAny (model X.prog X.w) X.A (isTrue e X.env (eval e X.env)) (TP X pins σ Q) X.xe s
noncomputable def PW (X:Cx) (e:Expr) (t:TT):Prop :=
 ∀(whole:Sem Value) (pins:List (Addr × Obj)) (s:Shared) (σ:St) (H:Hp) (Q:Bool->Hp->Prop),Inv X pins σ H s->t σ H Q->wpAny (model X.prog X.w) X.A (isTrue e X.env whole) (TP X pins σ Q) X.xe s
theorem PW.pt {X:Cx}{e:Expr}{t:TT} (h:PW X e t):PT X e t:=h _
noncomputable def PA (X:Cx) (es:List Expr) (t:TA):Prop :=
 ∀(pos:Pos) (pins:List (Addr × Obj)) (s:Shared) (σ:St) (H:Hp) (Q:List V->Hp->Prop),Inv X pins σ H s->t σ H Q->wpAny (model X.prog X.w) X.A (spliced (backTo pos (starEach es X.env))) (AP X pins σ Q) X.xe s
noncomputable def PS (X:Cx) (st:Stmt) (t:TS):Prop :=
 ∀(pins:List (Addr × Obj)) (s:Shared) (σ:St) (H:Hp) (D:Ends),Inv X pins σ H s->t D σ H->wpAny (model X.prog X.w) X.A (exec st X.env) (SP X pins D) X.xe s
noncomputable def PSs (X:Cx) (st:List Stmt) (t:TS):Prop :=
 ∀(pins:List (Addr × Obj)) (s:Shared) (σ:St) (H:Hp) (D:Ends),Inv X pins σ H s->t D σ H->wpAny (model X.prog X.w) X.A (execs st X.env) (SP X pins D) X.xe s
theorem thn {α:Type}{t:Sem α}{Q Q' : α->Shared->Prop}{M:Model}{A:Around}{E:Value->Shared->Prop}{s:Shared} (h:wpAny M A t Q E s) (hQ:∀a s,Q a s->Q' a s):wpAny M A t Q' E s:=wpAny_mono h hQ fun _ _ x=>x
end L2
namespace L2
open PySem PySem.Spec PyProof.Rows
section
variable {X:Cx}
theorem bin {a b:Expr}{ta tb:TE} (ha:PE X a ta) (hb:PE X b tb) {pins:List (Addr × Obj)}{s:Shared}{σ:St}{H:Hp}{R:V->V->Hp->Prop} (I:Inv X pins σ H s) (h:ta σ H fun x H1=>tb σ H1 fun y H2=>R x y H2)
  {α:Type}{Q:α->Shared->Prop}{f:Value->Value->Sem α}
  (hf:∀v u s2 x y H2,Inv X pins σ H2 s2->RelV x v->RelV y u->R x y H2->wpAny (model X.prog X.w) X.A (f v u) Q X.xe s2) :
  wpAny (model X.prog X.w) X.A (eval a X.env) (fun v s₁=>wpAny (model X.prog X.w) X.A (eval b X.env) (fun u s₂=>wpAny (model X.prog X.w) X.A (f v u) Q X.xe s₂) X.xe s₁) X.xe s:=by
 refine thn (ha pins s σ H _ I h) fun v s1 ⟨x,H1,I1,r1,q1⟩=>?_;refine thn (hb pins s1 σ H1 _ I1 q1) fun u s2 ⟨y,H2,I2,r2,q2⟩=>?_;exact hf v u s2 x y H2 I2 r1 r2 q2
noncomputable def tVar (i:Nat):TE:=fun σ H Q=>∃v,σ[i]?=some (some v)/\Q v H
noncomputable def tC (v:V):TE:=fun _ H Q=>Q v H
theorem zq6 {i:Nat}{x:Str}{pos:Pos} (hN:X.N[i]?=some x) (hv:Vis X.env.scope x) (hd:(x == ("__debug__" : Str))=false:=by decide) (hcd:(x == ("__classdict__" : Str))=false:=by decide):PE X (.Name x pos) (tVar i):=by
 intro pins s σ H Q I h;refine aG fun _ qG=>?_;obtain ⟨v,e,h⟩:=h;obtain ⟨m,hn,hl⟩:=I.loc;obtain ⟨u,r,l⟩:=hl i x v hN e hv;refine qG ?_;clear qG;have fin:EP X pins σ Q u s:=⟨v,H,I,r,h⟩;rcases l with ⟨hk,hm⟩ | ⟨hk,c,hc,hcell⟩
 ·exact wpAny_Name (wpAny_loadName_local I.ok.kind hk hn hm fin) hd
 ·rcases hk with hk | hk
  ·exact wpAny_Name (wpAny_loadName_cell I.ok.kind hk hc hcell fin) hd
  ·exact wpAny_Name (wpAny_loadName_free I.ok.kind hk hc hcell fin hcd) hd
theorem z1h {i j pos}:PE X (.Constant (.int i) j pos) (tC (.int i)):=fun _ _ _ H _ I h=>wpAny_Constant_int ⟨.int i,H,I.tok _,⟨_,rfl⟩,h⟩
theorem z43 {b j pos}:PE X (.Constant (.bool b) j pos) (tC (.bl b)):=fun _ _ _ H _ I h=>Constant_bool ⟨.bl b,H,I,rfl,h⟩
theorem z16 {j pos}:PE X (.Constant .none j pos) (tC .non):=fun _ _ _ H _ I h=>Constant_none ⟨.non,H,I,rfl,h⟩
theorem zqh {x j pos}:PE X (.Constant (.str x) j pos) (tC (.str x)):=fun _ _ _ H _ I h=>Calls.Constant_str ⟨.str x,H,I.tok _,⟨_,rfl⟩,h⟩
noncomputable def Gl (X:Cx) (x:Str):Prop:=X.env.kindOf x=some .globalImplicit
theorem zqq {E:Value->Shared->Prop}{pins:List (Addr × Obj)}{s:Shared}{σ:St}{H:Hp}{x:Str}{u:Value}{pos:Pos}{Q:Value->Shared->Prop} (I:Inv X pins σ H s) (hg:Gl X x) (hm:X.mg x=some u) (h:Q u s)
  (hd:(x == ("__debug__" : Str))=false:=by decide):wpAny (model X.prog X.w) X.A (eval (.Name x pos) X.env) Q E s :=
 Calls.Name_function_global I.ok.kind hg (Calls.loadGlobal_global (by rw [I.ok.glob];exact I.mod.glob.keeps I.bk) hm h) hd
theorem zc4 {E:Value->Shared->Prop}{pins:List (Addr × Obj)}{s:Shared}{σ:St}{H:Hp}{x:Str}{u:Value}{pos:Pos}{Q:Value->Shared->Prop} (I:Inv X pins σ H s) (hg:Gl X x) (hm:X.mg x=none) (hv:bootBuiltins x=some u) (h:Q u s)
  (hn:x≠"__name__" := by decide) (hd:(x == ("__debug__" : Str))=false:=by decide):wpAny (model X.prog X.w) X.A (eval (.Name x pos) X.env) Q E s:=by
 obtain ⟨mb,h1,h2⟩:=I.mod.blt;exact Calls.Name_function_global I.ok.kind hg (Calls.loadGlobal_builtin (by rw [I.ok.glob];exact I.mod.glob.keeps I.bk) hm (by rw [I.ok.blt];exact h1.keeps I.bk) ((h2 x hn).trans hv) h) hd
theorem zyo {x:Str}{v:V}{u:Value}{pos:Pos} (hg:Gl X x) (hm:X.mg x=some u) (r:RelV v u) (hd:(x == ("__debug__" : Str))=false:=by decide):PE X (.Name x pos) (tC v) :=
 fun _ _ _ H _ I h=>zqq I hg hm ⟨v,H,I,r,h⟩ hd
theorem zw4 {x:Str}{v:V}{u:Value}{pos:Pos} (hg:Gl X x) (hm:X.mg x=none) (hv:bootBuiltins x=some u) (r:RelV v u) (hn:x≠"__name__" := by decide) (hd:(x == ("__debug__" : Str))=false:=by decide):PE X (.Name x pos) (tC v) :=
 fun _ _ _ H _ I h=>zc4 I hg hm hv ⟨v,H,I,r,h⟩ hn hd
variable {a b:Expr}{ta tb:TE}{pos:Pos}
noncomputable def PC (X:Cx) (op:CmpOp) (a b:Expr) (t:TE):Prop :=
  ∀(pins:List (Addr × Obj)) (s:Shared) (σ:St) (H:Hp) (Q:VK),Inv X pins σ H s->t σ H Q ->
    wpAny (model X.prog X.w) X.A (eval a X.env) (fun v s₁=>wpAny (model X.prog X.w) X.A (eval b X.env) (fun u s₂=>wpAny (model X.prog X.w) X.A (compareOp op v u) (EP X pins σ Q) X.xe s₂) X.xe s₁) X.xe s
theorem ztn (b:Expr) {op:CmpOp} (h:op≠.In) (h2:op≠.NotIn):behindInMarks op b=false:=by
 have e1:(op == CmpOp.In)=false:=by cases op<;>first | rfl | exact absurd rfl h
 have e2:(op == CmpOp.NotIn)=false:=by cases op<;>first | rfl | exact absurd rfl h2
 cases b<;>simp [behindInMarks,e1,e2]
noncomputable def tB (t:TE):TT:=fun σ H Q=>t σ H fun x H1=>∃c,x=.bl c/\Q c H1
theorem z5k {op:CmpOp}{t:TE} (h:PC X op a b t) (h1:behindInMarks op b=false:=by first | exact ztn _ (by decide) (by decide) | rfl):PT X (.Compare a [op] [b] pos) (tB t):=by
 intro pins s σ H Q I hw;refine wpAny_isTrue_Compare1 (thn (h pins s σ H _ I hw) fun v s1 h1=>thn h1 fun u s2 h2=>thn h2 fun c s3 ⟨x,H1,I1,r1,q1⟩=>?_) h1;obtain ⟨d,rfl,q⟩:=q1;cases r1;exact wpAny_truthy_bool ⟨H1,I1,q⟩
theorem z3w {e:Expr}{t:TE} (h:PE X e t) (he:∀whole,isTrue e X.env whole=(do let v <- whole;standAt e.pos;holding [v] (truthy v)):=by intro _;rfl):PT X e (tB t):=by
 intro pins s σ H Q I hw;refine isTrue_plain (thn (h pins s σ H _ I hw) fun v s1 ⟨x,H1,I1,r1,q1⟩=>?_) (he _);obtain ⟨d,rfl,q⟩:=q1;cases r1;exact wpAny_truthy_bool ⟨H1,I1,q⟩
variable {tA tB' : TT}{rest:List Expr}
noncomputable def tAnd (t u:TT):TT:=fun σ H Q=>t σ H fun c H1=>if c=true then u σ H1 Q else Q false H1
noncomputable def tOr (t u:TT):TT:=fun σ H Q=>t σ H fun c H1=>if c=true then Q true H1 else u σ H1 Q
noncomputable def tNot (t:TT):TT:=fun σ H Q=>t σ H fun c H1=>Q (!c) H1
theorem zxz (ha:PT X a tA):PW X (.BoolOp .And [a] pos) tA:=by
 intro wh pins s σ H Q I h;refine isTrue_and (thn (ha pins s σ H Q I h) fun c s1 e=>?_);cases c with
 | true=>exact isTrue_and_nil e
 | false=>exact e
theorem z15 (ha:PT X a tA):PW X (.BoolOp .Or [a] pos) tA:=by
 intro wh pins s σ H Q I h;refine isTrue_or (thn (ha pins s σ H Q I h) fun c s1 e=>?_);cases c with
 | false=>exact isTrue_or_nil e
 | true=>exact e
theorem z02 (ha:PT X a tA) (hb:PW X (.BoolOp .And (b::rest) pos) tB'):PW X (.BoolOp .And (a::b::rest) pos) (tAnd tA tB'):=by
 intro wh pins s σ H Q I h;refine isTrue_and (thn (ha pins s σ H _ I h) fun c s1 ⟨H1,I1,q1⟩=>?_);cases c with
 | true=>exact hb wh pins s1 σ H1 Q I1 q1
 | false=>exact ⟨H1,I1,q1⟩
theorem z38 (ha:PT X a tA) (hb:PW X (.BoolOp .Or (b::rest) pos) tB'):PW X (.BoolOp .Or (a::b::rest) pos) (tOr tA tB'):=by
 intro wh pins s σ H Q I h;refine isTrue_or (thn (ha pins s σ H _ I h) fun c s1 ⟨H1,I1,q1⟩=>?_);cases c with
 | true=>exact ⟨H1,I1,q1⟩
 | false=>exact hb wh pins s1 σ H1 Q I1 q1
theorem z28 (ha:PT X a tA):PT X (.UnaryOp .Not a pos) (tNot tA):=by
 intro pins s σ H Q I h;exact isTrue_not (ha pins s σ H (fun c H1=>Q (!c) H1) I h)
noncomputable def z3v (ta tb:TE):TE:=fun σ H Q=>ta σ H fun x H1=>∃c,x=.bl c/\if c=true then tb σ H1 Q else Q (.bl false) H1
noncomputable def z3k (ta:TE):TE:=fun σ H Q=>ta σ H fun x H1=>∃c,x=.bl c/\Q (.bl (!c)) H1
theorem zw0 {op}{t:TE} (h:PE X a t):PE X (.BoolOp op [a] pos) t:=fun pins s σ H Q I hw=>BoolOp_one (h pins s σ H Q I hw)
theorem z3p (ha:PE X a ta) (hb:PE X (.BoolOp .And (b::rest) pos) tb):PE X (.BoolOp .And (a::b::rest) pos) (z3v ta tb):=by
 intro pins s σ H Q I h;refine BoolOp_and (thn (ha pins s σ H _ I h) fun v s1 ⟨x,H1,I1,r1,q1⟩=>?_);obtain ⟨c,rfl,q1⟩:=q1;cases r1;refine wpAny_truthy_bool ?_;cases c with
 | true=>exact hb pins s1 σ H1 Q I1 q1
 | false=>exact ⟨.bl false,H1,I1,rfl,q1⟩
theorem z2y (ha:PE X a ta):PE X (.UnaryOp .Not a pos) (z3k ta):=by
 intro pins s σ H Q I h;refine UnaryOp_ (thn (ha pins s σ H _ I h) fun v s1 ⟨x,H1,I1,r1,q1⟩=>?_);obtain ⟨c,rfl,q1⟩:=q1;cases r1;exact not_of (wpAny_truthy_bool ⟨.bl (!c),H1,I1,rfl,q1⟩)
noncomputable def tIf (t:TT) (ta tb:TE):TE:=fun σ H Q=>t σ H fun c H1=>if c=true then ta σ H1 Q else tb σ H1 Q
theorem ztl {c:Expr} (hc:PT X c tA) (ha:PE X a ta) (hb:PE X b tb):PE X (.IfExp c a b pos) (tIf tA ta tb):=by
 intro pins s σ H Q I h;refine wpAny_IfExp (thn (hc pins s σ H _ I h) fun d s1 ⟨H1,I1,q1⟩=>?_);cases d with
 | true=>exact ha pins s1 σ H1 Q I1 q1
 | false=>exact hb pins s1 σ H1 Q I1 q1
end
end L2
namespace L2
open PySem PySem.Spec PyProof.Rows
noncomputable def SqL (K:PySem.W.Frag) (H:Hp) (a:Addr) (xs:List V):Prop :=
 Rd H a (.lst xs) \/
  ∃(o:Obj) (its:Array Value) (n:Nat),K.lookup a=some o/\o.cls=.type "list"/\o.dict=none/\o.data=.seq its n/\its.size<=sizeLine/\Vals xs its.toList
noncomputable def SqT (K:PySem.W.Frag) (H:Hp) (a:Addr) (xs:List V):Prop :=
 Rd H a (.tup xs) \/
  ∃(o:Obj) (its:Array Value) (n:Nat),K.lookup a=some o/\o.cls=.type "tuple"/\o.data=.seq its n/\its.size<=sizeLine/\Vals xs its.toList
noncomputable def absV:Value->Option V
 | .none=>some .non
 | .bool b=>some (.bl b)
 | .int i _=>some (.int i)
 | .str x _=>some (.str x)
 | .bytes b _=>some (.byt b)
 | .float b _=>some (.flt b)
 | .ref a=>some (.ref a)
 | .type n=>some (.ty n)
 | _=>none
theorem RelV.abs {x:V}{u:Value} (r:RelV x u):absV u=some x:=by
 cases x with
 | non=>cases r;rfl
 | bl _=>cases r;rfl
 | int _=>obtain ⟨t,rfl⟩:=r;rfl
 | str _=>obtain ⟨t,rfl⟩:=r;rfl
 | byt _=>obtain ⟨t,rfl⟩:=r;rfl
 | flt _=>obtain ⟨t,rfl⟩:=r;rfl
 | ref _=>cases r;rfl
 | ty _=>cases r;rfl
theorem RelV.inj {x y:V}{u:Value} (r:RelV x u) (q:RelV y u):x=y:=sI (r.abs.symm.trans q.abs)
theorem Vals.inj:∀{xs ys:List V}{us:List Value},Vals xs us->Vals ys us->xs=ys
 | _,_,_,.nil,.nil=>rfl
 | _,_,_,.cons r t,.cons r' t'=>by rw [r.inj r',Vals.inj t t']
section
variable {X:Cx}{pins:List (Addr × Obj)}{σ:St}{H:Hp}{s:Shared}{a:Addr}{xs ys:List V}
theorem Inv.list (I:Inv X pins σ H s) (h:SqL X.K H a xs):∃its:List Value,Vals xs its/\PlainL s.heap a its.toArray/\xs.length<=sizeLine:=by
 rcases h with h | ⟨o,its,n,hk,hc,hd,hs,hz,r⟩
 ·obtain ⟨z, its, n, r, e⟩ := h.ok I.hok;exact ⟨its,r,⟨_,n,e,rfl,rfl,rfl⟩,z⟩
 ·refine ⟨its.toList, r, ⟨o, n, I.kIn a o hk, hc, hd, by simpa using hs⟩, ?_⟩;have e:=r.length;simp only [Array.length_toList] at e;omega
theorem Inv.tuple (I:Inv X pins σ H s) (h:SqT X.K H a xs):∃its:List Value,Vals xs its/\IsTup s.heap a its.toArray/\xs.length<=sizeLine:=by
 rcases h with h | ⟨o,its,n,hk,hc,hs,hz,r⟩
 ·obtain ⟨z, its, r, p⟩ := h.ok I.hok;exact ⟨its,r,p.t,z⟩
 ·refine ⟨its.toList, r, ⟨o, I.kIn a o hk, hc, n, by simpa using hs⟩, ?_⟩;have e:=r.length;simp only [Array.length_toList] at e;omega
theorem Inv.list_inj (I:Inv X pins σ H s) (h:SqL X.K H a xs) (h' : SqL X.K H a ys):xs=ys:=by
 obtain ⟨its,r,⟨o,n,e,_,_,d⟩,_⟩:=I.list h;obtain ⟨its',r',⟨o',n',e',_,_,d'⟩,_⟩:=I.list h';rw [e] at e';obtain rfl:=sI e';rw [d] at d';injection d' with d1 _;have:its=its':=by simpa using congrArg Array.toList d1
 subst this;exact r.inj r'
theorem Inv.tuple_inj (I:Inv X pins σ H s) (h:SqT X.K H a xs) (h' : SqT X.K H a ys):xs=ys:=by
 obtain ⟨its,r,⟨o,e,_,n,d⟩,_⟩:=I.tuple h;obtain ⟨its',r',⟨o',e',_,n',d'⟩,_⟩:=I.tuple h';rw [e] at e';obtain rfl:=sI e';rw [d] at d';injection d' with d1 _;have:its=its':=by simpa using congrArg Array.toList d1
 subst this;exact r.inj r'
end
noncomputable abbrev Cx.wish (X:Cx) (E:Value->Shared->Prop):Cx:={ X with xe:=E }
noncomputable abbrev Cx.nox (X:Cx):Cx:=X.wish fun _ _=>False
theorem Cx.Ok.wish {X:Cx} (ok:X.Ok) (E:Value->Shared->Prop):(X.wish E).Ok :=
 ⟨ok.mod,ok.kind,ok.glob,ok.blt,ok.above,ok.inj,ok.has,ok.cab,ok.hd,ok.frames,ok.stk,ok.exf,ok.bs,ok.bsz,ok.noex,ok.exfs,ok.funs,ok.frf⟩
theorem Cx.Ok.unwish {X:Cx}{E:Value->Shared->Prop} (ok:(X.wish E).Ok):X.Ok :=
 ⟨ok.mod,ok.kind,ok.glob,ok.blt,ok.above,ok.inj,ok.has,ok.cab,ok.hd,ok.frames,ok.stk,ok.exf,ok.bs,ok.bsz,ok.noex,ok.exfs,ok.funs,ok.frf⟩
section
variable {X:Cx}{pins:List (Addr × Obj)}{σ:St}{H:Hp}{s:Shared}{E:Value->Shared->Prop}
theorem Inv.wish (I:Inv X pins σ H s) (E:Value->Shared->Prop):Inv (X.wish E) pins σ H s:=⟨I.ok.wish E,I.os,I.bare,I.base,I.loc,I.cell,I.free,I.freeC,I.pin,I.hok,I.len⟩
theorem Inv.unwish (I:Inv (X.wish E) pins σ H s):Inv X pins σ H s:=⟨I.ok.unwish,I.os,I.bare,I.base,I.loc,I.cell,I.free,I.freeC,I.pin,I.hok,I.len⟩
theorem SP.unwish {D:Ends}{f:Flow}{s' : Shared} (h:SP (X.wish E) pins D f s'):SP X pins D f s':=by
 cases f with
 | next=>obtain ⟨σ',H',I,q⟩:=h;exact ⟨σ',H',I.unwish,q⟩
 | brk=>obtain ⟨σ',H',I,q⟩:=h;exact ⟨σ',H',I.unwish,q⟩
 | cont=>obtain ⟨σ',H',I,q⟩:=h;exact ⟨σ',H',I.unwish,q⟩
 | ret u=>obtain ⟨v,σ',H',I,r,q⟩:=h;exact ⟨v,σ',H',I.unwish,r,q⟩
theorem PE.nox {e:Expr}{t:TE} (h:PE X.nox e t):PE X e t:=fun pins s σ H Q I hw =>
 wpAny_mono (h pins s σ H Q (I.wish _) hw) (fun _ _ ⟨v,H',I',r,q⟩=>⟨v,H',I'.unwish,r,q⟩) fun _ _ z=>False.elim z
theorem PSs.nox {st:List Stmt}{t:TS} (h:PSs X.nox st t):PSs X st t:=fun pins s σ H D I hw =>
 wpAny_mono (h pins s σ H D (I.wish _) hw) (fun _ _ q=>q.unwish) fun _ _ z=>False.elim z
end
section
variable {X:Cx}{st:Stmt}{rest:List Stmt}{t u:TS}{e:Expr}{te:TE}{pos:Pos}
noncomputable def zzf:TS:=fun D σ H=>D.nx σ H
noncomputable def tSeq (t u:TS):TS:=fun D σ H=>t { D with nx:=u D } σ H
theorem zx3:PSs X [] zzf:=fun _ _ σ H _ I h=>wpAny_execs_nil ⟨σ,H,I,h⟩
theorem ztz (h1:PS X st t) (h2:PSs X rest u):PSs X (st::rest) (tSeq t u):=by
  intro pins s σ H D I h;refine wpAny_execs_cons (thn (h1 pins s σ H { D with nx:=u D } I h) fun f s1 q=>?_);cases f with
  | next =>
    obtain ⟨σ',H',I',q⟩:=q;exact h2 pins s1 σ' H' D I' q
  | ret v=>exact q
  | brk=>exact q
  | cont=>exact q
theorem zyl (h1:PS X st t):PSs X [st] t:=by
 intro pins s σ H D I h;refine wpAny_execs_cons (thn (h1 pins s σ H D I h) fun f s1 q=>?_);cases f with
 | next=>exact wpAny_execs_nil q
 | ret v=>exact q
 | brk=>exact q
 | cont=>exact q
theorem zy6:PS X (.Pass pos) zzf:=fun _ _ σ H _ I h=>wpAny_Pass ⟨σ,H,I,h⟩
theorem Inv.quiet {pins:List (Addr × Obj)}{σ:St}{H:Hp}{s:Shared} (I:Inv X pins σ H s):interactive X.env=false:=by simp [interactive,I.ok.kind]
noncomputable def z0t (te:TE):TS:=fun D σ H=>te σ H fun _ H1=>D.nx σ H1
theorem zyz (he:PE X e te) (hs:swapsWith e none pos.line X.env=pure false:=by rfl):PS X (.Expr e pos) (z0t te):=by
 intro pins s σ H D I h;exact wpAny_Expr_any (thn (he pins s σ H _ I h) fun v s1 ⟨x,H1,I1,r1,q1⟩=>⟨σ,H1,I1,q1⟩) I.quiet hs
noncomputable def tRet (te:TE):TS:=fun D σ H=>te σ H D.rt
theorem zv8 (he:PE X e te):PS X (.Return (some e) pos) (tRet te):=by
 intro pins s σ H D I h;exact wpAny_Return_some (thn (he pins s σ H _ I h) fun v s1 ⟨x,H1,I1,r1,q1⟩=>⟨x,σ,H1,I1,r1,q1⟩)
noncomputable def tIfS (c:TT) (t u:TS):TS:=fun D σ H=>c σ H fun b H1=>if b=true then t D σ H1 else u D σ H1
theorem z4m {c:Expr}{a b:List Stmt}{tc:TT} (hc:PT X c tc) (ha:PSs X a t) (hb:PSs X b u):PS X (.If c a b pos) (tIfS tc t u):=by
 intro pins s σ H D I h;refine wpAny_If (thn (hc pins s σ H _ I h) fun d s1 ⟨H1,I1,q1⟩=>?_);cases d with
 | true=>exact ha pins s1 σ H1 D I1 q1
 | false=>exact hb pins s1 σ H1 D I1 q1
end
noncomputable abbrev TG:=V->St->Hp->(St->Hp->Prop)->Prop
noncomputable abbrev TGs:=List V->St->Hp->(St->Hp->Prop)->Prop
noncomputable def PG (X:Cx) (target:Expr) (t:TG):Prop :=
  ∀(pins:List (Addr × Obj)) (s:Shared) (σ:St) (H:Hp) (v:V) (u:Value) (Q:St->Hp->Prop),Inv X pins σ H s->RelV v u->t v σ H Q ->
    wpAny (model X.prog X.w) X.A (assign target X.env u) (fun _ s'=>∃σ' H',Inv X pins σ' H' s'/\Q σ' H') X.xe s
noncomputable def PGs (X:Cx) (ts:List Expr) (t:TGs):Prop :=
  ∀(pins:List (Addr × Obj)) (s:Shared) (σ:St) (H:Hp) (vs:List V) (us:List Value) (Q:St->Hp->Prop),Inv X pins σ H s->Vals vs us->t vs σ H Q ->
    wpAny (model X.prog X.w) X.A (assignInOrder ((assignEach ts X.env).map (·.2)) us) (fun _ s'=>∃σ' H',Inv X pins σ' H' s'/\Q σ' H') X.xe s
noncomputable abbrev TSet:=V->V->V->Hp->(Hp->Prop)->Prop
noncomputable def PSet (X:Cx) (t:TSet):Prop :=
  ∀(pins:List (Addr × Obj)) (s:Shared) (σ:St) (H:Hp) (o i v:V) (ov iv u:Value) (Q:Hp->Prop),Inv X pins σ H s->RelV o ov->RelV i iv->RelV v u->t o i v H Q ->
    wpAny (model X.prog X.w) X.A (setItem ov iv u) (fun _ s'=>∃H',Inv X pins σ H' s'/\Q H') X.xe s
section
variable {X:Cx}{pos:Pos}
noncomputable def zlk (i:Nat):TG:=fun v σ H Q=>Q (σ.set i (some v)) H
theorem zp5 {i:Nat}{x:Str} (hN:X.N.Nodup) (hi:X.N[i]?=some x) (hx:Loc X.env.scope x) (hf:X.fn x=true\/X.env.scope.names.lookup x=some .local:=by first | exact .inl rfl | exact .inr rfl | assumption):PG X (.Name x pos) (zlk i):=by
 intro pins s σ H v u Q I r h;exact wpAny_assign_Name (zmz I hN hi hx r (fun s' I'=>⟨_,H,I',h⟩) hf)
noncomputable def gNil:TGs:=fun vs σ H Q=>vs=[]/\Q σ H
noncomputable def zva (t:TG) (u:TGs):TGs:=fun vs σ H Q=>∃v r,vs=v::r/\t v σ H fun σ' H'=>u r σ' H' Q
theorem zyh:PGs X [] gNil:=by
 intro pins s σ H vs us Q I r h;obtain ⟨e,h⟩:=h;subst e;cases r;exact assignInOrder_nil ⟨σ,H,I,h⟩
theorem zvs {e:Expr}{es:List Expr}{t:TG}{u:TGs} (h1:PG X e t) (h2:PGs X es u)
    (hs:(assignEach (e::es) X.env).map (·.2)=assign e X.env::(assignEach es X.env).map (·.2):=by rfl):PGs X (e::es) (zva t u):=by
  intro pins s σ H vs us Q I r h;obtain ⟨v,vr,e1,h⟩:=h;subst e1;cases r with
  | cons r rr =>
    rw [hs];refine assignInOrder_cons (thn (h1 pins s σ H _ _ _ I r h) fun _ s1 ⟨σ1,H1,I1,q1⟩=>?_);exact h2 pins s1 σ1 H1 _ _ Q I1 rr q1
noncomputable def gTup (K:PySem.W.Frag) (n:Nat) (t:TGs):TG:=fun v σ H Q=>∃a xs,v=.ref a/\SqT K H a xs/\xs.length=n/\t xs σ H Q
theorem z25 {es:List Expr}{k:Nat}{t:TGs}{n:Nat} (hc:X.calm=true) (h:PGs X es t)
  (hn:(assignEach es X.env).length=n:=by rfl) (hst:(assignEach es X.env).findIdx? (·.1)=none:=by rfl):PG X (.Tuple es k pos) (gTup X.K n t):=by
 intro pins s σ H v u Q I r hw;refine aG fun _ qG=>?_;obtain ⟨a,xs,e1,hq,hl,hw⟩:=hw;refine qG ?_;clear qG;subst e1;cases r;refine aG fun _ qG=>?_;obtain ⟨its,rv,ht,hz⟩:=I.tuple hq;refine qG ?_;clear qG;refine assign_Tuple_tuple (I.ok.hd hc) ht (by simp [hn,<-hl,rv.length]) hst fun h' hx=>?_;have I1:Inv X pins σ H { s with heap:=h' }:=I.kept (t':=s.toks) fun b o e=>hx b o (Nat.ne_of_lt (Heap.lt_size e)) e;exact h pins _ σ H xs _ Q I1 (by simpa using rv) hw
noncomputable def gSub (to ti:TE) (t:TSet):TG:=fun v σ H Q=>to σ H fun o H1=>ti σ H1 fun i H2=>t o i v H2 fun H3=>Q σ H3
theorem z3e {o i:Expr}{to ti:TE}{t:TSet} (ho:PE X o to) (hi:PE X i ti) (hs:PSet X t)
  (ha:∀v,assign (.Subscript o i pos) X.env v=(do
   let ov <- holding [v] (eval o X.env)
   let iv <- holding [v,ov] (eval i X.env)
   standAt pos
   holding [v,ov,iv] (setItem ov iv v)
   release [v,ov,iv] []):=by intro _;rfl):PG X (.Subscript o i pos) (gSub to ti t):=by
 intro pins s σ H v u Q I r h;rw [ha];refine wpAny_bind (wpAny_holding (thn (ho pins s σ H _ I h) fun ov s1 ⟨x,H1,I1,r1,q1⟩=>?_));refine wpAny_bind (wpAny_holding (thn (hi pins s1 σ H1 _ I1 q1) fun iv s2 ⟨y,H2,I2,r2,q2⟩=>?_));refine wpAny_bind (wpAny_standAt (wpAny_bind (wpAny_holding (thn (hs pins s2 σ H2 x y v ov iv u _ I2 r1 r2 r q2) fun _ s3 ⟨H3,I3,q3⟩=>?_))));exact wpAny_release ⟨σ,H3,I3,q3⟩
noncomputable def tAsg (te:TE) (g:TG):TS:=fun D σ H=>te σ H fun x H1=>g x σ H1 D.nx
theorem z0p {tg e:Expr}{te:TE}{g:TG} (he:PE X e te) (hg:PG X tg g) (hs:swapsWithSole [tg] e pos.line X.env=pure false:=by rfl) (hw:swappedStores [tg] e X.env=pure none:=by rfl)
  (h1:(assignEach [tg] X.env).map (·.2)=[assign tg X.env]:=by rfl):PS X (.Assign [tg] e pos) (tAsg te g):=by
 intro pins s σ H D I h;refine wpAny_Assign_stores (thn (he pins s σ H _ I h) fun v s1 ⟨x,H1,I1,r1,q1⟩=>?_) hs hw;rw [h1];exact thn (hg pins s1 σ H1 x v _ I1 r1 q1) fun _ s2 q=>q
theorem zws {i:Nat}{x:Str}{e:Expr}{te:TE}{pos' : Pos} (hN:X.N.Nodup) (hi:X.N[i]?=some x) (hx:Loc X.env.scope x) (he:PE X e te) (hs:swapsWith e (some (.Name x pos')) pos.line X.env=pure false:=by rfl) (hf:X.fn x=true\/X.env.scope.names.lookup x=some .local:=by first | exact .inl rfl | exact .inr rfl | assumption) :
  PS X (.Assign [.Name x pos'] e pos) (tAsg te (zlk i)):=by
 intro pins s σ H D I h;refine wpAny_Assign_Name (thn (he pins s σ H _ I h) fun v s1 ⟨y,H1,I1,r1,q1⟩=>?_) hs;exact zmz I1 hN hi hx r1 (fun s2 I2=>⟨_,H1,I2,q1⟩) hf
end
section
variable {X:Cx}{pos:Pos}
end
structure It where
 go:Nat->Hp->Prop
 yld:Nat->Hp->V->Hp->Prop
 stop:Nat->Hp->Prop
noncomputable def FpOk (X:Cx) (pins:List (Addr × Obj)) (H:Hp) (b:Addr):Prop :=
 H b=none/\b≠X.env.locals/\b ∉ X.fs/\(b∈X.ex\/X.s₀.heap.objs.size<=b)/\(∀x c,X.env.cells.lookup x=some c->c≠b)/\∀p∈X.pn++pins,p.1≠b
theorem Inv.fpOk {X:Cx}{pins:List (Addr × Obj)}{σ:St}{H H' : Hp}{s:Shared}{b:Addr} (I:Inv X pins σ H s) (hb:s.heap.objs.size<=b) (hn:H' b=none):FpOk X pins H' b:=by
 refine ⟨hn,Nat.ne_of_gt (Nat.lt_of_lt_of_le I.lt hb),I.nofs hb,.inr (Nat.le_trans I.sz hb),fun x c e z=>?_,fun p hp z=>?_⟩
 ·obtain ⟨v, q⟩ := I.cell x c e;exact absurd (Nat.lt_of_lt_of_le q.lt (by rw [z];exact hb)) (Nat.lt_irrefl _)
 ·exact absurd (Nat.lt_of_lt_of_le (Heap.lt_size (I.pin p hp).1) (by rw [z];exact hb)) (Nat.lt_irrefl _)
structure Turn (P:Program) (w:World) (K:PySem.W.Frag) (tg:Expr) (J:It) (fp:List Addr) (it:Addr) (tn:Nat->Heap->Prop):Prop where
 mem:it∈fp
 obj:∀i h,tn i h->∀b∈fp,∃o,h.get? b=some o/\∀v,o.data≠.cell v
 keep:∀i h h',tn i h->(∀b∈fp,∀o,h.get? b=some o->h'.get? b=some o)->tn i h'
 item:∀(X:Cx),X.prog=P->X.w=w->X.K=K->X.calm=true->∀(i:Nat) (pins:List (Addr × Obj)) (s:Shared) (σ:St) (H:Hp) (E:Value->Shared->Prop),Inv X pins σ H s->(∀b∈fp,FpOk X pins H b)->tn i s.heap->J.go i H ->
  wpAny (model P w) X.A (pyNext (.ref it)) (fun r s1=>∃u,r=some u /\
   wpAny (model P w) X.A (letOwnedTupleGo tg (.ref it) u) (fun _ s2=>∃x H',Inv X pins σ H' s2/\RelV x u/\J.yld i H x H'/\tn (i+1) s2.heap/\∀b∈fp,H' b=none) E s1) E s
 done:∀(X:Cx),X.prog=P->X.w=w->X.K=K->X.calm=true->∀(i:Nat) (pins:List (Addr × Obj)) (s:Shared) (σ:St) (H:Hp) (E:Value->Shared->Prop),Inv X pins σ H s->(∀b∈fp,FpOk X pins H b)->tn i s.heap->J.stop i H ->
  wpAny (model P w) X.A (pyNext (.ref it)) (fun r s1=>r=none/\Inv X pins σ H s1) E s
 self:∀(A:Around) (i:Nat) (s:Shared) (Q:Value->Shared->Prop) (E:Value->Shared->Prop),tn i s.heap->Q (.ref it) s->wpAny (model P w) A (pyIter (.ref it)) Q E s
noncomputable abbrev TI:=St->Hp->(It->Hp->Prop)->Prop
noncomputable def PIE (X:Cx) (pins:List (Addr × Obj)) (σ:St) (tg:Expr) (R:It->Hp->Prop) (itv:Value) (s2:Shared):Prop :=
 ∃(it:Addr) (fp:List Addr) (tn:Nat->Heap->Prop) (J:It) (H' : Hp),itv=.ref it/\Inv X pins σ H' s2/\Turn X.prog X.w X.K tg J fp it tn/\tn 0 s2.heap/\(∀b∈fp,FpOk X pins H' b)/\R J H'
noncomputable def PI (X:Cx) (tg iter:Expr) (wi:TI):Prop :=
  ∀(pins:List (Addr × Obj)) (s:Shared) (σ:St) (H:Hp) (R:It->Hp->Prop),Inv X pins σ H s->wi σ H R ->
    wpAny (model X.prog X.w) X.A (eval iter X.env) (fun v s1=>wpAny (model X.prog X.w) X.A (pyIter v) (PIE X pins σ tg R) X.xe s1) X.xe s
theorem zon {M:Model}{A:Around}{E:Value->Shared->Prop}{s:Shared}{tg:Expr}{it:Addr}{u:Value}{o:Obj}{n:String}{vs:Array Value}{Q:Unit->Shared->Prop} (ho:s.heap.get? it=some o) (hc:o.cls=.type n) (hd:o.data=.fields vs)
    (hn:["enumerate","zip","dict_itemiterator","dict_reverseitemiterator","odict_iterator","itertools.zip_longest","itertools.pairwise"].contains n=false) (hQ:Q () s):wpAny M A (letOwnedTupleGo tg (.ref it) u) Q E s:=by
  unfold letOwnedTupleGo;cases tg<;>first
    | exact wpAny_pure hQ
    | (cases u<;>first
        | exact wpAny_pure hQ
        | (refine wpAny_bind (wpAny_load ho ?_)
           rw [hc,hd];show wpAny M A (if (["enumerate","zip","dict_itemiterator","dict_reverseitemiterator","odict_iterator","itertools.zip_longest","itertools.pairwise"].contains n && vs[0]? == some (rawInt _))=true then _ else _) Q E s;rw [if_neg (by intro h;rw [hn,Bool.false_and] at h;cases h)];exact wpAny_pure hQ))
noncomputable def Itl (K:PySem.W.Frag) (a:Addr):It :=
 ⟨fun i H=>∃xs x,SqL K H a xs/\xs[i]?=some x,fun i H x H'=>H'=H/\∀xs,SqL K H a xs->xs[i]?=some x,fun i H=>∃xs,SqL K H a xs/\xs.length<=i⟩
noncomputable def Itt (K:PySem.W.Frag) (a:Addr):It :=
 ⟨fun i H=>∃xs x,SqT K H a xs/\xs[i]?=some x,fun i H x H'=>H'=H/\∀xs,SqT K H a xs->xs[i]?=some x,fun i H=>∃xs,SqT K H a xs/\xs.length<=i⟩
noncomputable def Itr (lo:Int) (n:Nat):It:=⟨fun i _=>i < n,fun i H x H'=>H'=H/\x=.int (lo+i),fun i _=>n<=i⟩
theorem zi5 {P:Program}{w:World}{K:PySem.W.Frag}{tg:Expr} (a it:Addr):Turn P w K tg (Itl K a) [it] it (fun i h=>h.IsListIter it a i) where
 mem:=by simp
 obj:=fun i h st b hb=>by
  have e:b=it:=by simpa using hb
  subst e;refine aG fun _ qG=>?_;obtain ⟨o,e,c,d⟩:=st;refine qG ?_;clear qG;exact ⟨o,e,fun v z=>by rw [d] at z;cases z⟩
 keep:=fun i h h' st k=>st.at fun o e=>k it (by simp) o e
 item:=by
  intro X hP hw hK hc i pins s σ H E I hf st hg;subst hP hw hK;refine aG fun _ qG=>?_;obtain ⟨xs,x,hq,hx⟩:=hg;obtain ⟨its,rv,p,hz⟩:=I.list hq;obtain ⟨u,hu,ru⟩:=rv.get hx;obtain ⟨f0,f1,f2,f3,f4,f5⟩:=hf it (by simp);refine qG ?_;clear qG;refine wpAny_pyNext_list_item st p.isList (x:=u) (by simpa using hu) fun h' st' sb=>?_;have I1:Inv X pins σ H { s with heap:=h' }:=I.turned (t':=s.toks) (fun b o hb e=>(sb.2 b hb).trans e) f0 f1 f3 f4 f5;refine aG fun _ qG=>?_;obtain ⟨o,e,c,d⟩:=id st';refine qG ?_;clear qG;exact ⟨u,rfl,zon (s:={ s with heap:=h' }) e c d (by decide) ⟨x,H,I1,ru,⟨rfl,fun ys hy=>by rw [I.list_inj hy hq];exact hx⟩,st',fun b hb=>(hf b hb).1⟩⟩
 done:=by
  intro X hP hw hK hc i pins s σ H E I hf st hg;subst hP hw hK;refine aG fun _ qG=>?_;obtain ⟨xs,hq,hx⟩:=hg;obtain ⟨its,rv,p,hz⟩:=I.list hq;obtain ⟨f0,f1,f2,f3,f4,f5⟩:=hf it (by simp);refine qG ?_;clear qG;have hl:=rv.length;exact wpAny_pyNext_list_end (I.ok.hd hc) st p.isList (by simp;omega) fun h' eb=>⟨rfl,I.turned (t':=s.toks) (fun b o hb e=>eb b o hb e) f0 f1 f3 f4 f5⟩
 self:=fun _ _ _ _ _ st h=>wpAny_pyIter_listiter st h
theorem zf2 {P:Program}{w:World}{K:PySem.W.Frag}{tg:Expr} (a it:Addr):Turn P w K tg (Itt K a) [it] it (fun i h=>h.IsTupleIter it a i) where
 mem:=by simp
 obj:=fun i h st b hb=>by
  have e:b=it:=by simpa using hb
  subst e;refine aG fun _ qG=>?_;obtain ⟨o,e,c,d⟩:=st;refine qG ?_;clear qG;exact ⟨o,e,fun v z=>by rw [d] at z;cases z⟩
 keep:=fun i h h' st k=>st.at fun o e=>k it (by simp) o e
 item:=by
  intro X hP hw hK hc i pins s σ H E I hf st hg;subst hP hw hK;refine aG fun _ qG=>?_;obtain ⟨xs,x,hq,hx⟩:=hg;obtain ⟨its,rv,p,hz⟩:=I.tuple hq;obtain ⟨u,hu,ru⟩:=rv.get hx;obtain ⟨f0,f1,f2,f3,f4,f5⟩:=hf it (by simp);refine qG ?_;clear qG;refine wpAny_pyNext_tuple_item st (show s.heap.IsTuple a its.toArray from p) (x:=u) (by simpa using hu) fun h' st' sb=>?_;have I1:Inv X pins σ H { s with heap:=h' }:=I.turned (t':=s.toks) (fun b o hb e=>(sb.2 b hb).trans e) f0 f1 f3 f4 f5;refine aG fun _ qG=>?_;obtain ⟨o,e,c,d⟩:=id st';refine qG ?_;clear qG;exact ⟨u,rfl,zon (s:={ s with heap:=h' }) e c d (by decide) ⟨x,H,I1,ru,⟨rfl,fun ys hy=>by rw [I.tuple_inj hy hq];exact hx⟩,st',fun b hb=>(hf b hb).1⟩⟩
 done:=by
  intro X hP hw hK hc i pins s σ H E I hf st hg;subst hP hw hK;refine aG fun _ qG=>?_;obtain ⟨xs,hq,hx⟩:=hg;obtain ⟨its,rv,p,hz⟩:=I.tuple hq;obtain ⟨f0,f1,f2,f3,f4,f5⟩:=hf it (by simp);refine qG ?_;clear qG;have hl:=rv.length;exact wpAny_pyNext_tuple_end (I.ok.hd hc) st (show s.heap.IsTuple a its.toArray from p) (by simp;omega) fun h' eb=>⟨rfl,I.turned (t':=s.toks) (fun b o hb e=>eb b o hb e) f0 f1 f3 f4 f5⟩
 self:=fun _ _ _ _ _ st h=>wpAny_pyIter_tupleiter st h
theorem zn4 {P:Program}{w:World}{K:PySem.W.Frag}{tg:Expr} (it:Addr) (lo:Int) (n:Nat):Turn P w K tg (Itr lo n) [it] it (fun i h=>IsRangeIter h it (lo+(i:Nat) * 1) ((n:Int) - (i:Nat)) 1) where
 mem:=by simp
 obj:=fun i h st b hb=>by
  have e:b=it:=by simpa using hb
  subst e;exact ⟨_,st,fun v z=>by
   have z' : Data.fields _=Data.cell v:=z;cases z'⟩
 keep:=fun i h h' st k=>k it (by simp) _ st
 item:=by
  intro X hP hw hK hc i pins s σ H E I hf st hg;subst hP hw hK;refine aG fun _ qG=>?_;obtain ⟨f0,f1,f2,f3,f4,f5⟩:=hf it (by simp);refine qG ?_;clear qG;have W:=Walks.range (prog:=X.prog) (w:=X.w) (I.ok.hd hc) it lo 1 n;refine W.item i s _ _ hg st fun v h' tk hv st' kk=>?_;obtain ⟨t,rfl⟩:=hv;have I1:Inv X pins σ H { s with heap:=h',toks:=tk }:=I.turned (fun b o hb e=>kk b o (by simpa using hb) e) f0 f1 f3 f4 f5;refine ⟨_,rfl,zon (s:={ s with heap:=h',toks:=tk }) (n := "range_iterator") st' rfl rfl (by decide) ⟨.int (lo+i),H,I1,⟨t,?_⟩,⟨rfl,rfl⟩,st',fun b hb=>(hf b hb).1⟩⟩;rw [Int.mul_one]
 done:=by
  intro X hP hw hK hc i pins s σ H E I hf st hg;subst hP hw hK;refine aG fun _ qG=>?_;obtain ⟨f0,f1,f2,f3,f4,f5⟩:=hf it (by simp);refine qG ?_;clear qG;exact wpAny_pyNext_range_end (I.ok.hd hc) st (by have:n<=i:=hg;omega) fun h' eb=>⟨rfl,I.turned (t':=s.toks) (fun b o hb e=>eb b o hb e) f0 f1 f3 f4 f5⟩
 self:=fun _ _ _ _ _ st h=>wpAny_pyIter_rangeiter st h
end L2
namespace L2
open PySem PySem.Spec PyProof.Rows
section
variable {X:Cx}{tg:Expr}
theorem zs4 {pins:List (Addr × Obj)}{σ:St}{H:Hp}{s:Shared}{R:It->Hp->Prop}{E:Value->Shared->Prop}{lo hi:Int}{t u v:Tok}{tk:Nat} (I:Inv X pins σ H s) (h1:-(2 ^ 62)<=lo) (h2:lo < 2 ^ 62) (h3:-(2 ^ 62)<=hi) (h4:hi < 2 ^ 62)
  (q:R (Itr lo (hi - lo).toNat) H):wpAny (model X.prog X.w) X.A (pyIter (.ref s.heap.objs.size)) (PIE X pins σ tg R) E { s with heap:=s.heap.push { cls:=.type "range",data:=.fields #[.int lo t,.int hi u,.int 1 v] },toks:=tk }:=by
 refine wpAny_pyIter_range (IsRange.new ..) (small_one h1 h2 h3 h4) ?_;have I1:Inv X pins σ H { s with heap:=s.heap.push { cls:=.type "range",data:=.fields #[.int lo t,.int hi u,.int 1 v] },toks:=tk }:=I.kept fun b o e=>Heap.get?_push_of_some _ e;refine ⟨(s.heap.push { cls:=.type "range",data:=.fields #[.int lo t,.int hi u,.int 1 v] }).objs.size,[(s.heap.push { cls:=.type "range",data:=.fields #[.int lo t,.int hi u,.int 1 v] }).objs.size],_,_,H,rfl,
  I1.kept (t':=tk) fun b o e=>Heap.get?_push_of_some _ e,zn4 _ lo (hi - lo).toNat,?_,fun b hb=>?_,q⟩
 ·have e1 : lo + ((0 : Nat) : Int) * 1 = lo := by simp
  have e2:(((hi - lo).toNat:Nat):Int) - ((0:Nat):Int)=Builtin.Range.rangeSize lo hi 1:=by rw [rangeSize_one];split<;>omega
  show IsRangeIter _ _ (lo+((0:Nat):Int) * 1) ((((hi - lo).toNat:Nat):Int) - ((0:Nat):Int)) 1;rw [e1,e2];exact Heap.get?_push_size _ rfl
 ·have e : b = (s.heap.push { cls := .type "range", data := .fields #[.int lo t, .int hi u, .int 1 v] }).objs.size := by simpa using hb
  subst e;exact I1.fpOk (Nat.le_refl _) (I1.hok.fresh (Nat.le_refl _))
noncomputable def z2t (ta:TA):TI:=fun σ H R=>ta σ H fun vs H1=>∃j:Int,vs=[.int j]/\-(2 ^ 62)<=j/\j < 2 ^ 62/\R (Itr 0 j.toNat) H1
theorem zqk {a:Expr}{ta:TA}{p pos:Pos} (hg:Gl X "range") (hm:X.mg "range" = none) (ha:PA X [a] ta) (hs:starEach [a] X.env=[(false,eval a X.env)]:=by rfl):PI X tg (.Call (.Name "range" p) [a] [] pos) (z2t ta):=by
  intro pins s σ H R I h;refine Call_ (zc4 I hg hm boot_range (PyProof.Rows.callWith_type1 (thn (ha pos pins s σ H _ I h) fun us s1 ⟨vs,H1,I1,r1,q1⟩=>?_) hs rfl));refine aG fun _ qG=>?_;obtain ⟨j,e,q1,q2,q⟩:=q1;refine qG ?_;clear qG;subst e;cases r1 with
  | cons r rr =>
    cases rr;obtain ⟨t,rfl⟩:=r;exact call_range_1 (zs4 I1 (by omega) (by omega) q1 q2 (by simpa using q))
noncomputable def tFor (wi:TI) (g:TG) (tb:TS):TS:=fun D σ H=>wi σ H fun J H1=>∃W:Nat->Nat->St->Hp->Prop,(∃m,W 0 m σ H1)/\∀i m σ H,W i m σ H ->
 (J.stop i H/\D.nx σ H)\/(J.go i H/\∃N:St->Hp->Prop,(∀σ' H',N σ' H'->∃m',m' < m/\W (i+1) m' σ' H')/\∀x H',J.yld i H x H'->g x σ H' fun σ2 H2=>tb { D with nx:=N,ct:=N,bk:=D.nx } σ2 H2)
noncomputable def zhx (fp:List Addr) (h:Heap):List (Addr × Obj):=fp.filterMap fun b=>(h.get? b).map fun o=>(b,o)
theorem zc0 {fp:List Addr}{h:Heap}{b:Addr}{o:Obj} (hb:b∈fp) (e:h.get? b=some o):(b,o)∈zhx fp h:=List.mem_filterMap.mpr ⟨b,hb,by rw [e];rfl⟩
theorem zqt {fp:List Addr}{h:Heap}{p:Addr × Obj} (hp:p∈zhx fp h):p.1∈fp/\h.get? p.1=some p.2:=by
  obtain ⟨b,hb,e⟩:=List.mem_filterMap.mp hp;cases q:h.get? b with
  | none=>rw [q] at e;cases e
  | some o =>
    rw [q] at e;have e' : (b,o)=p:=sI e;subst e';exact ⟨hb,q⟩
theorem Inv.pinned {pins:List (Addr × Obj)}{σ:St}{H:Hp}{s:Shared}{fp:List Addr} (I:Inv X pins σ H s) (hf:∀b∈fp,FpOk X pins H b) (ho:∀b∈fp,∃o,s.heap.get? b=some o/\∀v,o.data≠.cell v):Inv X (pins++zhx fp s.heap) σ H s :=
 I.pins_of fun p hp=>(List.mem_append.mp hp).elim (fun z=>I.pin p (List.mem_append_right _ z)) fun z=>by
  refine aG fun _ qG=>?_;obtain ⟨hb,e⟩:=zqt z;obtain ⟨f0,f1,f2,_⟩:=hf p.1 hb;obtain ⟨o,e',d⟩:=ho p.1 hb;refine qG ?_;clear qG;rw [e] at e';obtain rfl:=sI e';exact ⟨e,f0,f1,f2,d⟩
theorem Inv.unpinned {pins pl:List (Addr × Obj)}{σ:St}{H:Hp}{s:Shared} (I:Inv X (pins++pl) σ H s):Inv X pins σ H s:=I.pins_of fun p hp=>I.pin p (List.mem_append_right _ (List.mem_append_left _ hp))
theorem z0w {iter:Expr}{body:List Stmt}{wi:TI}{g:TG}{tb:TS}{pos:Pos} (hp:PassesOwn (model X.prog X.w) X.A X.env X.xe) (hc:X.calm=true) (hi:PI X tg iter wi) (hg:PG X tg g) (hb:PSs X body tb)
  (hs:∀x,foldedSetIterable iter X.env x=pure x:=by intro _;rfl):PS X (.For tg iter body [] pos) (tFor wi g tb):=by
 intro pins s σ H D I h;refine wpAny_For (thn (hi pins s σ H _ I h) fun v s1 h1=>thn h1 fun itv s2 h2=>?_) hs;refine aG fun _ qG=>?_;obtain ⟨it,fp,tn,J,H2,e,I2,T,st2,f2,W,⟨m0,w0⟩,turn⟩:=h2;refine qG ?_;clear qG;subst e;have stat:∀{H' : Hp},(∀b∈fp,H' b=none)->∀b∈fp,FpOk X pins H' b:=fun hn b hb=>⟨hn b hb,(f2 b hb).2⟩;refine codeAny_forLoop_any (fun n s'=>∃i σ' H',Inv X pins σ' H' s'/\tn i s'.heap/\(∀b∈fp,H' b=none)/\W i n σ' H') ?_ m0 ⟨0,σ,H2,I2,st2,fun b hb=>(f2 b hb).1,w0⟩;rintro n s3 ⟨i,σ3,H3,I3,st3,fr3,w3⟩;rcases turn i n σ3 H3 w3 with ⟨stop,qn⟩ | ⟨go,N,hN,step⟩
 ·refine wpAny_passesOwn hp (thn (T.done X rfl rfl rfl hc i pins s3 σ3 H3 X.xe I3 (stat fr3) st3 stop) fun r s4 ⟨hr, I4⟩ => ?_);subst hr;exact wpAny_execs_nil ⟨σ3,H3,I4,qn⟩
 ·refine wpAny_passesOwn hp (thn (T.item X rfl rfl rfl hc i pins s3 σ3 H3 X.xe I3 (stat fr3) st3 go) fun r s4 ⟨u, hr, h4⟩ => ?_);subst hr;refine wpAny_passesOwn hp (thn h4 fun _ s5 ⟨x,H5,I5,r5,y5,st5,fr5⟩=>?_);have I5':=I5.pinned (stat fr5) (T.obj _ _ st5);refine wpAny_passesOwn hp (thn (hg _ s5 σ3 H5 x u _ I5' r5 (step x H5 y5)) fun _ s6 ⟨σ6,H6,I6,q6⟩=>?_);refine wpAny_passesOwn hp (thn (hb _ s6 σ6 H6 _ I6 q6) fun f s7 q7=>?_);have again:∀{σ7:St}{H7:Hp},Inv X (pins++zhx fp s5.heap) σ7 H7 s7->N σ7 H7->∃m,m < n/\∃i σ' H',Inv X pins σ' H' s7/\tn i s7.heap/\(∀b∈fp,H' b=none)/\W i m σ' H':=fun {σ7 H7} I7 n7=>by
   obtain ⟨m',hm,w7⟩:=hN σ7 H7 n7;refine ⟨m',hm,i+1,σ7,H7,I7.unpinned,T.keep _ _ _ st5 fun b hb o e=>(I7.pin (b,o) (List.mem_append_right _ (List.mem_append_right _ (zc0 hb e)))).1,fun b hb=>?_,w7⟩;obtain ⟨o,e,d⟩:=T.obj _ _ st5 b hb;exact (I7.pin (b,o) (List.mem_append_right _ (List.mem_append_right _ (zc0 hb e)))).2.1
  cases f with
  | next=>obtain ⟨σ7,H7,I7,n7⟩:=q7;exact again I7 n7
  | cont=>obtain ⟨σ7,H7,I7,n7⟩:=q7;exact again I7 n7
  | brk=>obtain ⟨σ7,H7,I7,q7⟩:=q7;exact ⟨σ7,H7,I7.unpinned,q7⟩
  | ret v=>obtain ⟨x7,σ7,H7,I7,r7,q7⟩:=q7;exact ⟨x7,σ7,H7,I7.unpinned,r7,q7⟩
end
end L2
namespace L2
open PySem PySem.Spec PyProof.Rows
noncomputable abbrev R2:=V->V->Hp->VK->Prop
noncomputable def OpR (X:Cx) (f:Value->Value->Sem Value) (r:R2):Prop :=
  ∀(pins:List (Addr × Obj)) (s:Shared) (σ:St) (H:Hp) (x y:V) (v u:Value) (Q:VK),Inv X pins σ H s->RelV x v->RelV y u->r x y H Q ->
    wpAny (model X.prog X.w) X.A (f v u) (EP X pins σ Q) X.xe s
noncomputable def UnR (X:Cx) (f:Value->Sem Value) (r:V->Hp->VK->Prop):Prop :=
  ∀(pins:List (Addr × Obj)) (s:Shared) (σ:St) (H:Hp) (x:V) (v:Value) (Q:VK),Inv X pins σ H s->RelV x v->r x H Q ->
    wpAny (model X.prog X.w) X.A (f v) (EP X pins σ Q) X.xe s
noncomputable def zbu (X:Cx) (f:Value) (r:List V->Hp->VK->Prop):Prop :=
  ∀(pins:List (Addr × Obj)) (s:Shared) (σ:St) (H:Hp) (xs:List V) (us:List Value) (Q:VK),Inv X pins σ H s->Vals xs us->r xs H Q ->
    wpAny (model X.prog X.w) X.A (call f us) (EP X pins σ Q) X.xe s
noncomputable def tOp (r:R2) (ta tb:TE):TE:=fun σ H Q=>ta σ H fun x H1=>tb σ H1 fun y H2=>r x y H2 Q
noncomputable def tUn (r:V->Hp->VK->Prop) (ta:TE):TE:=fun σ H Q=>ta σ H fun x H1=>r x H1 Q
noncomputable def rI (C:Int->Int->Prop) (g:Int->Int->V):R2:=fun x y H Q=>∃i j,x=.int i/\y=.int j/\C i j/\Q (g i j) H
noncomputable def rI0 (g:Int->Int->V):R2:=fun x y H Q=>∃i j,x=.int i/\y=.int j/\Q (g i j) H
noncomputable def rU (g:Int->V):V->Hp->VK->Prop:=fun x H Q=>∃i,x=.int i/\Q (g i) H
section
variable {X:Cx}{a b c:Expr}{ta tb tc:TE}{pos:Pos}
theorem binT (ha:PE X a ta) (hb:PE X b tb) {pins:List (Addr × Obj)}{s:Shared}{σ:St}{H:Hp}{R:V->V->Hp->Prop} (I:Inv X pins σ H s)
  (h:ta σ H fun x H1=>tb σ H1 fun y H2=>R x y H2) {Q:Value->Shared->Prop}{f:Value->Value->Sem Value}
  (hf:∀v u s2 x y H2,Inv X pins σ H2 s2->RelV x v->RelV y u->R x y H2->wpAny (model X.prog X.w) X.A (f v u) Q X.xe s2) :
  wpAny (model X.prog X.w) X.A (eval a X.env) (fun v s₁=>wpAny (model X.prog X.w) X.A (eval b X.env) (fun u s₂=>wpAny (model X.prog X.w) X.A (f v u) Q X.xe s₂) X.xe s₁) X.xe s:=by
 refine thn (ha pins s σ H _ I h) fun v s1 ⟨x,H1,I1,r1,q1⟩=>?_;refine thn (hb pins s1 σ H1 _ I1 q1) fun u s2 ⟨y,H2,I2,r2,q2⟩=>?_;exact hf v u s2 x y H2 I2 r1 r2 q2
theorem z5j {op:Operator}{r:R2} (ho:OpR X (binaryOp op) r) (ha:PE X a ta) (hb:PE X b tb):PE X (.BinOp a op b pos) (tOp r ta tb):=by
 intro pins s σ H Q I h;exact wpAny_BinOp (binT ha hb I h fun v u s2 x y H2 I2 rx ry q=>ho pins s2 σ H2 x y v u Q I2 rx ry q)
theorem z4s {op:UnaryOp}{r:V->Hp->VK->Prop} (ho:UnR X (unaryOp op) r) (ha:PE X a ta):PE X (.UnaryOp op a pos) (tUn r ta):=by
 intro pins s σ H Q I h;exact UnaryOp_ (thn (ha pins s σ H _ I h) fun v s1 ⟨x,H1,I1,r1,q1⟩=>ho pins s1 σ H1 x v Q I1 r1 q1)
theorem opI {f:Value->Value->Sem Value}{C:Int->Int->Prop}{g:Int->Int->Int}
  (rule:∀(i j:Int) (t u:Tok) (s:Shared) (Q:Value->Shared->Prop) (E:Value->Shared->Prop),C i j->Q (.int (g i j) s.toks) { s with toks:=s.toks+1 }->wpAny (model X.prog X.w) X.A (f (.int i t) (.int j u)) Q E s) :
  OpR X f (rI C fun i j=>.int (g i j)):=by
 intro pins s σ H x y v u Q I rx ry h;obtain ⟨i,j,rfl,rfl,hc,q⟩:=h;obtain ⟨t,rfl⟩:=rx;obtain ⟨t',rfl⟩:=ry;exact rule i j t t' s _ _ hc ⟨.int (g i j),H,I.tok _,⟨_,rfl⟩,q⟩
theorem opI0 {f:Value->Value->Sem Value}{g:Int->Int->Int}
  (rule:∀(i j:Int) (t u:Tok) (s:Shared) (Q:Value->Shared->Prop) (E:Value->Shared->Prop),Q (.int (g i j) s.toks) { s with toks:=s.toks+1 }->wpAny (model X.prog X.w) X.A (f (.int i t) (.int j u)) Q E s) :
  OpR X f (rI0 fun i j=>.int (g i j)):=by
 intro pins s σ H x y v u Q I rx ry h;obtain ⟨i,j,rfl,rfl,q⟩:=h;obtain ⟨t,rfl⟩:=rx;obtain ⟨t',rfl⟩:=ry;exact rule i j t t' s _ _ ⟨.int (g i j),H,I.tok _,⟨_,rfl⟩,q⟩
theorem opB0 {f:Value->Value->Sem Value}{g:Int->Int->Bool}
  (rule:∀(i j:Int) (t u:Tok) (s:Shared) (Q:Value->Shared->Prop) (E:Value->Shared->Prop),Q (.bool (g i j)) s->wpAny (model X.prog X.w) X.A (f (.int i t) (.int j u)) Q E s) :
  OpR X f (rI0 fun i j=>.bl (g i j)):=by
 intro pins s σ H x y v u Q I rx ry h;obtain ⟨i,j,rfl,rfl,q⟩:=h;obtain ⟨t,rfl⟩:=rx;obtain ⟨t',rfl⟩:=ry;exact rule i j t t' s _ _ ⟨.bl (g i j),H,I,rfl,q⟩
noncomputable def CPow (i j:Int):Prop:=0<=j/\j<=1000000/\i.natAbs < 2 ^ 64
noncomputable def CMul (i j:Int):Prop:=(-(2 ^ 64) < i/\i < 2 ^ 64)\/(-(2 ^ 64) < j/\j < 2 ^ 64)
theorem CMul.ok {i j:Int} (h:CMul i j):IntMulOk i j:=by
 rcases h with ⟨h1,h2⟩ | ⟨h1,h2⟩
 ·exact .of_left (intBits_le_64 h1 h2)
 ·exact .of_right (intBits_le_64 h1 h2)
theorem znl (k:Nat):(0:Int)<=2 ^ k:=by
 rw [two_pow_cast];exact Int.natCast_nonneg _
theorem z2u:OpR X (binaryOp .Add) (rI0 fun i j=>.int (i+j)):=opI0 fun _ _ _ _ _ _ _ q=>add_int q
theorem z01:OpR X (binaryOp .Sub) (rI0 fun i j=>.int (i - j)):=opI0 fun _ _ _ _ _ _ _ q=>sub_int q
theorem z20:OpR X (binaryOp .Mult) (rI CMul fun i j=>.int (i * j)):=opI fun _ _ _ _ _ _ _ hc q=>mul_int q hc.ok
theorem z17:OpR X (binaryOp .Mod) (rI (fun _ j=>0 < j) fun i j=>.int (i % j)):=opI fun i j _ _ _ _ _ hc q=>by
 have h1:(0:Int) < j:=hc;exact mod_int' (by omega) (by rw [Int.fmod_eq_emod_of_nonneg i (by omega)];exact q)
theorem z32:OpR X (binaryOp .Pow) (rI CPow fun i j=>.int (i ^ j.toNat)):=opI fun _ _ _ _ _ _ _ hc q=>pow_int_small hc.1 hc.2.1 hc.2.2 q
theorem z1q:OpR X (binaryOp .LShift) (rI CPow fun i j=>.int (i * 2 ^ j.toNat)):=opI fun _ _ _ _ _ _ _ hc q=>lshift_int_small hc.1 hc.2.1 hc.2.2 q
theorem z2z:OpR X (binaryOp .RShift) (rI (fun _ j=>0<=j) fun i j=>.int (i / 2 ^ j.toNat)):=opI fun i j _ _ _ _ _ hc q =>
 rshift_int hc (by rw [Int.fdiv_eq_ediv_of_nonneg i (znl _)];exact q)
theorem z1r:OpR X (binaryOp .BitAnd) (rI0 fun i j=>.int (Builtin.bitAnd i j)):=opI0 fun _ _ _ _ _ _ _ q=>and_int q
theorem z5a:OpR X (binaryOp .BitOr) (rI0 fun i j=>.int (Builtin.bitOr i j)):=opI0 fun _ _ _ _ _ _ _ q=>or_int q
theorem z1c:OpR X (binaryOp .BitXor) (rI0 fun i j=>.int (Builtin.bitXor i j)):=opI0 fun _ _ _ _ _ _ _ q=>xor_int q
theorem unI {f:Value->Sem Value}{g:Int->Int}
  (rule:∀(i:Int) (t:Tok) (s:Shared) (Q:Value->Shared->Prop) (E:Value->Shared->Prop),Q (.int (g i) s.toks) { s with toks:=s.toks+1 }->wpAny (model X.prog X.w) X.A (f (.int i t)) Q E s) :
  UnR X f (rU fun i=>.int (g i)):=by
 intro pins s σ H x v Q I rx h;obtain ⟨i,rfl,q⟩:=h;obtain ⟨t,rfl⟩:=rx;exact rule i t s _ _ ⟨.int (g i),H,I.tok _,⟨_,rfl⟩,q⟩
theorem z1x:UnR X (unaryOp .USub) (rU fun i=>.int (-i)):=unI fun _ _ _ _ _ q=>neg_int q
end
noncomputable def scal:V->V->Bool
 | .non,.non=>true | .non,.int _=>true | .int _,.non=>true | .non,.bl _=>true | .bl _,.non=>true | .non,.str _=>true | .str _,.non=>true
 | .int _,.int _=>true | .bl _,.bl _=>true | .str _,.str _=>true | .byt _,.byt _=>true
 | .int _,.str _=>true | .str _,.int _=>true | .bl _,.str _=>true | .str _,.bl _=>true
 | _,_=>false
noncomputable def rEq:R2:=fun x y H Q=>scal x y=true/\Q (.bl (decide (x=y))) H
noncomputable def rNe:R2:=fun x y H Q=>scal x y=true/\Q (.bl (!decide (x=y))) H
theorem zqn {i j:Int}:decide (V.int i=V.int j)=(i == j):=by
 rw [Bool.eq_iff_iff];simp
theorem zwf {i j:Bool}:decide (V.bl i=V.bl j)=(i == j):=by
 rw [Bool.eq_iff_iff];simp
theorem zpo {i j:Str}:decide (V.str i=V.str j)=(i == j):=by
 rw [Bool.eq_iff_iff];simp
theorem zro {i j:Array UInt8}:decide (V.byt i=V.byt j)=(i.toList == j.toList):=by
 rw [Bool.eq_iff_iff];cases i;cases j;simp
section
variable {X:Cx}{a b c:Expr}{ta tb tc:TE}{pos:Pos}
theorem zag {pins:List (Addr × Obj)}{σ:St}{H:Hp}{s:Shared}{Q:VK}{k k' : Bool} (I:Inv X pins σ H s) (q:Q (.bl k) H) (e:k=k'):EP X pins σ Q (.bool k') s:=by
 subst e;exact ⟨.bl k,H,I,rfl,q⟩
theorem z4v:OpR X (compareOp .Eq) rEq:=by
  intro pins s σ H x y v u Q I rx ry h;obtain ⟨hs,q⟩:=h;cases x with
  | non =>
    cases rx;cases y with
    | non=>cases ry;exact PySem.EqNone.eq_none_none (zag I q (by simp))
    | bl j=>cases ry;exact PySem.EqNone.eq_none_bool (zag I q (by simp))
    | int j=>obtain ⟨t',rfl⟩:=ry;exact PySem.EqNone.eq_none_int (zag I q (by simp))
    | str j=>obtain ⟨t',rfl⟩:=ry;exact PySem.EqNone.eq_none_str (zag I q (by simp))
    | _=>exact absurd (show false=true from hs) Bool.false_ne_true
  | bl i =>
    cases rx;cases y with
    | non=>cases ry;exact PySem.EqNone.eq_bool_none (zag I q (by simp))
    | bl j=>cases ry;exact eq_bool (zag I q zwf)
    | str j=>obtain ⟨t',rfl⟩:=ry;exact PySem.EqMixed.eq_bool_str (zag I q (by simp))
    | _=>exact absurd (show false=true from hs) Bool.false_ne_true
  | int i =>
    obtain ⟨t,rfl⟩:=rx;cases y with
    | non=>cases ry;exact PySem.EqNone.eq_int_none (zag I q (by simp))
    | int j=>obtain ⟨t',rfl⟩:=ry;exact eq_int (zag I q zqn)
    | str j=>obtain ⟨t',rfl⟩:=ry;exact PySem.EqMixed.eq_int_str (zag I q (by simp))
    | _=>exact absurd (show false=true from hs) Bool.false_ne_true
  | str i =>
    obtain ⟨t,rfl⟩:=rx;cases y with
    | non=>cases ry;exact PySem.EqNone.eq_str_none (zag I q (by simp))
    | bl j=>cases ry;exact PySem.EqMixed.eq_str_bool (zag I q (by simp))
    | int j=>obtain ⟨t',rfl⟩:=ry;exact PySem.EqMixed.eq_str_int (zag I q (by simp))
    | str j=>obtain ⟨t',rfl⟩:=ry;exact eq_str (zag I q zpo)
    | _=>exact absurd (show false=true from hs) Bool.false_ne_true
  | byt i =>
    obtain ⟨t,rfl⟩:=rx;cases y with
    | byt j=>obtain ⟨t',rfl⟩:=ry;exact PySem.W.eq_bytes (zag I q zro)
    | _=>exact absurd (show false=true from hs) Bool.false_ne_true
  | _=>cases y<;>exact absurd (show false=true from hs) Bool.false_ne_true
theorem z4i:OpR X (compareOp .NotEq) rNe:=by
  intro pins s σ H x y v u Q I rx ry h;obtain ⟨hs,q⟩:=h;cases x with
  | non =>
    cases rx;cases y with
    | non=>cases ry;exact PySem.EqNone.ne_none_none (zag I q (by simp))
    | bl j=>cases ry;exact PySem.EqNone.ne_none_bool (zag I q (by simp))
    | int j=>obtain ⟨t',rfl⟩:=ry;exact PySem.EqNone.ne_none_int (zag I q (by simp))
    | str j=>obtain ⟨t',rfl⟩:=ry;exact PySem.EqNone.ne_none_str (zag I q (by simp))
    | _=>exact absurd (show false=true from hs) Bool.false_ne_true
  | bl i =>
    cases rx;cases y with
    | non=>cases ry;exact PySem.EqNone.ne_bool_none (zag I q (by simp))
    | bl j=>cases ry;exact ne_bool (zag I q (congrArg not zwf))
    | str j=>obtain ⟨t',rfl⟩:=ry;exact PySem.EqMixed.ne_bool_str (zag I q (by simp))
    | _=>exact absurd (show false=true from hs) Bool.false_ne_true
  | int i =>
    obtain ⟨t,rfl⟩:=rx;cases y with
    | non=>cases ry;exact PySem.EqNone.ne_int_none (zag I q (by simp))
    | int j=>obtain ⟨t',rfl⟩:=ry;exact ne_int (zag I q (congrArg not zqn))
    | str j=>obtain ⟨t',rfl⟩:=ry;exact PySem.EqMixed.ne_int_str (zag I q (by simp))
    | _=>exact absurd (show false=true from hs) Bool.false_ne_true
  | str i =>
    obtain ⟨t,rfl⟩:=rx;cases y with
    | non=>cases ry;exact PySem.EqNone.ne_str_none (zag I q (by simp))
    | bl j=>cases ry;exact PySem.EqMixed.ne_str_bool (zag I q (by simp))
    | int j=>obtain ⟨t',rfl⟩:=ry;exact PySem.EqMixed.ne_str_int (zag I q (by simp))
    | str j=>obtain ⟨t',rfl⟩:=ry;exact ne_str (zag I q (congrArg not zpo))
    | _=>exact absurd (show false=true from hs) Bool.false_ne_true
  | byt i =>
    obtain ⟨t,rfl⟩:=rx;cases y with
    | byt j=>obtain ⟨t',rfl⟩:=ry;exact PySem.W.ne_bytes (zag I q (congrArg not zro))
    | _=>exact absurd (show false=true from hs) Bool.false_ne_true
  | _=>cases y<;>exact absurd (show false=true from hs) Bool.false_ne_true
theorem z2k:OpR X (compareOp .Lt) (rI0 fun i j=>.bl (decide (i < j))):=opB0 fun _ _ _ _ _ _ _ q=>lt_int q
theorem z4z:OpR X (compareOp .LtE) (rI0 fun i j=>.bl (decide (i<=j))):=opB0 fun _ _ _ _ _ _ _ q=>le_int q
theorem z4q:OpR X (compareOp .Gt) (rI0 fun i j=>.bl (decide (j < i))):=opB0 fun _ _ _ _ _ _ _ q=>gt_int q
theorem z5h:OpR X (compareOp .GtE) (rI0 fun i j=>.bl (decide (j<=i))):=opB0 fun _ _ _ _ _ _ _ q=>ge_int q
theorem OpR.or {f:Value->Value->Sem Value}{r r' : R2} (h:OpR X f r) (h' : OpR X f r'):OpR X f (fun x y H Q=>r x y H Q\/r' x y H Q):=by
 intro pins s σ H x y v u Q I rx ry q;rcases q with q | q
 ·exact h pins s σ H x y v u Q I rx ry q
 ·exact h' pins s σ H x y v u Q I rx ry q
theorem zwm (b:Expr) {op:CmpOp} (h:op≠.In:=by decide) (h2:op≠.NotIn:=by decide):behindInMarks op b=false:=by
 have e1:(op == CmpOp.In)=false:=by cases op<;>first | rfl | exact absurd rfl h
 have e2:(op == CmpOp.NotIn)=false:=by cases op<;>first | rfl | exact absurd rfl h2
 cases b<;>simp [behindInMarks,e1,e2]
theorem zqi {op:CmpOp}{r:R2} (ho:OpR X (compareOp op) r) (ha:PE X a ta) (hb:PE X b tb) (hm:behindInMarks op b=false):PE X (.Compare a [op] [b] pos) (tOp r ta tb):=by
 intro pins s σ H Q I h;exact wpAny_Compare1 (binT ha hb I h fun v u s2 x y H2 I2 rx ry q=>ho pins s2 σ H2 x y v u Q I2 rx ry q) hm
noncomputable def zxo (t:TE):TT:=fun σ H Q=>t σ H fun x H'=>∃k,x=.bl k/\Q k H'
theorem zph {op:CmpOp}{r:R2} (ho:OpR X (compareOp op) r) (ha:PE X a ta) (hb:PE X b tb) (hm:behindInMarks op b=false):PT X (.Compare a [op] [b] pos) (zxo (tOp r ta tb)):=by
 intro pins s σ H Q I h;refine wpAny_isTrue_Compare1 (thn (ha pins s σ H _ I h) fun v s1 ⟨x,H1,I1,r1,q1⟩=>thn (hb pins s1 σ H1 _ I1 q1) fun u s2 ⟨y,H2,I2,r2,q2⟩ =>
  thn (ho pins s2 σ H2 x y v u _ I2 r1 r2 q2) fun c s3 ⟨z,H3,I3,r3,k,e,q3⟩=>?_) hm
 subst e;cases r3;exact wpAny_truthy_bool ⟨H3,I3,q3⟩
noncomputable def zp0 (r r' : R2) (ta tb tc:TE):TE:=fun σ H Q=>ta σ H fun x H1=>tb σ H1 fun y H2=>r x y H2 fun z H3=>∃k,z=.bl k /\
 (if k=true then tc σ H3 fun w' H4=>r' y w' H4 Q else Q (.bl false) H3)
theorem zt4 {op op' : CmpOp}{r r' : R2} (ho:OpR X (compareOp op) r) (ho' : OpR X (compareOp op') r') (ha:PE X a ta) (hb:PE X b tb) (hc:PE X c tc)
  (hm:lastMarks [op,op'] [b,c]=false:=by with_unfolding_all rfl):PE X (.Compare a [op,op'] [b,c] pos) (zp0 r r' ta tb tc):=by
 intro pins s σ H Q I h;refine Compare_chain (thn (ha pins s σ H _ I h) fun v s1 ⟨x,H1,I1,r1,q1⟩=>chain_link (thn (hb pins s1 σ H1 _ I1 q1) fun u s2 ⟨y,H2,I2,r2,q2⟩ =>
  thn (ho pins s2 σ H2 x y v u _ I2 r1 r2 q2) fun d s3 ⟨z,H3,I3,r3,k,e,q3⟩=>?_)) hm
 subst e;cases r3;refine wpAny_truthy_bool ?_;cases k with
 | false=>exact ite_ff ⟨.bl false,H3,I3,rfl,q3⟩
 | true=>exact ite_tt (chain_last (thn (hc pins s3 σ H3 _ I3 q3) fun w' s4 ⟨z',H4,I4,r4,q4⟩=>ho' pins s4 σ H4 y z' u w' Q I4 r2 r4 q4))
theorem zul {op op' : CmpOp}{r r' : R2} (ho:OpR X (compareOp op) r) (ho' : OpR X (compareOp op') r') (ha:PE X a ta) (hb:PE X b tb) (hc:PE X c tc)
    (hm:lastMarks [op,op'] [b,c]=false:=by with_unfolding_all rfl):PT X (.Compare a [op,op'] [b,c] pos) (zxo (zp0 r r' ta tb tc)):=by
  intro pins s σ H Q I h;refine isTrue_chain (thn (ha pins s σ H _ I h) fun v s1 ⟨x,H1,I1,r1,q1⟩=>test_link (thn (hb pins s1 σ H1 _ I1 q1) fun u s2 ⟨y,H2,I2,r2,q2⟩ =>
    thn (ho pins s2 σ H2 x y v u _ I2 r1 r2 q2) fun d s3 ⟨z,H3,I3,r3,k,e,q3⟩=>?_)) hm
  subst e;cases r3;refine wpAny_truthy_bool ?_;cases k with
  | false =>
    obtain ⟨k',e',q'⟩:=q3;cases e';exact ite_ff ⟨H3,I3,q'⟩
  | true =>
    refine ite_tt (test_last (thn (hc pins s3 σ H3 _ I3 q3) fun w' s4 ⟨z',H4,I4,r4,q4⟩=>thn (ho' pins s4 σ H4 y z' u w' _ I4 r2 r4 q4) fun d' s5 ⟨z2,H5,I5,r5,k2,e2,q5⟩=>?_));subst e2;cases r5;exact wpAny_truthy_bool ⟨H5,I5,q5⟩
theorem zfq:(sizeLine:Nat) < 2 ^ 63:=by rw [sizeLine_eq];decide
theorem znm:OpR X (binaryOp .Add) (fun x y H Q=>∃i j,x=.str i/\y=.str j/\i.length+j.length<=sizeLine/\Q (.str (i++j)) H):=by
 intro pins s σ H x y v u Q I rx ry h;obtain ⟨i,j,rfl,rfl,hz,q⟩:=h;obtain ⟨t,rfl⟩:=rx;obtain ⟨t',rfl⟩:=ry;exact add_str (fun t' tk=>⟨.str (i++j),H,I.tok _,⟨_,rfl⟩,q⟩) hz
theorem vals1 {x:V}{us:List Value} (r:Vals [x] us):∃u,us=[u]/\RelV x u:=by
 cases r with
 | cons r1 r2=>cases r2;exact ⟨_,rfl,r1⟩
theorem z2s {x y:V}{us:List Value} (r:Vals [x,y] us):∃u w',us=[u,w']/\RelV x u/\RelV y w':=by
  cases r with
  | cons r1 r2 =>
    cases r2 with
    | cons r3 r4=>cases r4;exact ⟨_,_,rfl,r1,r3⟩
theorem zun:zbu X (.builtin "abs") (fun xs H Q=>∃i,xs=[.int i]/\Q (.int (if i < 0 then -i else i)) H):=by
 intro pins s σ H xs us Q I r h;obtain ⟨i,rfl,q⟩:=h;obtain ⟨u,rfl,t,rfl⟩:=vals1 r;exact call_abs_int fun u tk=>⟨.int (if i < 0 then -i else i),H,I.tok _,⟨_,rfl⟩,q⟩
theorem zr7 (hc:X.calm=true):zbu X (.builtin "max") (fun xs H Q=>∃i j,xs=[.int i,.int j]/\Q (.int (if j > i then j else i)) H):=by
 intro pins s σ H xs us Q I r h;refine aG fun _ qG=>?_;obtain ⟨i,j,rfl,q⟩:=h;obtain ⟨u,w',rfl,⟨t,rfl⟩,⟨t',rfl⟩⟩:=z2s r;refine qG ?_;clear qG;refine max_two_ints (I.ok.hd hc) fun h' tk k=>⟨_,H,I.kept k,?_,q⟩;by_cases hj:j > i
 ·rw [if_pos hj,if_pos hj];exact ⟨_,rfl⟩
 ·rw [if_neg hj,if_neg hj];exact ⟨_,rfl⟩
theorem zrw (hc:X.calm=true):zbu X (.builtin "min") (fun xs H Q=>∃i j,xs=[.int i,.int j]/\Q (.int (if j < i then j else i)) H):=by
 intro pins s σ H xs us Q I r h;obtain ⟨i,j,rfl,q⟩:=h;obtain ⟨u,w',rfl,⟨t,rfl⟩,⟨t',rfl⟩⟩:=z2s r;refine min_two_ints (I.ok.hd hc) fun h' tk k=>⟨_,H,I.kept k,?_,q⟩;by_cases hj:j < i
 ·rw [if_pos hj,if_pos hj];exact ⟨_,rfl⟩
 ·rw [if_neg hj,if_neg hj];exact ⟨_,rfl⟩
theorem zrp:zbu X (.type "int") (fun xs H Q=>(∃i,xs=[.int i]/\Q (.int i) H)\/∃k,xs=[.bl k]/\Q (.int (if k then 1 else 0)) H):=by
 intro pins s σ H xs us Q I r h;rcases h with ⟨i,rfl,q⟩ | ⟨k,rfl,q⟩
 ·obtain ⟨u, rfl, t, rfl⟩ := vals1 r;exact call_int_int ⟨.int i,H,I,⟨_,rfl⟩,q⟩
 ·obtain ⟨u, rfl, r1⟩ := vals1 r;cases r1;exact call_int_bool ⟨.int (if k then 1 else 0),H,I.tok _,⟨_,rfl⟩,q⟩
end
end L2
namespace L2
open PySem PySem.Spec PyProof.Rows
structure ObjM (h:Heap) (x dx C:Addr) (mA:Str->Option Value):Prop where
 obj:h.get? x=some (PySem.W.instObj C dx)
 ns:h.Ns1 dx mA
 ne:dx≠x
theorem zq1 {h:Heap}{dx:Addr}{mA:Str->Option Value} (n:h.Ns1 dx mA):∃od,h.get? dx=some od/\∀name,PySem.W.lookIn name od=some (mA name):=by
 refine aG fun _ qG=>?_;obtain ⟨o,es,ep,ho,hd,hk,_,hm⟩:=n;refine qG ?_;clear qG;refine ⟨o,ho,fun name=>?_⟩;have e:=hm name;unfold nsFind findBy at e;rw [<-Array.find?_toList] at e;unfold PySem.W.lookIn;rw [hd];dsimp only;split
 ·rename_i y q;rw [q] at e;exact congrArg some e
 ·rename_i q;rw [q] at e;have a:es.toList.any (·.refKey)=false:=by
   rw [List.any_eq_false];intro y hy;obtain ⟨z,t,hkey⟩:=hk y (Array.mem_toList_iff.mp hy);simp [DictEntry.refKey,hkey]
  have a' : ¬ es.toList.any (·.refKey)=true:=by rw [a];exact Bool.false_ne_true
  rw [if_neg a'];exact congrArg some e
theorem ObjM.look {h:Heap}{x dx C:Addr}{mA:Str->Option Value} (I:ObjM h x dx C mA):∃od,PySem.W.InstAt h x (PySem.W.instObj C dx) C (some od)/\∀name,PySem.W.lookIn name od=some (mA name) :=
 let ⟨od,ho,hl⟩:=zq1 I.ns
 ⟨od,⟨I.obj,rfl,rfl,ho⟩,hl⟩
section
variable {prog:Program}{w:World}{A:Around}{E:Value->Shared->Prop}{s:Shared}{K:PySem.W.Frag}{x dx C f:Addr}{mA:Str->Option Value}{name:Str}{v:Value}
end
section
variable {P:Program}{w:World}{H H' : Hp}{h h' : Heap}{a C dx:Addr}{fs fs' : List (Str × V)}
theorem z0d (hok:HOk P w H h) (e:H a=some (.ins C dx fs)):∃mA,ObjM h a dx C mA/\(∀f,RelO (fs.lookup f) (mA f))/\PySem.Within mA (fs.map (·.1))/\fs.length<=1000/\H dx=some (.own a):=by
 refine aG fun _ qG=>?_;obtain ⟨d,z,ne,ob,mA,n,r,q⟩:=(show zbd P w H h a (.ins C dx fs) from hok a _ e);refine qG ?_;clear qG;exact ⟨mA,⟨ob,n,ne⟩,r,q,z,d⟩
end
structure Cls (K:PySem.W.Frag) (C:Addr):Prop where
 pg:PySem.W.plainGet K C Str.empty=true
 hd:PySem.W.hasDictIn K C=true
 po:PySem.W.plainOver K C=true
 sa:PySem.W.findIn K (.ref C) "__setattr__" = some (some (.builtin "object.__setattr__"))
theorem Cls.get {K:PySem.W.Frag}{C:Addr} (c:Cls K C) (f:Str):PySem.W.plainGet K C f=true:=c.pg
section
variable {X:Cx}{pins:List (Addr × Obj)}{σ:St}{H:Hp}{s:Shared}{a C dx:Addr}{fs:List (Str × V)}{f:Str}{v:V}{A:Around}{E:Value->Shared->Prop}
end
section
variable {X:Cx}{o e value:Expr}{f:Str}{pos pos' tpos:Pos}{ta tv:TE}
end
section
variable {X:Cx}{pins:List (Addr × Obj)}{σ:St}{H:Hp}{s:Shared}{A:Around}{E:Value->Shared->Prop}{Q:Value->Shared->Prop}{c:Value}{b:Bool}
inductive TyOf (K:PySem.W.Frag) (H:Hp):V->Value->Prop where
 | non:TyOf K H .non (.type "NoneType")
 | bl (x:Bool):TyOf K H (.bl x) (.type "bool")
 | int (i:Int):TyOf K H (.int i) (.type "int")
 | str (x:Str):TyOf K H (.str x) (.type "str")
 | flt (x:UInt64):TyOf K H (.flt x) (.type "float")
 | lst {a:Addr}{xs:List V} (e:H a=some (.lst xs)):TyOf K H (.ref a) (.type "list")
 | frz {a:Addr}{o:Obj}{xs:List V} (e:H a=some (.frz o (.lst xs))):TyOf K H (.ref a) (.type "list")
 | tup {a:Addr}{xs:List V} (e:H a=some (.tup xs)):TyOf K H (.ref a) (.type "tuple")
 | dK {a:Addr}{kvs:List (Key × V)} (e:H a=some (.dK kvs)):TyOf K H (.ref a) (.type "dict")
 | dT {a:Addr}{kvs:List (List Key × V)} (e:H a=some (.dT kvs)):TyOf K H (.ref a) (.type "dict")
 | ins {a C dx:Addr}{fs:List (Str × V)} (e:H a=some (.ins C dx fs)) (cl:Cls K C) (ha:PySem.W.findIn K (.ref C) "__class__" = some (some (.builtin "object.__class__")))
   (hn:PySem.W.specialIn K (.builtin "object.__class__") "__get__" = some (some (.builtin "getset_descriptor.__get__"))) (htk:PySem.W.takesIn K (.builtin "object.__class__")=some true)
   (hm:PySem.W.mroIn K C (.type "object")=some true):TyOf K H (.ref a) (.ref C)
theorem zqx {x:V}{u t:Value} (I:Inv X pins σ H s) (rx:RelV x u) (ty:TyOf X.K H x t) (e:PySem.W.kitOne X.K t c=some b) (h:∀tk,Q (.bool b) { s with toks:=tk }) :
    wpAny (model X.prog X.w) A (call (.builtin "isinstance") [u,c]) Q E s:=by
  cases ty with
  | non=>cases (show u=Value.none from rx);exact PySem.W.kia_one PySem.W.kitx_none I.kIn True.intro e (fun z=>nomatch z) h
  | bl y=>cases (show u=Value.bool y from rx);exact PySem.W.kia_one PySem.W.kitx_bool I.kIn True.intro e (fun z=>nomatch z) h
  | int i=>obtain ⟨t,q⟩:=(show ∃t,u=Value.int i t from rx);cases q;exact PySem.W.kia_one PySem.W.kitx_int I.kIn True.intro e (fun z=>nomatch z) h
  | str y=>obtain ⟨t,q⟩:=(show ∃t,u=Value.str y t from rx);cases q;exact PySem.W.kia_one PySem.W.kitx_str I.kIn True.intro e (fun z=>nomatch z) h
  | flt y=>obtain ⟨t,q⟩:=(show ∃t,u=Value.float y t from rx);cases q;exact PySem.W.kia_one PySem.W.kitx_float I.kIn True.intro e (fun z=>nomatch z) h
  | @lst a xs ea =>
    cases (show u=Value.ref a from rx);obtain ⟨_,_,n,_,h1⟩:=(show zbd X.prog X.w H s.heap a (.lst xs) from I.hok a _ ea);exact PySem.W.kia_one PySem.W.kitx_list I.kIn ⟨_,h1,rfl⟩ e (fun z=>nomatch z) h
  | @frz a ob xs ea =>
    cases (show u=Value.ref a from rx);obtain ⟨_,_,_,n,_,h1⟩:=(show zbd X.prog X.w H s.heap a (.frz ob (.lst xs)) from I.hok a _ ea);exact PySem.W.kia_one PySem.W.kitx_list I.kIn ⟨_,h1,rfl⟩ e (fun z=>nomatch z) h
  | @tup a xs ea =>
    cases (show u=Value.ref a from rx);obtain ⟨_,_,_,p⟩:=(show zbd X.prog X.w H s.heap a (.tup xs) from I.hok a _ ea);obtain ⟨o,h1,h2,_⟩:=p;exact PySem.W.kia_one PySem.W.kitx_tuple I.kIn ⟨o,h1,h2.1⟩ e (fun z=>nomatch z) h
  | @dK a kvs ea =>
    cases (show u=Value.ref a from rx);obtain ⟨_,_,vs,_,p⟩:=(show zbd X.prog X.w H s.heap a (.dK kvs) from I.hok a _ ea);obtain ⟨o,es,ep,h1,h2,_⟩:=p;exact PySem.W.kia_one PySem.W.kitx_dict I.kIn ⟨o,h1,h2.1⟩ e (fun z=>nomatch z) h
  | @dT a kvs ea =>
    cases (show u=Value.ref a from rx);obtain ⟨_,_,xs,_,o,es,ep,h1,h2,_⟩:=(show zbd X.prog X.w H s.heap a (.dT kvs) from I.hok a _ ea);exact PySem.W.kia_one PySem.W.kitx_dict I.kIn ⟨o,h1,h2.1⟩ e (fun z=>nomatch z) h
  | @ins a C dx fs ea cl ha hn htk hm =>
    cases (show u=Value.ref a from rx);obtain ⟨mA,O,_⟩:=z0d I.hok ea;obtain ⟨od,J,_⟩:=O.look;exact PySem.W.kia_one (PySem.W.kitx_own (cl.get _) cl.hd ha hn htk hm) I.kIn J e (fun z=>nomatch z) h
end
end L2
namespace L2
open PySem PySem.Spec PyProof.Rows
structure Room (k:Nat) (A:Around):Prop where
 hd:A.handled=none
 dp:A.depth+3 * k+5 < recursionLimit
 un:A.units+16 * k+200 < cLine
 gd:A.guards=some []
theorem Room.mono {j k:Nat}{A:Around} (r:Room k A) (h:j<=k):Room j A:=⟨r.hd,by have:=r.dp;omega,by have:=r.un;omega,r.gd⟩
theorem Room.deeper {k:Nat}{A:Around} (r:Room (k+1) A) (env:Env):Room k (A.deeper env) :=
 ⟨r.hd,by have:=r.dp;show A.depth+1+3 * k+5 < _;omega,by have:=r.un;show A.units+3+16 * k+200 < _;omega,r.gd⟩
theorem Room.depth {k:Nat}{A:Around} (r:Room k A):A.depth < recursionLimit:=by have:=r.dp;omega
noncomputable def tNil:TA:=fun _ H Q=>Q [] H
noncomputable def zcp (ta:TE) (tr:TA):TA:=fun σ H Q=>ta σ H fun x H1=>tr σ H1 fun xs H2=>Q (x::xs) H2
section
variable {X:Cx}{e:Expr}{es:List Expr}{te:TE}{t:TA}{pos:Pos}
theorem zbt:PA X [] tNil:=fun _ _ _ _ H Q I h=>Calls.spliced_nil ⟨[],H,I,.nil,h⟩
theorem zry (ha:PE X e te) (hr:PA X es t) (hs:starEach (e::es) X.env=(false,eval e X.env)::starEach es X.env:=by rfl):PA X (e::es) (zcp te t):=by
 intro pos pins s σ H Q I h;rw [hs];show wpAny _ _ (spliced ((false,eval e X.env)::backTo pos (starEach es X.env))) _ _ s;refine Calls.spliced_cons (thn (ha pins s σ H _ I h) fun u s1 ⟨x,H1,I1,r1,q1⟩=>?_);exact thn (hr pos pins s1 σ H1 _ I1 q1) fun us s2 ⟨xs,H2,I2,r2,q2⟩=>⟨x::xs,H2,I2,.cons r1 r2,q2⟩
noncomputable def tTup (t:TA):TE:=fun σ H Q=>t σ H fun xs H1=>xs.length<=sizeLine/\∀p,H1 p=none->Q (.ref p) (upd H1 p (.tup xs))
noncomputable def tLst (t:TA):TE:=fun σ H Q=>t σ H fun xs H1=>xs.length<=sizeLine/\∀p,H1 p=none->Q (.ref p) (upd H1 p (.lst xs))
theorem z34 {x1} (h:PA X es t):PE X (.Tuple es x1 pos) (tTup t):=by
 intro pins s σ H Q I hq;refine wpAny_Tuple_spliced (thn (h pos pins s σ H _ I hq) fun us s1 ⟨xs,H1,I1,r,z,q⟩=>⟨by rw [<-r.length];exact z,?_⟩);have hf:H1 s1.heap.objs.size=none:=I1.hok.fresh (Nat.le_refl _);refine ⟨.ref s1.heap.objs.size,upd H1 s1.heap.objs.size (.tup xs),I1.laid (t':=s1.toks) (fun b u e=>Heap.get?_push_of_some _ e) (Nat.le_refl _) ?_,rfl,q _ hf⟩;exact ⟨z,us,r,⟨_,Heap.get?_push_size _ rfl,⟨rfl,_,rfl⟩,rfl⟩⟩
theorem z3d (h:PA X es t):PE X (.List es pos) (tLst t):=by
 intro pins s σ H Q I hq;refine wpAny_List_spliced (thn (h pos pins s σ H _ I hq) fun us s1 ⟨xs,H1,I1,r,z,q⟩=>⟨by rw [<-r.length];exact z,?_⟩);have hf:H1 s1.heap.objs.size=none:=I1.hok.fresh (Nat.le_refl _);refine ⟨.ref s1.heap.objs.size,upd H1 s1.heap.objs.size (.lst xs),I1.laid (t':=s1.toks) (fun b u e=>Heap.get?_push_of_some _ e) (Nat.le_refl _) ?_,rfl,q _ hf⟩;exact ⟨z,us,0,r,Heap.get?_push_size _ rfl⟩
end
noncomputable abbrev Sp:=List V->Hp->VK->XK->Prop
noncomputable abbrev CXT:=List Env->Hp->Shared->XK->Value->Shared->Prop
structure Env0 (P:Program) (w:World) (K:PySem.W.Frag) (mg:Str->Option Value) (base:Heap) (A:Around) (outer:List Env) (s:Shared) (H:Hp):Prop where
 frames:A.frames=some outer
 mod:Mod K mg base
 bs:∀b o,base.get? b=some o->s.heap.get? b=some o/\H b=none
 bsz:base.objs.size<=s.heap.objs.size
 funs:s.heap.FunFrames base outer
 frf:∀b∈frs outer,H b=none
 hok:HOk P w H s.heap
 bare:AllBare s.gens
noncomputable def CE (outer:List Env) (P:Program) (w:World) (H:Hp) (s:Shared) (Q:VK) (u:Value) (s' : Shared):Prop :=
 ∃v H',s'.os=s.os/\AllBare s'.gens/\Un (frs outer) [] H H' s.heap s'.heap/\HOk P w H' s'.heap/\RelV v u/\Q v H'
noncomputable def CR (CX:CXT) (outer:List Env) (P:Program) (w:World) (H:Hp) (s:Shared) (Q:VK) (E:XK) (r:Result) (s' : Shared):Prop :=
 match r with
 | .ok (.ret u)=>CE outer P w H s Q u s'
 | .ok _=>False
 | .error e=>CX outer H s E e s'
structure FnOk (P:Program) (w:World) (K:PySem.W.Frag) (mg:Str->Option Value) (base:Heap) (CX:CXT) (k:Nat) (f:Addr) (fd:FuncData) (ps:List Str) (sp:Sp):Prop where
 len:∀vs H Q E,sp vs H Q E->vs.length=ps.length
 run:∀(A:Around) (outer:List Env) (s:Shared) (H:Hp) (args:Args) (us:List Value) (vs:List V) (Q:VK) (E:XK),Room k A->Env0 P w K mg base A outer s H->BindsTo s fd args (ps.zip us)->Vals vs us->sp vs H Q E ->
  codeAny (model P w) A (.call (.ref f) args) (CR CX outer P w H s Q E) s
section
variable {X:Cx}{pins:List (Addr × Obj)}{σ:St}{H:Hp}{s s' : Shared}
theorem Inv.env0 (I:Inv X pins σ H s):Env0 X.prog X.w X.K X.mg X.base X.A X.stack s H :=
 ⟨I.ok.frames,I.ok.mod,I.bs,Nat.le_trans I.ok.bsz I.sz,I.stack,I.stkFree,I.hok,I.bare⟩
theorem Inv.after {Q:VK}{u:Value} (I:Inv X pins σ H s) (h:CE X.stack X.prog X.w H s Q u s'):EP X pins σ Q u s':=by
 refine aG fun _ qG=>?_;obtain ⟨v,H',os,bare,un,hok,r,q⟩:=h;obtain ⟨hh,g,d,t,os'⟩:=s';refine qG ?_;clear qG;obtain rfl:os'=s.os:=os;exact ⟨v,H',I.call (h':=hh) (g':=g) (d':=d) (t':=t) (ch:=[]) un hok bare (fun b z=>absurd z (by simp)),r,q⟩
end
noncomputable def z0h (sp:Sp) (dvs:List V) (E:XK) (t:TA):TE:=fun σ H Q=>t σ H fun vs H1=>sp (vs++dvs) H1 Q E
noncomputable def zlu (K:PySem.W.Frag) (fd:FuncData) (ps:List Str) (ds:List Value):Prop :=
 ∀(s:Shared) (us:List Value),K.In s.heap->(us++ds).length=ps.length->BindsTo s fd ⟨us,[]⟩ (ps.zip (us++ds))
theorem zlu.all {K:PySem.W.Frag}{fd:FuncData}{ps:List Str} (h:∀us:List Value,us.length=ps.length->bindArgs fd ⟨us,[]⟩=pure (ps.zip us)):zlu K fd ps []:=fun s us _ hl=>by
 rw [List.append_nil] at hl ⊢;exact .of_eq (h us hl)
noncomputable def zr6 (CX:CXT) (X:Cx) (E:XK):Prop:=∀(pins:List (Addr × Obj)) (σ:St) (H:Hp) (s:Shared) (e:Value) (s' : Shared),Inv X pins σ H s->CX X.stack H s E e s'->X.xe e s'
section
variable {X:Cx}{CX:CXT}{k:Nat}{f C:Addr}{fd:FuncData}{ps:List Str}{sp:Sp}{dvs:List V}{ds:List Value}{E:XK}{x m:Str}{p pos apos:Pos}{e o:Expr}{es:List Expr}{ta:TE}{t:TA}
theorem z07 {pins:List (Addr × Obj)}{σ:St}{H:Hp}{s:Shared}{Q:VK}{us:List Value}{vs:List V} (F:FnOk X.prog X.w X.K X.mg X.base CX k f fd ps sp) (hr:Room k X.A) (hb:zlu X.K fd ps ds) (hd:Vals dvs ds) (hx:zr6 CX X E)
    (I:Inv X pins σ H s) (r:Vals vs us) (h:sp (vs++dvs) H Q E):wpAny (model X.prog X.w) X.A (call (.ref f) us) (EP X pins σ Q) X.xe s:=by
  have r2:Vals (vs++dvs) (us++ds):=r.append hd;have hl:(us++ds).length=ps.length:=by rw [<-r2.length];exact F.len _ _ _ _ h
  refine wpAny_call (codeAny_mono (F.run X.A X.stack s H ⟨us,[]⟩ (us++ds) (vs++dvs) Q E hr I.env0 (hb s us I.kIn hl) r2 h) fun r s' hq=>?_);cases r with
  | error e=>exact hx pins σ H s e s' I hq
  | ok fl =>
    cases fl with
    | ret u=>exact I.after hq
    | next=>exact False.elim hq
    | brk=>exact False.elim hq
    | cont=>exact False.elim hq
theorem z0l (F:FnOk X.prog X.w X.K X.mg X.base CX k f fd ps sp) (hr:Room k X.A) (hg:Gl X x) (hm:X.mg x=some (.ref f)) (hk:PySem.W.keepIn X.K (.ref f)=true) (hb:zlu X.K fd ps ds) (hd:Vals dvs ds) (hx:zr6 CX X E)
  (ha:PA X (e::es) t) (hdb:(x == ("__debug__" : Str))=false:=by decide) (he:starEach (e::es) X.env=(false,eval e X.env)::starEach es X.env:=by rfl) (hpl:(backTo pos (starEach es X.env)).any (·.1)=false:=by rfl) :
  PE X (.Call (.Name x p) (e::es) [] pos) (z0h sp dvs E t):=by
 intro pins s σ H Q I h;refine wpAny_Call_Name_kw (zqq I hg hm ?_ hdb);refine PySem.W.callWith_K (h₀:=X.base) I.ok.mod.kin hk (thn (ha pos pins s σ H _ I h) fun us s1 ⟨vs,H1,I1,r,q⟩=>⟨I1.kIn,?_⟩) he hpl;exact z07 F hr hb hd hx I1 r q
end
section
variable {X:Cx}{CX:CXT}{k:Nat}{f C:Addr}{fd:FuncData}{ps ks:List Str}{sp:Sp}{E:XK}{x m:Str}{p pos apos kpos:Pos}{e o:Expr}{es:List Expr}{kws:List Keyword}{te ta:TE}{t tk:TA}{nm:Option Str}
variable {g:List Value->List Value->List Value}{gV:List V->List V->List V}
end
structure FnScope (N P:List Str) (sc:Scope):Prop where
 kind:sc.kind=.function
 co:sc.isCoroutine=false
 gen:sc.isGenerator=false
 nd:N.Nodup
 pre:N.take P.length=P
 par:∀x∈P,sc.names.lookup x=some .local\/sc.names.lookup x=some .cell
 nofree:∀y∈sc.names,y.2≠.free
theorem zjh {kindOf:Str->Option NameKind}{x:Str}:∀{binds:List (Str × Value)}{m:Str->Option Value},(∀v,(x,v) ∉ binds)->bindL kindOf binds m x=m x
  | [],_,_=>rfl
  | (n,v)::r,m,h=>by
    unfold bindL;rw [zjh fun w hw=>h w (List.mem_cons_of_mem _ hw)];split
    · have : x ≠ n := by rintro rfl; exact h v List.mem_cons_self
      simp [this]
    · rfl
theorem zjz {kindOf:Str->Option NameKind}{x:Str}:∀{binds:List (Str × Value)}{m:Str->Option Value},(∀v,(x,v) ∉ binds)->bindC kindOf binds m x=m x
  | [],_,_=>rfl
  | (n,v)::r,m,h=>by
    unfold bindC;rw [zjz fun w hw=>h w (List.mem_cons_of_mem _ hw)];split
    · rfl
    · have : x ≠ n := by rintro rfl; exact h v List.mem_cons_self
      simp [this]
theorem zir {kindOf:Str->Option NameKind}{x:Str}{v:Value}:∀{P:List Str}{vs:List Value}{i:Nat}{m:Str->Option Value},P.Nodup->P[i]?=some x->vs[i]?=some v->kindOf x=some .local ->
    bindL kindOf (P.zip vs) m x=some v
  | [],_,_,_,_,h,_,_=>by simp at h
  | _::_,[],_,_,_,_,h,_=>by simp at h
  | p::P,w::vs,0,m,nd,h1,h2,hk=>by
    simp at h1 h2;subst h1;subst h2;show bindL kindOf ((p,w)::P.zip vs) m p=_;unfold bindL;rw [zjh fun v hv=>(List.nodup_cons.mp nd).1 (List.of_mem_zip hv).1,if_pos hk];simp
  | p::P,w::vs,i+1,m,nd,h1,h2,hk=>by
    show bindL kindOf ((p,w)::P.zip vs) m x=_;unfold bindL;exact zir (i:=i) (List.nodup_cons.mp nd).2 (by simpa using h1) (by simpa using h2) hk
theorem zjj {kindOf:Str->Option NameKind}{x:Str}{v:Value}:∀{P:List Str}{vs:List Value}{i:Nat}{m:Str->Option Value},P.Nodup->P[i]?=some x->vs[i]?=some v->kindOf x≠some .local ->
    bindC kindOf (P.zip vs) m x=some v
  | [],_,_,_,_,h,_,_=>by simp at h
  | _::_,[],_,_,_,_,h,_=>by simp at h
  | p::P,w::vs,0,m,nd,h1,h2,hk=>by
    simp at h1 h2;subst h1;subst h2;show bindC kindOf ((p,w)::P.zip vs) m p=_;unfold bindC;rw [zjz fun v hv=>(List.nodup_cons.mp nd).1 (List.of_mem_zip hv).1,if_neg hk];simp
  | p::P,w::vs,i+1,m,nd,h1,h2,hk=>by
    show bindC kindOf ((p,w)::P.zip vs) m x=_;unfold bindC;exact zjj (i:=i) (List.nodup_cons.mp nd).2 (by simpa using h1) (by simpa using h2) hk
noncomputable def start (N:List Str) (vs:List V):St:=vs.map some++List.replicate (N.length - vs.length) none
noncomputable def cxOf (CX:CXT) (P:Program) (w:World) (K:PySem.W.Frag) (mg:Str->Option Value) (base:Heap) (N:List Str) (qual:Str) (scope:Scope) (f:Addr) (cd:Value) (A:Around) (outer:List Env) (s:Shared) (H:Hp) (E:XK):Cx where
 prog:=P
 w:=w
 K:=K
 mg:=mg
 base:=base
 A:=A.deeper (envOfC qual scope s.heap.objs.size f cd)
 N:=N
 s₀:=s
 H₀:=H
 env:=envOfC qual scope s.heap.objs.size f cd
 outer:=outer
 stack:=envOfC qual scope s.heap.objs.size f cd::outer
 ex:=[]
 calm:=true
 fn:=fun _=>true
 pn:=[]
 xe:=fun e s'=>wpAny (model P w) (A.deeper (envOfC qual scope s.heap.objs.size f cd)) (leaving (envOfC qual scope s.heap.objs.size f cd) e) (fun _ s''=>CX outer H s E e s'') (fun e' s''=>CX outer H s E e' s'') s'
theorem cell_has {sc:Scope}{n:Nat}{x:Str} (h:sc.names.lookup x=some .cell):∃c,(cellsFrom n sc.names []).lookup x=some c:=by
 have q:=PySem.W.cellsFrom_some sc.names n [] (.inl h);exact Option.isSome_iff_exists.mp q
theorem zhr {CX:CXT}{P:Program}{w:World}{K:PySem.W.Frag}{mg:Str->Option Value}{base:Heap}{N ps:List Str}{qual:Str}{scope:Scope}{f:Addr}{cd:Value}{A:Around}{outer:List Env}{s s1:Shared}{H:Hp}{E:XK}{us:List Value}{vs:List V}
  (S:FnScope N ps scope) (hd:A.handled=none) (e0:Env0 P w K mg base A outer s H) (hl:vs.length=ps.length) (r:Vals vs us)
  (x:InCallC s s.heap.objs.size (bindL (envOfC qual scope s.heap.objs.size f cd).kindOf (ps.zip us) fun _=>none) (cellsFrom (s.heap.objs.size+1) scope.names []) (bindC (envOfC qual scope s.heap.objs.size f cd).kindOf (ps.zip us) fun _=>none) s1) :
  Inv (cxOf CX P w K mg base N qual scope f cd A outer s H E) [] (start N vs) H s1:=by
 have hpl:ps.length<=N.length:=by have:=congrArg List.length S.pre;rw [List.length_take] at this;omega
 obtain ⟨h1,tk,rfl,hk⟩:=x.done;have noA:∀b:Addr,b ∉ (cxOf CX P w K mg base N qual scope f cd A outer s H E).ex:=fun b z=>absurd (show b∈([]:List Addr) from z) (by simp);refine ⟨⟨e0.mod,S.kind,rfl,rfl,Nat.le_refl _,fun y z c h1 h2=>?_,fun y hy=>?_,fun y c _ h=>?_,fun _=>hd,Around.frames_deeper e0.frames,.inr ⟨rfl,rfl⟩,fun b z=>absurd z (noA b),e0.bs,e0.bsz,fun b _ _=>noA b,fun b z=>absurd z (noA b),e0.funs,e0.frf⟩,
  rfl,e0.bare,Un.kept hk,⟨_,x.toInCall.ns,fun i y v h1 h2 h3=>?_⟩,fun y c h=>⟨_,x.cell y c h⟩,e0.hok.fresh (Nat.le_refl _),fun y c h=>?_,fun p hp=>absurd (show p∈([]:List (Addr × Obj)) from hp) (by simp),e0.hok.kept hk,?_⟩
 ·exact name_of_addr x.apart (PySem.mem_of_lookup h1) (PySem.mem_of_lookup h2)
 ·have hy : scope.names.lookup y = some .cell \/ scope.names.lookup y = some .free := hy;rcases hy with hy | hy
  ·exact cell_has hy
  ·exact absurd rfl (S.nofree _ (PySem.mem_of_lookup hy))
 ·exact Nat.le_of_lt (x.above y c (PySem.mem_of_lookup h))
 ·have hi:i < vs.length:=by
   unfold start at h2;by_cases hi:i < vs.length
   ·exact hi
   ·rw [List.getElem?_append_right (by simpa using hi)] at h2;rw [List.getElem?_replicate] at h2;split at h2<;>cases h2
  have ha:vs[i]?=some v:=by
   unfold start at h2;rw [List.getElem?_append_left (by simpa using hi),List.getElem?_map] at h2;cases e:vs[i]? with
   | none=>rw [e] at h2;cases h2
   | some a=>rw [e] at h2;cases h2;rfl
  obtain ⟨u,hu,rv⟩:=r.get ha;have hp:ps[i]?=some y:=by
   rw [<-S.pre,List.getElem?_take_of_lt (by omega)];exact h1
  have ndP:ps.Nodup:=by rw [<-S.pre];exact S.nd.sublist (List.take_sublist _ _)
  refine ⟨u,rv,?_⟩;rcases S.par y (List.mem_of_getElem? hp) with k | k
  ·exact .inl ⟨k,zir ndP hp hu k⟩
  ·obtain ⟨c, e⟩ := cell_has (n := s.heap.objs.size + 1) k;refine .inr ⟨.inl k,c,e,?_⟩;have q:=x.cell y c e;rw [zjj ndP hp hu (by show scope.names.lookup y≠_;rw [k];decide)] at q;exact q
 ·exact e0.hok.fresh (Nat.le_of_lt (x.above y c (PySem.mem_of_lookup h)))
 ·unfold start;show _=N.length;rw [List.length_append,List.length_map,List.length_replicate];omega
theorem z4p {CX:CXT}{P:Program}{w:World}{K:PySem.W.Frag}{mg:Str->Option Value}{base:Heap}{k:Nat}{f:Addr}{name qual:Str}{params:Arguments}{body:List Stmt}{scope:Scope}{dV kV doc pm cdv ct oc:Value}{an od:Option Addr}
    {osl:Array (Option Value)}{N ps:List Str}{sp:Sp} (lk:K.lookup f=some ⟨oc,od,.func (PySem.W.fnOf name qual params body scope dV kV doc pm an cdv ct),osl⟩) (hcd:PySem.W.codeIn K cdv qual=true) (S:FnScope N ps scope)
    (len:∀vs H Q E,sp vs H Q E->vs.length=ps.length)
    (hbody:∀(A:Around) (outer:List Env) (s:Shared) (H:Hp) (vs:List V) (Q:VK) (E:XK),(Room k (A.deeper (envOfC qual scope s.heap.objs.size f cdv))/\Room (k+1) A)->sp vs H Q E ->
      ∃t,PSs (cxOf CX P w K mg base N qual scope f cdv A outer s H E) body t/\t { nx:=fun _ H'=>Q .non H',rt:=Q } (start N vs) H) :
    FnOk P w K mg base CX (k+1) f (PySem.W.fnOf name qual params body scope dV kV doc pm an cdv ct) ps sp:=by
  refine ⟨len,fun A outer s H args us vs Q E hr e0 hb r hsp=>?_⟩;have hl:=len _ _ _ _ hsp;have KX:K.In s.heap:=e0.mod.kin.keeps fun b o e=>(e0.bs b o e).1;have lim:s.heap.NoLimit:=e0.mod.nolimit.keeps fun b o e=>(e0.bs b o e).1;have hkind:∀y∈ps.zip us,scope.names.lookup y.1=some .local\/(scope.names.lookup y.1=some .cell/\((cellsFrom (s.heap.objs.size+1) scope.names []).lookup y.1).isSome=true):=fun ⟨n,v⟩ hy=>by
    rcases S.par n (List.of_mem_zip hy).1 with q | q
    · exact .inl q
    · exact .inr ⟨q,PySem.W.cellsFrom_some _ _ _ (.inl q)⟩
  refine codeAny_call_function hr.depth (KX _ _ lk) rfl S.co S.gen rfl (PySem.W.codeRec_of KX hcd) (hb _ _ _ _ ?_);refine wpAny_newFunctionEnv_cells S.kind hkind fun env he s1 x=>?_;subst he;refine ⟨lim.keeps x.toInCall.keep,codeAny_func ?_⟩;obtain ⟨t,ht,hq⟩:=hbody A outer s H vs Q E ⟨hr.deeper _,hr⟩ hsp;have I:Inv (cxOf CX P w K mg base N qual scope f cdv A outer s H E) [] (start N vs) H s1:=zhr S hr.hd e0 hl r x;refine wpAny_mono (ht [] s1 (start N vs) H _ I hq) (fun fl s' hs=>?_) fun e s' hs=>hs;have fin:∀{σ' : St}{H' : Hp}{v:V}{u:Value},Inv (cxOf CX P w K mg base N qual scope f cdv A outer s H E) [] σ' H' s'->RelV v u->Q v H'->CE outer P w H s Q u s' :=
    fun {σ' H' v u} J rv q=>⟨v,H',J.os,J.bare,J.base,J.hok,rv,q⟩
  cases fl with
  | ret u =>
    obtain ⟨v,σ',H',J,rv,q⟩:=hs;exact fin J rv q
  | next =>
    obtain ⟨σ',H',J,q⟩:=hs;exact fin (v:=V.non) (u:=Value.none) J rfl q
  | brk =>
    obtain ⟨_,_,_,q⟩:=hs;exact False.elim q
  | cont =>
    obtain ⟨_,_,_,q⟩:=hs;exact False.elim q
end L2
namespace L2
open PySem PySem.Spec PyProof.Rows
section
variable {X:Cx}{x:Str}{p pos:Pos}{e:Expr}{es:List Expr}{t:TA}{id T:String}{r:List V->Hp->VK->Prop}
noncomputable def tCB (r:List V->Hp->VK->Prop) (t:TA):TE:=fun σ H Q=>t σ H fun vs H1=>r vs H1 Q
theorem za5 (hc:zbu X (.builtin id) r) (hg:Gl X x) (hm:X.mg x=none) (hv:bootBuiltins x=some (.builtin id)) (ha:PA X (e::es) t) (hn:x≠"__name__" := by decide) (hdb:(x == ("__debug__" : Str))=false:=by decide)
  (he:starEach (e::es) X.env=(false,eval e X.env)::starEach es X.env:=by rfl) (hpl:(backTo pos (starEach es X.env)).any (·.1)=false:=by rfl):PE X (.Call (.Name x p) (e::es) [] pos) (tCB r t):=by
 intro pins s σ H Q I h;refine wpAny_Call_Name_kw (zc4 I hg hm hv ?_ hn hdb);exact PyProof.Rows.callWith_builtin1 (thn (ha pos pins s σ H _ I h) fun us s1 ⟨vs,H1,I1,r1,q1⟩=>hc pins s1 σ H1 vs us Q I1 r1 q1) he hpl
theorem zhu (hc:zbu X (.type T) r) (hg:Gl X x) (hm:X.mg x=none) (hv:bootBuiltins x=some (.type T)) (ha:PA X (e::es) t) (hn:x≠"__name__" := by decide) (hdb:(x == ("__debug__" : Str))=false:=by decide)
  (he:starEach (e::es) X.env=(false,eval e X.env)::starEach es X.env:=by rfl) (hpl:(backTo pos (starEach es X.env)).any (·.1)=false:=by rfl):PE X (.Call (.Name x p) (e::es) [] pos) (tCB r t):=by
 intro pins s σ H Q I h;refine wpAny_Call_Name_kw (zc4 I hg hm hv ?_ hn hdb);exact PyProof.Rows.callWith_type1 (thn (ha pos pins s σ H _ I h) fun us s1 ⟨vs,H1,I1,r1,q1⟩=>hc pins s1 σ H1 vs us Q I1 r1 q1) he hpl
end
end L2
namespace HT
open PySem PyProof.Rows
section
open PySem.SeqAt
open PySem.AutoSeq1 (wpAny_loadPart')
open PySem.MeetsSeq PySem.MeetsSeq2 PySem.MeetsSeq3
end
section
variable {prog:Program}{w:World}{A:Around}{E:Value->Shared->Prop}{s:Shared}
theorem cat_tup {t b:Addr}{vs ws:List Value}{Q:Value->Shared->Prop} (ht:IsTup s.heap t vs.toArray) (hb:IsTup s.heap b ws.toArray) (hv:vs≠[])
  (h1:ws=[]->Q (.ref t) s) (h2:ws≠[]->Q (.ref s.heap.objs.size) { s with heap:=s.heap.push { cls:=.type "tuple",data:=.seq (vs++ws).toArray } })
  (hsz:vs.length+ws.length<=sizeLine):wpAny (model prog w) A (binaryOp .Add (.ref t) (.ref b)) Q E s:=by
 obtain ⟨⟨cls,dd,data,sl⟩,ho,hc,n,hd⟩:=id ht;obtain ⟨⟨cls2,dd2,data2,sl2⟩,ho2,hc2,n2,hd2⟩:=id hb;simp only at hc hd hc2 hd2;subst hc hd hc2 hd2;have e:vs.toArray++ws.toArray=(vs++ws).toArray:=by simp
 by_cases hw:ws=[]
 ·exact concat_meets ⟨_,ho,rfl⟩ ⟨_,ho2,rfl⟩ noFill_tuple_add seq_tuple_add PySem.F.slot_tuple_add PySem.F.entry_tuple_add (PySem.F.args_tuple_add_2 _ _)
   (tuple_addW1 t b vs.toArray ws.toArray n n2 dd dd2 sl sl2 (by simpa using hv) (by simp [hw])) ⟨ho,ho2,h1 hw⟩
 ·refine concat_meets ⟨_,ho,rfl⟩ ⟨_,ho2,rfl⟩ noFill_tuple_add seq_tuple_add PySem.F.slot_tuple_add PySem.F.entry_tuple_add (PySem.F.args_tuple_add_2 _ _)
   (tuple_addW2 t b vs.toArray ws.toArray n n2 dd dd2 sl sl2 (by simpa using hv) (by simpa using hw) (by rw [List.size_toArray,List.size_toArray];exact hsz)) ⟨ho,ho2,?_⟩
  rw [e];exact h2 hw
noncomputable def sIx (n d:Nat):Option Int->Nat
 | none=>d
 | some v=>if v < 0 then (v+(n:Int)).toNat else min v.toNat n
theorem sIx_nat (n d k:Nat):sIx n d (some (k:Int))=min k n:=by
 show (if (k:Int) < 0 then ((k:Int)+(n:Int)).toNat else min (k:Int).toNat n)=min k n;rw [if_neg (by omega),Int.toNat_natCast]
theorem z2i (n d:Nat) (hd:d<=n) (o:Option Int):sIx n d o<=n:=by
  cases o with
  | none=>exact hd
  | some v =>
    show (if v < 0 then (v+(n:Int)).toNat else min v.toNat n)<=n;by_cases hv:v < 0
    · rw [if_pos hv];omega
    · rw [if_neg hv];exact Nat.min_le_right _ _
theorem zo9 (v:Int) (n d:Nat):(if v < 0 then max (v+(n:Int)) 0 else min v (n:Int))=((sIx n d (some v):Nat):Int):=by
 show (if v < 0 then max (v+(n:Int)) 0 else min v (n:Int))=(((if v < 0 then (v+(n:Int)).toNat else min v.toNat n):Nat):Int);by_cases hv:v < 0
 ·simp only [if_pos hv];omega
 ·simp only [if_neg hv];omega
theorem znx (lo hi:Option Int) (n:Nat):Builtin.Slice.sliceAdjust lo hi 1 (n:Int)=(((sIx n 0 lo:Nat):Int),((sIx n n hi:Nat):Int)):=by
 have h1:¬ ((1:Int) < 0):=by omega
 unfold Builtin.Slice.sliceAdjust;simp only [h1,if_false];refine Prod.ext ?_ ?_
 ·cases lo with
  | none=>rfl
  | some v=>exact zo9 v n 0
 ·cases hi with
  | none=>rfl
  | some v=>exact zo9 v n n
theorem znk (i j:Nat):Builtin.Slice.slicePlaces (i:Int) (j:Int) 1=j - i:=by
 unfold Builtin.Slice.slicePlaces;have h1:(1:Int) > 0:=by omega
 simp only [h1,if_true,Int.ediv_one];split<;>omega
theorem slicePart_ {v:Value}{o:Option Int}{Q:Option Int->Shared->Prop} (p:IsPart v o) (h:Q o s):wpAny (model prog w) A (Builtin.Slice.slicePartIndex v) Q E s:=by
 cases p with
 | none=>exact slicePart_none h
 | int i t=>exact slicePart_int h
theorem zch {sl:Addr}{vl vu:Value}{lo hi:Option Int}{n:Nat}{Q:Int × Int × Nat->Shared->Prop} (hs:s.heap.IsSliceOf sl vl vu .none) (pl:IsPart vl lo) (pu:IsPart vu hi)
  (h:Q (((sIx n 0 lo:Nat):Int),1,sIx n n hi - sIx n 0 lo) s):wpAny (model prog w) A (Builtin.Slice.sliceApplied (.ref sl) (pure (n:Int))) Q E s:=by
 obtain ⟨os,hos,hcs,hds⟩:=id hs;unfold Builtin.Slice.sliceApplied Builtin.Slice.sliceFields;refine wpAny_bind (wpAny_bind (wpAny_field hos hds (x:=vl) rfl (wpAny_bind (wpAny_field hos hds (x:=vu) rfl (wpAny_bind (wpAny_field hos hds (x:=.none) rfl (wpAny_pure ?_)))))));refine wpAny_bind (slicePart_none ?_);show wpAny _ _ (if ((1:Int) == 0)=true then _ else _) _ _ s;rw [if_neg (by decide)];refine wpAny_bind (slicePart_ pl (wpAny_bind (slicePart_ pu (wpAny_bind (wpAny_pure ?_)))));show wpAny _ _ (match Builtin.Slice.sliceAdjust lo hi 1 (n:Int) with | (lo,hi)=>pure (lo,(1:Int),Builtin.Slice.slicePlaces lo hi 1)) _ _ s;rw [znx lo hi n];show wpAny _ _ (pure (((sIx n 0 lo:Nat):Int),(1:Int),Builtin.Slice.slicePlaces ((sIx n 0 lo:Nat):Int) ((sIx n n hi:Nat):Int) 1)) _ _ s;rw [znk];exact wpAny_pure h
theorem zuk (xs:Array Value) (i k:Nat):((List.range k).filterMap fun (m:Nat)=>xs[((i:Int)+(m:Int) * 1).toNat]?).toArray=((xs.toList.drop i).take k).toArray:=by
 have e:(fun (m:Nat)=>xs[((i:Int)+(m:Int) * 1).toNat]?)=fun m=>xs[i+m]?:=by
  funext m
  have:((i:Int)+(m:Int) * 1).toNat=i+m:=by omega
  rw [this]
 rw [e];have:=pick_run xs i k;rw [List.filterMap_map] at this;have e2:((fun x=>xs[x]?) ∘ fun x=>i+x)=fun m=>xs[i+m]?:=rfl;rw [e2] at this;rw [this]
theorem getItem_tuple_cut {t sl:Addr}{items:Array Value}{vl vu:Value}{lo hi:Option Int}{Q:Value->Shared->Prop} (ht:IsTup s.heap t items) (hs:s.heap.IsSliceOf sl vl vu .none) (pl:IsPart vl lo) (pu:IsPart vu hi)
  (hw:¬ (sIx items.size 0 lo=0/\sIx items.size items.size hi=items.size))
  (h:Q (.ref s.heap.objs.size) { s with heap:=s.heap.push { cls:=.type "tuple",data:=.seq ((items.toList.drop (sIx items.size 0 lo)).take (sIx items.size items.size hi - sIx items.size 0 lo)).toArray } })
  (hsz:items.size<=sizeLine):wpAny (model prog w) A (getItem (.ref t) (.ref sl)) Q E s:=by
 have htake:sizeOk (.seq ((items.toList.drop (sIx items.size 0 lo)).take (sIx items.size items.size hi - sIx items.size 0 lo)).toArray):=by
  show ((items.toList.drop (sIx items.size 0 lo)).take (sIx items.size items.size hi - sIx items.size 0 lo)).toArray.size<=sizeLine;rw [List.size_toArray,List.length_take,List.length_drop,Array.length_toList];omega
 have hj:sIx items.size items.size hi<=items.size:=z2i _ _ (Nat.le_refl _) hi;obtain ⟨os,hos,hcs,hds⟩:=id hs;have hTs:s.TypeIs (.ref sl) "slice" := ⟨os,hos,hcs⟩;unfold getItem
 try with_reducible refine wpAny_holding ?_
 first | refine wpAny_bind (wpAny_pure ?_) | skip
 refine wpAny_bind (wpAny_sequenceKey ht.typeIs (by decide) ?_);refine wpAny_bind (wpAny_callSpecial?_slot (name:=Str.ofString "__getitem__") ht.typeIs PyProof.Rows.slot_tuple_getitem
  (wpAny_call_entry PyProof.Rows.slot_tuple_getitem ht.typeIs entry_tuple_getitem ?_ (args_tuple_getitem _ _)))
 show wpAny _ _ (Builtin.Tuple.tupleItemsOf (.ref t) >>= _) _ _ s;refine wpAny_bind (tupleItemsOf_ ht ?_);refine wpAny_bind (wpAny_typeOf hTs ?_);rw [if_pos (by decide)];refine wpAny_bind (zch hs pl pu ?_);have hno:¬ ((((sIx items.size 0 lo:Nat):Int) == 0 && (1:Int) == 1 && (sIx items.size items.size hi - sIx items.size 0 lo) == items.size)=true):=by
  intro q;rw [Bool.and_eq_true,Bool.and_eq_true] at q;have q1:((sIx items.size 0 lo:Nat):Int)=0:=eq_of_beq q.1.1;have q2:sIx items.size items.size hi - sIx items.size 0 lo=items.size:=eq_of_beq q.2;exact hw ⟨by omega,by omega⟩
 show wpAny _ _ (if (((sIx items.size 0 lo:Nat):Int) == 0 && (1:Int) == 1 && (sIx items.size items.size hi - sIx items.size 0 lo) == items.size)=true then _ else _) _ _ s;rw [if_neg hno,zuk]
 first
  | exact wpAny_bind (m:=Builtin.Tuple.tupleExact _) (wpAny_newObj_type (wpAny_pure ⟨_,rfl,wpAny_pure h⟩) htake)
  | exact wpAny_bind (m:=Builtin.Tuple.tupleExact _) (wpAny_newObj_type (wpAny_bind (wpAny_pure (wpAny_pure ⟨_,rfl,wpAny_pure h⟩))) htake)
  | exact wpAny_bind (wpAny_bind (m:=Builtin.Tuple.tupleExact _) (wpAny_newObj_type (wpAny_pure (wpAny_pure ⟨_,rfl,wpAny_pure h⟩)) htake))
  | exact wpAny_bind (wpAny_bind (m:=Builtin.Tuple.tupleExact _) (wpAny_newObj_type (wpAny_pure ⟨_,rfl,wpAny_pure h⟩) htake))
end
end HT
namespace L2
open PySem PySem.Spec PyProof.Rows
noncomputable abbrev TO:=St->Hp->(Option Int->Hp->Prop)->Prop
noncomputable def PO (X:Cx) (e:Option Expr) (t:TO):Prop :=
  ∀(pins:List (Addr × Obj)) (s:Shared) (σ:St) (H:Hp) (Q:Option Int->Hp->Prop),Inv X pins σ H s->t σ H Q ->
    wpAny (model X.prog X.w) X.A (evalPart e X.env) (fun u s'=>∃o H',Inv X pins σ H' s'/\IsPart u o/\Q o H') X.xe s
noncomputable def zo8:TO:=fun _ H Q=>Q none H
noncomputable def z13 (t:TE):TO:=fun σ H Q=>t σ H fun x H1=>∃i,x=.int i/\Q (some i) H1
theorem zfy {ns:List Int}:∀{us:List Value},Vals (ns.map V.int) us->IntsAre us ns:=by
  induction ns with
  | nil=>intro us r;rw [List.map_nil] at r;cases r;exact .nil
  | cons n ns ih =>
    intro us r;rw [List.map_cons] at r;cases r with
    | cons r1 r2 =>
      obtain ⟨t,e⟩:=r1;subst e;exact .cons n t (ih r2)
section
variable {X:Cx}{e:Expr}{te:TE}{lo hi:Option Expr}{tl th:TO}{pos p2:Pos}
theorem zzb:PO X none zo8:=by
 intro pins s σ H Q I h;rw [evalPart_none];exact wpAny_pure ⟨none,H,I,.none,h⟩
theorem zq2 (h:PE X e te):PO X (some e) (z13 te):=by
 intro pins s σ H Q I hw;rw [evalPart_some];refine thn (h pins s σ H _ I hw) fun u s1 ⟨x,H1,I1,r1,q1⟩=>?_;obtain ⟨i,rfl,q⟩:=q1;obtain ⟨t,rfl⟩:=r1;exact ⟨some i,H1,I1,.int i t,q⟩
noncomputable def SlR (X:Cx) (r:V->Option Int->Option Int->Hp->VK->Prop):Prop :=
  ∀(pins:List (Addr × Obj)) (s:Shared) (σ:St) (H:Hp) (x:V) (v vl vu:Value) (lo hi:Option Int) (sl:Addr) (Q:VK),Inv X pins σ H s->RelV x v->s.heap.IsSliceOf sl vl vu .none->IsPart vl lo->IsPart vu hi->r x lo hi H Q ->
    ∃T id,typeLookup (.type T) "__getitem__" = pure (some (.builtin id))/\s.TypeIs v T/\wpAny (model X.prog X.w) X.A (getItem v (.ref sl)) (EP X pins σ Q) X.xe s
theorem SlR.or {r r' : V->Option Int->Option Int->Hp->VK->Prop} (h:SlR X r) (h' : SlR X r'):SlR X (fun x lo hi H Q=>r x lo hi H Q\/r' x lo hi H Q):=by
 intro pins s σ H x v vl vu lo hi sl Q I rx hs pl pu q;rcases q with q | q
 ·exact h pins s σ H x v vl vu lo hi sl Q I rx hs pl pu q
 ·exact h' pins s σ H x v vl vu lo hi sl Q I rx hs pl pu q
noncomputable def tSl (r:V->Option Int->Option Int->Hp->VK->Prop) (te:TE) (tl th:TO):TE:=fun σ H Q=>te σ H fun x H1=>tl σ H1 fun l H2=>th σ H2 fun u H3=>r x l u H3 Q
theorem zvw {r:V->Option Int->Option Int->Hp->VK->Prop} (hr:SlR X r) (he:PE X e te) (hl:PO X lo tl) (hu:PO X hi th):PE X (.Subscript e (.Slice lo hi none p2) pos) (tSl r te tl th):=by
 intro pins s σ H Q I h;refine Subscript_ (thn (he pins s σ H _ I h) fun v s1 ⟨x,H1,I1,r1,q1⟩=>?_);refine wpAny_Slice (thn (hl pins s1 σ H1 _ I1 q1) fun vl s2 ⟨l,H2,I2,pl,q2⟩=>thn (hu pins s2 σ H2 _ I2 q2) fun vu s3 ⟨u,H3,I3,pu,q3⟩=>?_);rw [evalPart_none];refine wpAny_pure ?_;have I4:Inv X pins σ H3 { s3 with heap:=s3.heap.push { cls:=.type "slice",data:=.fields #[vl,vu,.none] } }:=I3.kept (t':=s3.toks) fun b ob q=>Heap.get?_push_of_some _ q;obtain ⟨T,id,hT,ht,hg⟩:=hr pins { s3 with heap:=s3.heap.push { cls:=.type "slice",data:=.fields #[vl,vu,.none] } } σ H3 x v vl vu l u s3.heap.objs.size Q I4 r1 (Heap.IsSliceOf.new ..) pl pu q3;show wpAny (model X.prog X.w) X.A (subscriptTail e (.Slice lo hi none p2) v (.ref s3.heap.objs.size)) (EP X pins σ Q) X.xe { s3 with heap:=s3.heap.push { cls:=.type "slice",data:=.fields #[vl,vu,.none] } };exact tail_any (ops:=[.ref s3.heap.objs.size,v]) ht hT hg (by with_unfolding_all rfl)
noncomputable def cutV (xs:List V) (lo hi:Option Int):List V:=(xs.drop (HT.sIx xs.length 0 lo)).take (HT.sIx xs.length xs.length hi - HT.sIx xs.length 0 lo)
theorem zev (xs:List V) (lo hi:Option Int):(cutV xs lo hi).length<=xs.length:=by
 unfold cutV;rw [List.length_take,List.length_drop];omega
noncomputable def rSlT (K:PySem.W.Frag):V->Option Int->Option Int->Hp->VK->Prop:=fun x lo hi H Q=>∃a xs,x=.ref a/\SqT K H a xs /\
 ¬ (HT.sIx xs.length 0 lo=0/\HT.sIx xs.length xs.length hi=xs.length)/\∀p,H p=none->Q (.ref p) (upd H p (.tup (cutV xs lo hi)))
theorem z2p:SlR X (rSlT X.K):=by
 intro pins s σ H x v vl vu lo hi sl Q I rx hs pl pu h;obtain ⟨a,xs,rfl,hx,hw,q⟩:=h;cases rx;obtain ⟨its,r,ht,hz⟩:=I.tuple hx;have hlen:its.toArray.size=xs.length:=by rw [List.size_toArray];exact r.length.symm
 refine ⟨"tuple",_,PyProof.Rows.slot_tuple_getitem.lookup,ht.typeIs,?_⟩;refine HT.getItem_tuple_cut ht hs pl pu (by rw [hlen];exact hw) ?_ (by rw [hlen];exact hz);rw [hlen];refine ⟨.ref s.heap.objs.size,_,I.laid (t':=s.toks) (o:=.tup (cutV xs lo hi)) (fun b ob q=>Heap.get?_push_of_some _ q) (Nat.le_refl _) ?_,rfl,q _ (I.hok.fresh (Nat.le_refl _))⟩;exact ⟨Nat.le_trans (zev xs lo hi) hz,_,(r.drop (HT.sIx xs.length 0 lo)).take (HT.sIx xs.length xs.length hi - HT.sIx xs.length 0 lo),zgv.new _ _⟩
noncomputable def z3o (K:PySem.W.Frag):R2:=fun x y H Q=>∃a b xs ys,x=.ref a/\y=.ref b/\SqT K H a xs/\SqT K H b ys/\xs≠[]/\xs.length+ys.length<=sizeLine /\
 (ys=[]->Q (.ref a) H)/\(ys≠[]->∀p,H p=none->Q (.ref p) (upd H p (.tup (xs++ys))))
theorem Vals.nil_iff {xs:List V}{us:List Value} (r:Vals xs us):us=[]↔xs=[]:=by
 cases r with
 | nil=>simp
 | cons _ _=>simp
theorem zxy:OpR X (binaryOp .Add) (z3o X.K):=by
 intro pins s σ H x y v u Q I rx ry h;obtain ⟨a,b,xs,ys,rfl,rfl,ha,hb,hx,hz,q1,q2⟩:=h;cases rx;cases ry;obtain ⟨its,r1,p1,_⟩:=I.tuple ha;obtain ⟨its2,r2,p2,_⟩:=I.tuple hb;refine HT.cat_tup p1 p2 (fun z=>hx (r1.nil_iff.mp z)) (fun z=>⟨.ref a,H,I,rfl,q1 (r2.nil_iff.mp z)⟩) (fun z=>?_) (by rw [<-r1.length,<-r2.length];exact hz);refine ⟨.ref s.heap.objs.size,_,I.laid (t':=s.toks) (o:=.tup (xs++ys)) (fun b ob q=>Heap.get?_push_of_some _ q) (Nat.le_refl _) ?_,rfl,q2 (fun w=>z (r2.nil_iff.mpr w)) _ (I.hok.fresh (Nat.le_refl _))⟩;exact ⟨by rw [List.length_append];exact hz,_,r1.append r2,zgv.new _ _⟩
end
end L2
namespace L2
open PySem PySem.Spec PyProof.Rows
noncomputable def ixN (n:Nat) (i:Int):Option Nat:=if 0<=i then (if i < n then some i.toNat else none) else if -(n:Int)<=i then some (i+n).toNat else none
noncomputable def atI {α:Type} (xs:List α) (i:Int):Option α:=(ixN xs.length i).bind fun j=>xs[j]?
theorem zrl {n:Nat}{i:Int}{j:Nat} (h:ixN n i=some j):seqIndex? i n=some j/\j < n/\-(n:Int)<=i/\i < n:=by
 unfold ixN at h;by_cases h0:0<=i
 ·rw [if_pos h0] at h;by_cases h1:i < n
  ·rw [if_pos h1] at h;have e:i.toNat=j:=sI h;exact ⟨by rw [seqIndex_of h0 h1,e],by omega,by omega,h1⟩
  ·rw [if_neg h1] at h;cases h
 ·rw [if_neg h0] at h;by_cases h1:-(n:Int)<=i
  ·rw [if_pos h1] at h;have e:(i+n).toNat=j:=sI h;exact ⟨by rw [seqIndex_neg (by omega) h1,e],by omega,h1,by omega⟩
  ·rw [if_neg h1] at h;cases h
theorem zlq {α:Type}{xs:List α}{i:Int}{v:α} (h:atI xs i=some v):∃j,seqIndex? i xs.length=some j/\xs[j]?=some v/\j < xs.length/\-(xs.length:Int)<=i/\i < xs.length:=by
  unfold atI at h;cases e:ixN xs.length i with
  | none=>rw [e] at h;cases h
  | some j =>
    rw [e] at h;obtain ⟨h1,h2,h3,h4⟩:=zrl e;exact ⟨j,h1,h,h2,h3,h4⟩
theorem zy1 {α:Type}{xs:List α}{j:Nat}{v:α} (h:xs[j]?=some v):atI xs (j:Int)=some v:=by
 have hj:j < xs.length:=(List.getElem?_eq_some_iff.mp h).1;have e:ixN xs.length (j:Int)=some j:=by
  unfold ixN;rw [if_pos (by omega),if_pos (by omega)];simp
 unfold atI;rw [e];exact h
noncomputable def zow (b:Expr):Prop:=∀o i,subscripted b false o i=operate [o,i] (getItem o i)
noncomputable def IxR (X:Cx) (r:R2):Prop :=
  ∀(value slice:Expr) (pins:List (Addr × Obj)) (s:Shared) (σ:St) (H:Hp) (x y:V) (v u:Value) (Q:VK),Inv X pins σ H s->RelV x v->RelV y u->r x y H Q ->
    subscripted slice false v u=operate [v,u] (getItem v u)->wpAny (model X.prog X.w) X.A (subscriptTail value slice v u) (EP X pins σ Q) X.xe s
noncomputable def MtR (X:Cx) (id:String) (r:V->List V->Hp->VK->Prop):Prop :=
  ∀(pins:List (Addr × Obj)) (s:Shared) (σ:St) (H:Hp) (x:V) (xs:List V) (v:Value) (us:List Value) (Q:VK),Inv X pins σ H s->RelV x v->Vals xs us->r x xs H Q ->
    wpAny (model X.prog X.w) X.A (call (.builtin id) (v::us)) (EP X pins σ Q) X.xe s
section
variable {X:Cx}{a b:Expr}{ta tb:TE}{pos:Pos}
theorem IxR.or {r r' : R2} (h:IxR X r) (h' : IxR X r'):IxR X (fun x y H Q=>r x y H Q\/r' x y H Q):=by
 intro value slice pins s σ H x y v u Q I rx ry q hs;rcases q with q | q
 ·exact h value slice pins s σ H x y v u Q I rx ry q hs
 ·exact h' value slice pins s σ H x y v u Q I rx ry q hs
theorem zzz {r:R2} (hr:IxR X r) (ha:PE X a ta) (hb:PE X b tb) (hs:zow b):PE X (.Subscript a b pos) (tOp r ta tb):=by
 intro pins s σ H Q I h;exact Subscript_ (binT ha hb I h fun v u s2 x y H2 I2 rx ry q=>hr a b pins s2 σ H2 x y v u Q I2 rx ry q (hs _ _))
noncomputable def rIxL (K:PySem.W.Frag):R2:=fun x y H Q=>∃p xs i v,x=.ref p/\y=.int i/\SqL K H p xs/\atI xs i=some v/\Q v H
noncomputable def rIxT (K:PySem.W.Frag):R2:=fun x y H Q=>∃p xs i v,x=.ref p/\y=.int i/\SqT K H p xs/\atI xs i=some v/\Q v H
noncomputable def rIxS:R2:=fun x y H Q=>∃z i c,x=.str z/\y=.int i/\z.length<=sizeLine/\atI z.cps.toList i=some c/\Q (.str ⟨#[c]⟩) H
theorem zx0:IxR X (rIxL X.K):=by
 intro value slice pins s σ H x y v u Q I rx ry h hs;refine aG fun _ qG=>?_;obtain ⟨p,xs,i,z,rfl,rfl,hq,he,q⟩:=h;refine qG ?_;clear qG;cases rx;refine aG fun _ qG=>?_;obtain ⟨t,rfl⟩:=ry;obtain ⟨its,r,pl,hz⟩:=I.list hq;obtain ⟨j,h1,h2,h3,h4,h5⟩:=zlq he;obtain ⟨w,ew,rw'⟩:=r.get h2;refine qG ?_;clear qG;have hl:=r.length;have hn:=zfq;have fin:EP X pins σ Q w s:=⟨z,H,I,rw',q⟩;by_cases h0:0<=i
 ·have hj:i.toNat=j:=by
   rw [seqIndex_of h0 h5] at h1;exact sI h1
  exact item_listR pl.isList h0 (by omega) (by rw [hj];simpa using ew) fin hs
 ·have hj:(i+(its.toArray.size:Int)).toNat=j:=by
   rw [seqIndex_neg (by omega) h4] at h1;rw [List.size_toArray,<-hl];exact sI h1
  exact subscriptTail_builtinR (x:=w) pl.isList.typeIs slot_list_getitem.lookup
   (wpAny_getItem_list_neg (Q:=fun r s'=>r=w/\EP X pins σ Q r s') pl.isList (by omega) (by rw [List.size_toArray]<;>omega) (by omega) (by rw [hj];simpa using ew) ⟨rfl,fin⟩) hs
theorem z3b:IxR X (rIxT X.K):=by
 intro value slice pins s σ H x y v u Q I rx ry h hs;obtain ⟨p,xs,i,z,rfl,rfl,hq,he,q⟩:=h;cases rx;obtain ⟨t,rfl⟩:=ry;obtain ⟨its,r,pl,hz⟩:=I.tuple hq;obtain ⟨j,h1,h2,h3,h4,h5⟩:=zlq he;obtain ⟨w,ew,rw'⟩:=r.get h2;have hl:=r.length;have hn:=zfq;have fin:EP X pins σ Q w s:=⟨z,H,I,rw',q⟩;exact subscriptTail_builtinR (x:=w) pl.typeIs slot_tuple_getitem.lookup
  (getItem_tuple (j:=j) (Q:=fun r s'=>r=w/\EP X pins σ Q r s') pl (by omega) (by omega) (by rw [List.size_toArray,<-hl];exact h1) (by simpa using ew) ⟨rfl,fin⟩) hs
theorem zwb:IxR X rIxS:=by
 intro value slice pins s σ H x y v u Q I rx ry h hs;refine aG fun _ qG=>?_;obtain ⟨z,i,c,rfl,rfl,hz,he,q⟩:=h;obtain ⟨t,rfl⟩:=rx;obtain ⟨t',rfl⟩:=ry;obtain ⟨j,h1,h2,h3,h4,h5⟩:=zlq he;refine qG ?_;clear qG;have hl:z.cps.toList.length=z.length:=by simp [Str.length]
 rw [hl] at h1 h4 h5;have hn:=zfq;exact tail_any (typeIs_str s z t) slot_str_getitem.lookup (getItem_str (c:=c) (by
  have e1:decide (i < -(2 ^ 63:Int))=false:=decide_eq_false (by omega);have e2:decide (i ≥ 2 ^ 63)=false:=decide_eq_false (by omega);rw [e1,e2,Bool.or_false]) (by rw [h1];simpa using h2) ⟨.str ⟨#[c]⟩,H,I.tok _,⟨_,rfl⟩,q⟩) hs
theorem znu (its:List Value) (n j:Nat) (u:Value):Obj.mapSeq (·.setIfInBounds j u) { cls:=.type "list",data:=.seq its.toArray n }={ cls:=.type "list",data:=.seq (its.set j u).toArray n }:=by
 simp [Obj.mapSeq]
theorem Inv.lst {pins:List (Addr × Obj)}{σ:St}{H:Hp}{s:Shared}{p:Addr}{xs:List V} (I:Inv X pins σ H s) (h:H p=some (.lst xs)) :
  ∃(its:List Value) (n:Nat),Vals xs its/\s.heap.get? p=some { cls:=.type "list",data:=.seq its.toArray n }/\xs.length<=sizeLine:=by
 refine aG fun _ qG=>?_;obtain ⟨z,its,n,r,e⟩:=I.hok p _ h;refine qG ?_;clear qG;exact ⟨its,n,r,e,z⟩
theorem Inv.lstUpd {pins:List (Addr × Obj)}{σ:St}{H:Hp}{s:Shared}{p:Addr}{xs ys:List V}{its its' : List Value}{n n' : Nat}{f:Obj->Obj} (I:Inv X pins σ H s) (h:H p=some (.lst xs))
  (ho:s.heap.get? p=some { cls:=.type "list",data:=.seq its.toArray n }) (hf:f { cls:=.type "list",data:=.seq its.toArray n }={ cls:=.type "list",data:=.seq its'.toArray n' }) (r:Vals ys its') (hz:ys.length<=sizeLine) (t:Nat) :
  Inv X pins σ (upd H p (.lst ys)) { s with heap:=s.heap.update p f,toks:=t }:=by
 have e:(s.heap.update p f).get? p=some { cls:=.type "list",data:=.seq its'.toArray n' }:=by
  rw [Heap.get?_update_self f ho (by rw [hf]<;>rfl),hf]
 refine I.write (x:=p) (e:=p) (by rw [h];trivial) (.inl rfl) (fun b u hb q=>(Heap.get?_update_other _ _ (Ne.symm hb)).trans q) ⟨_,e⟩ ?_;exact ⟨hz,its',n',r,e⟩
noncomputable def z1f:V->V->V->Hp->(Hp->Prop)->Prop:=fun o i v H Q=>∃p xs k j,o=.ref p/\i=.int k/\H p=some (.lst xs)/\ixN xs.length k=some j/\Q (upd H p (.lst (xs.set j v)))
theorem zvn:PSet X z1f:=by
 intro pins s σ H o i v ov iv u Q I ro ri rv h;refine aG fun _ qG=>?_;obtain ⟨p,xs,k,j,rfl,rfl,hp,hj,q⟩:=h;refine qG ?_;clear qG;cases ro;refine aG fun _ qG=>?_;obtain ⟨t,rfl⟩:=ri;obtain ⟨its,n,r,ho,hz⟩:=I.lst hp;obtain ⟨h1,h2,h3,h4⟩:=zrl hj;refine qG ?_;clear qG;have hl:=r.length;have hn:=zfq;have I' : Inv X pins σ (upd H p (.lst (xs.set j v))) { s with heap:=s.heap.update p (Obj.mapSeq (·.setIfInBounds j u)) } :=
  I.lstUpd hp ho (znu its n j u) (r.set rv j) (by rw [List.length_set];exact hz) s.toks
 by_cases h0:0<=k
 ·have hk:k.toNat=j:=by
   rw [seqIndex_of h0 h4] at h1;exact sI h1
  exact PySem.W.ki_setAt ho h0 (by omega) (by rw [List.size_toArray,<-hl];exact h4) (by rw [hk];exact ⟨_,I',q⟩)
 ·have hk:(k+(its.toArray.size:Int)).toNat=j:=by
   rw [seqIndex_neg (by omega) h3] at h1;rw [List.size_toArray,<-hl];exact sI h1
  exact PySem.W.ki_setBack ho (by omega) (by rw [List.size_toArray,<-hl];exact h3) (by omega) (by rw [hk];exact ⟨_,I',q⟩)
theorem zjt (lo hi:Option Int) (n:Nat):(sliceBounds lo hi none n).1=((HT.sIx n 0 lo:Nat):Int)/\(sliceBounds lo hi none n).2.1=((HT.sIx n n hi:Nat):Int)/\(sliceBounds lo hi none n).2.2=1:=by
  refine ⟨?_,?_,rfl⟩
  · cases lo with
    | none=>simp [sliceBounds,HT.sIx]
    | some i =>
      simp only [sliceBounds,HT.sIx,Option.getD_none,show (1:Int) > 0 by decide,if_true];by_cases h:i < 0
      · simp only [h,if_true]<;>omega
      · simp only [h,if_false]<;>omega
  · cases hi with
    | none=>simp [sliceBounds,HT.sIx]
    | some i =>
      simp only [sliceBounds,HT.sIx,Option.getD_none,show (1:Int) > 0 by decide,if_true];by_cases h:i < 0
      · simp only [h,if_true]<;>omega
      · simp only [h,if_false]<;>omega
theorem zhk (its:List Value) (lo hi:Option Int):slicePick its.toArray lo hi none=((its.drop (HT.sIx its.length 0 lo)).take (HT.sIx its.length its.length hi - HT.sIx its.length 0 lo)).toArray:=by
 obtain ⟨h1,h2,h3⟩:=zjt lo hi its.toArray.size;unfold slicePick;rw [h1,h2,h3];simp only [sliceRange_one,pick_run,List.size_toArray]<;>rfl
noncomputable def rSlL (K:PySem.W.Frag):V->Option Int->Option Int->Hp->VK->Prop:=fun x lo hi H Q=>∃a xs,x=.ref a/\SqL K H a xs/\∀p,H p=none->Q (.ref p) (upd H p (.lst (cutV xs lo hi)))
theorem zxs:SlR X (rSlL X.K):=by
 intro pins s σ H x v vl vu lo hi sl Q I rx hs pl pu h;obtain ⟨a,xs,rfl,hx,q⟩:=h;cases rx;obtain ⟨its,r,ht,hz⟩:=I.list hx;have hlen:=r.length;refine ⟨"list",_,slot_list_getitem.lookup,ht.isList.typeIs,?_⟩;refine wpAny_getItem_list_slice ht.isList hs pl pu .none (by simp) ?_ (by rw [List.size_toArray]<;>omega);rw [zhk,<-hlen];refine ⟨.ref s.heap.objs.size,_,I.laid (t':=s.toks) (o:=.lst (cutV xs lo hi)) (fun b ob q=>Heap.get?_push_of_some _ q) (Nat.le_refl _) ?_,rfl,q _ (I.hok.fresh (Nat.le_refl _))⟩;exact ⟨Nat.le_trans (zev xs lo hi) hz,_,0,(r.drop (HT.sIx xs.length 0 lo)).take (HT.sIx xs.length xs.length hi - HT.sIx xs.length 0 lo),Heap.get?_push_size _ rfl⟩
theorem zd7:zbu X (.builtin "len") (fun xs H Q=>∃p ys,xs=[.ref p]/\(SqL X.K H p ys\/SqT X.K H p ys)/\Q (.int ys.length) H):=by
 intro pins s σ H xs us Q I r h;obtain ⟨p,ys,rfl,hq,q⟩:=h;obtain ⟨u,rfl,rx⟩:=vals1 r;cases rx;have hn:=zfq;rcases hq with hq | hq
 ·obtain ⟨its, r', pl, hz⟩ := I.list hq;have hlen:=r'.length;exact Calls.call_len_list pl.isList (by simp only [List.size_toArray]<;>omega) ⟨.int ys.length,H,I.tok _,⟨s.toks+1,by rw [List.size_toArray,hlen]⟩,q⟩
 ·obtain ⟨its, r', pl, hz⟩ := I.tuple hq;have hlen:=r'.length;exact len_tuple pl (by simp only [List.size_toArray]<;>omega) ⟨.int ys.length,H,I.tok _,⟨s.toks+1,by rw [List.size_toArray,hlen]⟩,q⟩
theorem zi8:zbu X (.builtin "len") (fun xs H Q=>∃z,xs=[.str z]/\z.length<=sizeLine/\Q (.int z.length) H):=by
 intro pins s σ H xs us Q I r h;obtain ⟨z,rfl,hz,q⟩:=h;obtain ⟨u,rfl,t,rfl⟩:=vals1 r;have hn:=zfq;exact len_str (by omega) ⟨.int z.length,H,I.tok _,⟨_,rfl⟩,q⟩
theorem zbu.or {f:Value}{r r' : List V->Hp->VK->Prop} (h:zbu X f r) (h' : zbu X f r'):zbu X f (fun xs H Q=>r xs H Q\/r' xs H Q):=by
 intro pins s σ H xs us Q I rs q;rcases q with q | q
 ·exact h pins s σ H xs us Q I rs q
 ·exact h' pins s σ H xs us Q I rs q
theorem zhg:zbu X (.type "tuple") (fun xs H Q=>∃p ys,xs=[.ref p]/\((SqL X.K H p ys/\∀l,H l=none->Q (.ref l) (upd H l (.tup ys)))\/(SqT X.K H p ys/\Q (.ref p) H))):=by
 intro pins s σ H xs us Q I r h;obtain ⟨p,ys,rfl,h⟩:=h;obtain ⟨u,rfl,rx⟩:=vals1 r;cases rx;rcases h with ⟨hq,q⟩ | ⟨hq,q⟩
 ·obtain ⟨its, r', pl, hz⟩ := I.list hq;have hlen:=r'.length;refine call_tuple_list pl.isList (fun h' kp=>?_) (by simp only [List.size_toArray]<;>omega);have I1:Inv X pins σ H { s with heap:=h' }:=I.kept (t':=s.toks) kp;have I2:Inv X pins σ (upd H h'.objs.size (.tup ys)) { s with heap:=h'.push { cls:=.type "tuple",data:=.seq its.toArray } } :=
   I1.laid (t':=s.toks) (fun b o e=>Heap.get?_push_of_some _ e) (Nat.le_refl _) (show zbd X.prog X.w _ _ _ (.tup ys) from ⟨hz,its,r',zgv.new _ _⟩)
  exact ⟨.ref h'.objs.size,_,I2,rfl,q _ (I1.hok.fresh (Nat.le_refl _))⟩
 ·obtain ⟨its, r', pl, hz⟩ := I.tuple hq;exact call_tuple_same pl ⟨.ref p,H,I,rfl,q⟩
noncomputable def tyV (K:PySem.W.Frag) (T:String) (x:V) (H:Hp):Prop:=match x with
 | .str _=>T = "str"
 | .int _=>T = "int"
 | .ref p=>(T = "list"/\∃xs,SqL K H p xs)\/(T = "tuple"/\∃o,K.lookup p=some o/\o.cls=.type "tuple"/\o.dict=none) \/
   (T = "dict"/\((∃kvs,H p=some (.dK kvs))\/∃kvs,H p=some (.dT kvs)))\/(T = "set"/\∃S n,H p=some (.set S n))
 | _=>False
theorem z1o {pins:List (Addr × Obj)}{σ:St}{H:Hp}{s:Shared}{T:String}{x:V}{v:Value} (I:Inv X pins σ H s) (r:RelV x v) (ty:tyV X.K T x H) :
    s.TypeIs v T/\∀a,v=.ref a->∃ob,s.heap.get? a=some ob/\ob.dict=none:=by
  cases x with
  | str z =>
    obtain ⟨t,rfl⟩:=r;cases (show T = "str" from ty);exact ⟨typeIs_str s z t,fun _ e=>nomatch e⟩
  | int i =>
    obtain ⟨t,rfl⟩:=r;cases (show T = "int" from ty);exact ⟨typeIs_int s i t,fun _ e=>nomatch e⟩
  | ref p =>
    cases r;rcases ty with ⟨rfl,xs,hq⟩ | ⟨rfl,o,hk,hc,hd⟩ | ⟨rfl,hk⟩ | ⟨rfl,S,n,hk⟩
    · obtain ⟨its, _, pl, _⟩ := I.list hq
      refine ⟨pl.isList.typeIs,fun a e=>?_⟩;cases e;obtain ⟨o,n,e,c,hd,_⟩:=pl;exact ⟨o,e,hd⟩
    · refine ⟨⟨o, I.kIn p o hk, hc⟩, fun a e => ?_⟩
      cases e;exact ⟨o,I.kIn _ o hk,hd⟩
    · have z:∃o,s.heap.get? p=some o/\o.ExactDict:=by
        rcases hk with ⟨kvs,hk⟩ | ⟨kvs,hk⟩
        · obtain ⟨_, _, _, _, o, _, _, e, ex, _⟩ := I.hok p _ hk
          exact ⟨o,e,ex⟩
        · obtain ⟨_, _, _, _, o, _, _, e, ex, _⟩ := I.hok p _ hk
          exact ⟨o,e,ex⟩
      obtain ⟨o,e,ex⟩:=z;refine ⟨⟨o,e,ex.1⟩,fun a e2=>?_⟩;cases e2;exact ⟨o,e,ex.2.1⟩
    · obtain ⟨o, _, _, _, e, ex, _⟩ := I.hok p _ hk
      refine ⟨⟨o,e,ex.1⟩,fun a e2=>?_⟩;cases e2;exact ⟨o,e,ex.2.1⟩
  | _=>exact False.elim ty
noncomputable def tBM (K:PySem.W.Frag) (T:String) (r:V->List V->Hp->VK->Prop) (to:TE) (t:TA):TE:=fun σ H Q=>to σ H fun x H1=>tyV K T x H1/\t σ H1 fun xs H2=>r x xs H2 Q
variable {o e:Expr}{es:List Expr}{to:TE}{t:TA}{name:Str}{apos cpos:Pos}{T id:String}{r:V->List V->Hp->VK->Prop}
theorem zv3 (pa:PlainAttrs T) (slot:Slot T name id) (hty:typeOf (.builtin id)=pure (.type "method_descriptor")) (hm:MtR X id r) (ho:PE X o to) (ha:PA X (e::es) t)
  (hbase:attributeBase o name X.env (eval o X.env)=eval o X.env:=by rfl)
  (hfew:((backTo cpos (starEach (e::es) X.env)).all (fun x=>!x.1) && (backToKw cpos (keywordEach [] X.env)).all (fun x=>x.1.isSome)
   && decide ((e::es).length+([]:List Keyword).length+(if ([]:List Keyword).isEmpty then 0 else 1) < 30))=true:=by rfl)
  (hline:(apos.endLine == cpos.line)=true:=by rfl) (hs:starEach (e::es) X.env=(false,eval e X.env)::starEach es X.env:=by rfl) (hplain:(backTo cpos (starEach es X.env)).any (·.1)=false:=by rfl) :
  PE X (.Call (.Attribute o name apos) (e::es) [] cpos) (tBM X.K T r to t):=by
 intro pins s σ H Q I h;refine wpAny_Call_method_late hbase hfew hline rfl (thn (ho pins s σ H _ I h) fun v s1 ⟨x,H1,I1,r1,ty,q1⟩=>?_);obtain ⟨h1,h2⟩:=z1o I1 r1 ty;refine ⟨T,id,pa,slot,hty,h1,h2,?_⟩;have hA:=ha cpos pins s1 σ H1 _ I1 q1;rw [hs] at hA ⊢;refine Calls.callWith_builtin (by show (false || (backTo cpos (starEach es X.env)).any (·.1))=false;rw [hplain]<;>rfl) (Calls.evalArgs_plain ?_);exact thn hA fun us s2 ⟨vs,H2,I2,r2,q2⟩=>hm pins s2 σ H2 x vs v us Q I2 r1 r2 q2
end
end L2
namespace L2
open PySem PySem.Spec PyProof.Rows
noncomputable def MtM (X:Cx) (id:String) (r:V->List V->Hp->VK->Prop):Prop :=
  ∀(pins:List (Addr × Obj)) (s:Shared) (σ:St) (H:Hp) (x:V) (xs:List V) (v:Value) (us:List Value) (Q:VK),Inv X pins σ H s->RelV x v->Vals xs us->r x xs H Q ->
    wpAny (model X.prog X.w) X.A (call (.builtin id) (v::us)) (EP X pins σ Q) X.xe s
theorem Vals.one:∀{x:V}{us:List Value},Vals [x] us->∃u,us=[u]/\RelV x u
 | _,_,.cons r .nil=>⟨_,rfl,r⟩
theorem Vals.two:∀{x y:V}{us:List Value},Vals [x,y] us->∃u v,us=[u,v]/\RelV x u/\RelV y v
 | _,_,_,.cons r (.cons q .nil)=>⟨_,_,rfl,r,q⟩
theorem Vals.reverse {xs:List V}{us:List Value} (h:Vals xs us):Vals xs.reverse us.reverse:=by
 induction h with
 | nil=>exact .nil
 | cons r t ih=>rw [List.reverse_cons,List.reverse_cons];exact Vals.append ih (.cons r .nil)
theorem Vals.rep {xs:List V}{us:List Value} (h:Vals xs us):∀k:Nat,Vals (List.replicate k xs).flatten (List.replicate k us).flatten
  | 0=>.nil
  | k+1=>by
    rw [List.replicate_succ,List.replicate_succ,List.flatten_cons,List.flatten_cons];exact Vals.append h (Vals.rep h k)
theorem zhw (its:List Value):∀(k:Nat) (acc:List Value),
    List.foldl (fun x1 x2=>x1++x2) acc.toArray (List.replicate k its.toArray)=(acc++(List.replicate k its).flatten).toArray
  | 0,acc=>by simp
  | k+1,acc=>by
    have e:acc.toArray++its.toArray=(acc++its).toArray:=by simp
    have e2:(acc++its)++(List.replicate k its).flatten=acc++(List.replicate (k+1) its).flatten:=by
      rw [List.replicate_succ,List.flatten_cons,List.append_assoc]
    rw [<-e2,<-zhw its k (acc++its),<-e,List.replicate_succ,List.foldl_cons]
section
variable {X:Cx}{pins:List (Addr × Obj)}{σ:St}{H:Hp}{s:Shared}{l b:Addr}{xs ys zs:List V}
theorem Inv.lset {its its' : List Value}{n:Nat}{f:Array Value->Array Value}{t' : Nat} (I:Inv X pins σ H s) (hH:H l=some (.lst xs))
  (e:s.heap.get? l=some { cls:=.type "list",data:=.seq its.toArray n }) (hf:f its.toArray=its'.toArray) (hv:Vals ys its') (hz:ys.length<=sizeLine) :
  Inv X pins σ (upd H l (.lst ys)) { s with heap:=s.heap.update l (Obj.mapSeq f),toks:=t' }:=by
 have q:=PySem.IsL.update e f;rw [hf] at q;refine I.write (x:=l) (e:=l) (by rw [hH];exact trivial) (.inl rfl) (fun b' u hb hu=>(Heap.get?_update_other s.heap (Obj.mapSeq f) (Ne.symm hb)).trans hu) ⟨_,q⟩ ?_;exact ⟨hz,its',_,hv,q⟩
theorem Inv.lnew {its:List Value}{t' : Nat} (I:Inv X pins σ H s) (hv:Vals ys its) (hz:ys.length<=sizeLine) :
  Inv X pins σ (upd H s.heap.objs.size (.lst ys)) { s with heap:=s.heap.push { cls:=.type "list",data:=.seq its.toArray },toks:=t' } :=
 I.laid (fun _ _ q=>Heap.get?_push_of_some _ q) (Nat.le_refl _) ⟨hz,its,0,hv,Heap.get?_push_size _ rfl⟩
theorem Inv.fresh (I:Inv X pins σ H s):H s.heap.objs.size=none:=I.hok.fresh (Nat.le_refl _)
theorem Inv.lstM (I:Inv X pins σ H s) (hH:H l=some (.lst xs)):xs.length<=sizeLine/\∃(its:List Value) (n:Nat),Vals xs its/\xs.length=its.length/\s.heap.get? l=some { cls:=.type "list",data:=.seq its.toArray n }:=by
 refine aG fun _ qG=>?_;obtain ⟨z,its,n,r,e⟩:=I.hok l _ hH;refine qG ?_;clear qG;exact ⟨z,its,n,r,r.length,e⟩
theorem zm7 {n:Nat} (h:n<=sizeLine):Builtin.List.listTooLong n=false:=by
 unfold Builtin.List.listTooLong;exact decide_eq_false (by omega)
end
section
variable {X:Cx}
noncomputable def zsb:V->List V->Hp->VK->Prop:=fun x vs H Q=>∃l xs y,x=.ref l/\vs=[y]/\H l=some (.lst xs)/\xs.length < sizeLine/\Q .non (upd H l (.lst (xs++[y])))
theorem zjs:MtM X "list.append" zsb:=by
 intro pins s σ H x vs v us Q I rx rv h;obtain ⟨l,xs,y,rfl,rfl,hH,hz,q⟩:=h;cases rx;obtain ⟨u,rfl,ru⟩:=rv.one;obtain ⟨z,its,n,r,hl,e⟩:=I.lstM hH;refine call_meets F.slot_list_append ⟨_,e,rfl⟩ F.entry_list_append (F.args_list_append_2 _ _) (PySem.list_append l its.toArray n u (by rw [List.size_toArray];omega)) ⟨e,?_⟩;refine ⟨.non,_,I.lset (its':=its++[u]) hH e (by simp) (r.append (.cons ru .nil)) ?_,rfl,q⟩;rw [List.length_append,List.length_singleton];omega
noncomputable def zyb:V->List V->Hp->VK->Prop:=fun x vs H Q=>∃l b xs zs,x=.ref l/\vs=[.ref b]/\H l=some (.lst xs)/\H b=some (.lst zs)/\xs.length+zs.length<=sizeLine/\Q .non (upd H l (.lst (xs++zs)))
theorem z3h:MtM X "list.extend" zyb:=by
 intro pins s σ H x vs v us Q I rx rv h;refine aG fun _ qG=>?_;obtain ⟨l,b,xs,zs,rfl,rfl,hH,hB,hz,q⟩:=h;refine qG ?_;clear qG;cases rx;obtain ⟨u,rfl,ru⟩:=rv.one;cases ru;refine aG fun _ qG=>?_;obtain ⟨z,its,n,r,hl,e⟩:=I.lstM hH;obtain ⟨z2,its2,n2,r2,hl2,e2⟩:=I.lstM hB;refine qG ?_;clear qG;have hsz:its.toArray.size+its2.toArray.size<=sizeLine:=by rw [List.size_toArray,List.size_toArray];omega
 have hlong:¬ (!its.toArray.isEmpty && Builtin.List.listTooLong (its.toArray.size+its2.toArray.size))=true:=by
  rw [zm7 hsz,Bool.and_false];exact Bool.false_ne_true
 refine call_meets F.slot_list_extend ⟨_,e,rfl⟩ F.entry_list_extend (F.args_list_extend_2 _ _)
  (AutoSeq1.list_extend_list_list_0 l its.toArray n b its2.toArray n2 hlong (by rw [List.size_toArray];omega) (by omega)) ⟨e,e2,?_⟩
 refine ⟨.non,_,I.lset (its':=its++its2) hH e (by simp) (r.append r2) ?_,rfl,q⟩;rw [List.length_append];omega
noncomputable def rCat:R2:=fun x y H Q=>∃l b xs zs,x=.ref l/\y=.ref b/\H l=some (.lst xs)/\H b=some (.lst zs)/\xs.length+zs.length<=sizeLine/\∀p,H p=none->Q (.ref p) (upd H p (.lst (xs++zs)))
theorem z05:OpR X (binaryOp .Add) rCat:=by
 intro pins s σ H x y v u Q I rx ry h;refine aG fun _ qG=>?_;obtain ⟨l,b,xs,zs,rfl,rfl,hH,hB,hz,q⟩:=h;refine qG ?_;clear qG;cases rx;cases ry;refine aG fun _ qG=>?_;obtain ⟨z,its,n,r,hl,e⟩:=I.lstM hH;obtain ⟨z2,its2,n2,r2,hl2,e2⟩:=I.lstM hB;refine qG ?_;clear qG;refine PySem.P.add_list e e2 ?_ (by rw [List.size_toArray,List.size_toArray];omega);have ea:its.toArray++its2.toArray=(its++its2).toArray:=by simp
 rw [ea];exact ⟨.ref _,_,I.lnew (t':=s.toks) (r.append r2) (by rw [List.length_append];omega),rfl,q _ I.fresh⟩
noncomputable def rRep:R2:=fun x y H Q=>∃l k xs,x=.ref l/\y=.int k/\H l=some (.lst xs)/\-(2 ^ 63)<=k/\k < 2 ^ 63/\xs.length * k.toNat<=sizeLine /\
 ∀p,H p=none->Q (.ref p) (upd H p (.lst (List.replicate k.toNat xs).flatten))
theorem zzh {α:Type} (xs:List α) (k:Nat):(List.replicate k xs).flatten.length=k * xs.length:=by
 induction k with
 | zero=>simp
 | succ k ih=>rw [List.replicate_succ,List.flatten_cons,List.length_append,ih,Nat.succ_mul,Nat.add_comm]
theorem z2b:OpR X (binaryOp .Mult) rRep:=by
 intro pins s σ H x y v u Q I rx ry h;refine aG fun _ qG=>?_;obtain ⟨l,k,xs,rfl,rfl,hH,h1,h2,hz,q⟩:=h;refine qG ?_;clear qG;cases rx;refine aG fun _ qG=>?_;obtain ⟨t,rfl⟩:=ry;obtain ⟨z,its,n,r,hl,e⟩:=I.lstM hH;refine qG ?_;clear qG;have hlen:its.toArray.size * k.toNat<=sizeLine:=by rw [List.size_toArray,<-hl];exact hz
 have hcap:¬ its.toArray.size * k.toNat > (2 ^ 63 - 1) / 8:=by
  have:(sizeLine:Nat)<=(2 ^ 63 - 1) / 8:=by decide
  omega
 have hfit:¬ (!Builtin.List.listFitsIndex k)=true:=by
  rw [fitsIndex_both h1 h2];exact Bool.false_ne_true
 have hlong:¬ Builtin.List.listTooLong (its.toArray.size * k.toNat)=true:=by
  rw [zm7 hlen];exact Bool.false_ne_true
 have hnew:List.foldl (fun x1 x2=>x1++x2) #[] (List.replicate (if its.toArray.isEmpty=true then 0 else k.toNat) its.toArray)=(List.replicate k.toNat its).flatten.toArray:=by
  have f0:∀m:Nat,List.foldl (fun x1 x2=>x1++x2) #[] (List.replicate m its.toArray)=(List.replicate m its).flatten.toArray:=fun m=>by
   have:=zhw its m [];rw [List.nil_append] at this;exact this
  rw [f0];cases its with
  | nil=>simp
  | cons a r'=>rw [if_neg (by simp)]
 refine wpAny_binaryOp_repeat_ref (T := "list") (U := "int") (by decide) ⟨_,e,rfl⟩ (fun s'=>typeIs_int s' k t) noFill_list_mul F.fills_int_mul F.slot_int_rmul repeat_list F.slot_int_index.lookup
  (call_meets F.slot_int_rmul (typeIs_int s k t) F.entry_int_rmul (F.args_int_rmul_2 _ _) (int___rmul___int_list k t l its.toArray n)
   ⟨e,rfl,⟨_,e,rfl⟩,call_meets F.slot_list_mul ⟨_,e,rfl⟩ F.entry_list_mul (F.args_list_mul_2 _ _) (AutoListH.list___mul___list_int_3 l its.toArray n k t hfit hcap hlong) ⟨e,?_⟩⟩)
 rw [hnew];exact ⟨.ref _,_,I.lnew (t':=s.toks) (r.rep k.toNat) (by rw [zzh,Nat.mul_comm];exact hz),rfl,q _ I.fresh⟩
end
section
variable {prog:Program}{w:World}{A:Around}{E:Value->Shared->Prop}{s:Shared}
end
section
variable {X:Cx}
end
end L2
namespace Att
open PySem PySem.W PySem.Calls PyProof.Rows
theorem zfk {P:Params}{h:Heap}:∀(ns:List Int) (vs:List Value),WellAll P h vs (ns.map WData.int)->IntsAre vs ns:=by
  intro ns
  induction ns with
  | nil =>
    intro vs w;rw [List.map_nil] at w;cases w;exact .nil
  | cons n ns ih =>
    intro vs w;rw [List.map_cons] at w;cases w with
    | cons a b =>
      cases a;exact .cons _ _ (ih _ b)
theorem zq4 {l:OpenLaw}{n:Nat} (hn:l.most=some n) {P:Params}{h:Heap}{args:List WData}{vals:List Value}
    (hpre:l.row.toRowW.claim.pre args=true) (hwl:WellAll P h vals args) :
    ∃a vs ns,vals=[Value.ref a]/\args=[WData.list (ns.map WData.int)]/\h.get? a=some { cls:=.type "list",data:=.seq vs.toArray }/\IntsAre vs ns/\ns.length<=n:=by
  have hsh:WShape.hasAll [] args [.list .int]=true:=(pre_splitW hpre).1;have hc:l.pre.holds [] { args:=args }=true:=(pre_splitW hpre).2;obtain ⟨d,r,rfl,h1,h2⟩:=hasAllW_cons hsh;obtain rfl:=hasAllW_nil h2;obtain ⟨xs,rfl,h3⟩:=hasW_list h1;obtain ⟨ns,rfl⟩:=items_int h3;have hlen:ns.length<=n:=by
    unfold OpenLaw.pre at hc;have h4:(WTm.not (.lt (.lit (.int (n:Int))) (.len (.arg 0)))).holds [] { args:=[.list (ns.map .int)] }=true:=by
      have h4:=(holds_andW hc).1;rw [hn] at h4;exact h4
    have h5:=condW_of h4 (w_not (w_lt w_lit (w_len_list (w_arg rfl))));rw [List.length_map] at h5;refine Nat.le_of_not_lt fun q=>?_;have q' : (n:Int) < ((ns.length:Nat):Int):=by omega
    first
      | (rw [decide_eq_true q'] at h5;exact absurd h5 (by decide))
      | (simp at h5;omega)
  cases hwl with
  | cons w1 w2 =>
    cases w2;cases w1 with
    | list ho hall=>exact ⟨_,_,ns,rfl,rfl,ho,zfk ns _ hall,hlen⟩
theorem zr1 (l:OpenLaw) (args:List WData):l.row.toRowW.claim.post args (.bool true) args=true :=
 postW_of (r:=l.row.toRowW) (X:=(true == true))
  (show WShape.has [] (.bool true) .bool=true by first | rfl | decide | simp [WShape.has,WShape.arms,WShape.armsAll])
  (show (WTm.eq .res (.lit (.bool true))).value [] { args:=args,res:=some (.bool true),after:=args }=some (.bool (true == true)) from w_eq_bool (w_res rfl) w_lit) rfl
theorem attach_call {l:OpenLaw}{n:Nat}{q:Program}{loose:List Str}{XP:(Str->Option Value)->Heap->Prop}{YP:World->Heap->Prop}{d:DefRec}
  (hn:l.most=some n) (hdf:d.params.defaults=[])
  (call:∀(w:World) (s₀ s₁:Shared) (mg mb:Str->Option Value) (fa:Addr) (o:Obj) (pm cd doc:Value) (a:Addr) (vs:List Value) (ns:List Int),
   Ground q loose [] XP w s₀ mg mb s₁.heap->YP w s₁.heap ->
   s₁.heap.get? fa=some o->o.data=.func (docDef d.name d.params d.body d.scope pm cd doc)->s₁.heap.CodeRec cd d.name->mg d.name=some (.ref fa) ->
   s₁.heap.get? a=some { cls:=.type "list",data:=.seq vs.toArray }->IntsAre vs ns->ns.length<=n->s₁.gens=#[] ->
   codeAny (model l.prog w) callerA (.call (.ref fa) ⟨[.ref a],[]⟩) (fun r s'=>r=.ok (.ret (.bool true))/\OldK s₁.heap s'.heap/\s'.os=s₁.os/\AllBare s'.gens) s₁) :
  WalkO q loose XP YP l.row.toRowW d [] (fun f vs=>PySem.call f vs):=by
 intro w s₀ s₁ mg mb G Y fa o pm cd doc dV kV ho hd hcd hD hmg hg args vals as hpre hlay hrd hwl hlo;obtain rfl:dV=.none:=Dflts.none hD hdf;obtain rfl:kV=.none:=Dflts.noKw hD;obtain ⟨a,vs,ns,rfl,rfl,hobj,hints,hlen⟩:=zq4 hn hpre hwl;refine enter_call (codeAny_mono (call w s₀ s₁ mg mb fa o pm cd doc a vs ns G Y ho (fd_plain hd) hcd hmg hobj hints hlen hg) fun r s' hq=>?_);obtain ⟨rfl,h2,h3,h4⟩:=hq;exact ⟨.inl ⟨.bool true,.bool true,[],rfl,fun _=>rfl,.bool true,zr1 l _,fun _=>⟨List.Pairwise.nil,fun _ hm=>(nomatch hm)⟩⟩,h2,h3,h4⟩
section
variable {prog:Program}{w:World}{A:Around}{E:Value->Shared->Prop}{s:Shared}{K:Frag}
end
end Att
namespace L2
open PySem PySem.Spec PyProof.Rows
theorem zjg:∀{vs:List Value}{ns:List Int},IntsAre vs ns->Vals (ns.map V.int) vs
 | _,_,.nil=>.nil
 | _,_,.cons n t h=>.cons ⟨t,rfl⟩ (zjg h)
end L2
namespace L2
open PySem PySem.Spec PyProof.Rows
end L2
namespace L2
open PySem PySem.Spec PyProof.Rows
noncomputable def zdy (s:Stmt):Arguments:=match s with
 | .FunctionDef _ a _ _ _ _ _ _ _ _=>a
 | _=>{ posonlyargs:=[],args:=[],vararg:=none,kwonlyargs:=[],kw_defaults:=[],kwarg:=none,defaults:=[] }
noncomputable def zcx (s:Stmt):List Stmt:=match s with
 | .FunctionDef _ _ b _ _ _ _ _ _ _=>b
 | _=>[]
noncomputable def zaj (s:Stmt):Scope:=match s with
 | .FunctionDef _ _ _ _ _ _ sc _ _ _=>sc
 | _=>{ kind:=.function,names:=[],isGenerator:=false,isCoroutine:=false }
noncomputable abbrev CX0:CXT:=fun _ _ _ _ _ _=>False
noncomputable abbrev E0:XK:=fun _ _ _=>False
theorem z40 {X:Cx}:zr6 CX0 X E0:=fun _ _ _ _ _ _ _ h=>h.elim
structure Fun (K:PySem.W.Frag) (x qual:Str) (st:Stmt) (f:Addr) (fd:FuncData):Prop where
 ex:∃(oc:Value) (od:Option Addr) (kV doc pm:Value) (an:Option Addr) (cdv ct:Value) (osl:Array (Option Value)),
  fd=PySem.W.fnOf x qual (zdy st) (zcx st) (zaj st) .none kV doc pm an cdv ct/\K.lookup f=some ⟨oc,od,.func fd,osl⟩/\PySem.W.codeIn K cdv qual=true
 kp:PySem.W.keepIn K (.ref f)=true
section
variable {P:Program}{w:World}{K:PySem.W.Frag}{mg:Str->Option Value}{base:Heap}
theorem Fun.binds {x qual:Str}{st:Stmt}{f:Addr}{fd:FuncData}{ps:List Str} (F:Fun K x qual st f fd)
  (h:∀(kV doc pm:Value) (an:Option Addr) (cdv ct:Value) (us:List Value),us.length=ps.length->bindArgs (PySem.W.fnOf x qual (zdy st) (zcx st) (zaj st) .none kV doc pm an cdv ct) ⟨us,[]⟩=pure (ps.zip us)):zlu K fd ps []:=by
 obtain ⟨oc,od,kV,doc,pm,an,cdv,ct,osl,rfl,lk,hcd⟩:=F.ex;exact .all (h kV doc pm an cdv ct)
theorem zwp {x qual:Str}{st:Stmt}{f:Addr}{oc:Value}{od an:Option Addr}{osl:Array (Option Value)}{kV doc pm cdv ct:Value} (l:K.lookup f=some ⟨oc,od,.func (PySem.W.fnOf x qual (zdy st) (zcx st) (zaj st) .none kV doc pm an cdv ct),osl⟩)
  (c:PySem.W.codeIn K cdv qual=true) (k:PySem.W.keepIn K (.ref f)=true):Fun K x qual st f (PySem.W.fnOf x qual (zdy st) (zcx st) (zaj st) .none kV doc pm an cdv ct):=⟨⟨oc,od,kV,doc,pm,an,cdv,ct,osl,rfl,l,c⟩,k⟩
end
section
variable {X:Cx}
end
theorem iteF {A B:Prop} (h:B):if false=true then A else B:=by
 rw [if_neg Bool.false_ne_true];exact h
theorem iteT {A B:Prop} (h:A):if true=true then A else B:=by
 rw [if_pos rfl];exact h
noncomputable def Same (H H' : Hp):Prop:=∀b o,H b=some o->H' b=some o
theorem Same.refl (H:Hp):Same H H:=fun _ _ h=>h
theorem Same.trans {H H1 H2:Hp} (a:Same H H1) (b:Same H1 H2):Same H H2:=fun c o h=>b c o (a c o h)
theorem Same.free {H H' : Hp} (e:Same H H') {l:Addr} (h:H' l=Option.none):H l=Option.none:=by
  cases q:H l with
  | none=>rfl
  | some o =>
    rw [e l o q] at h;cases h
theorem Same.seq {K:PySem.W.Frag}{H H' : Hp}{a:Addr}{xs:List V} (e:Same H H') (h:SqL K H a xs):SqL K H' a xs:=by
 rcases h with (h | ⟨o,h⟩) | h
 ·exact .inl (.inl (e _ _ h))
 ·exact .inl (.inr ⟨o,e _ _ h⟩)
 ·exact .inr h
end L2
namespace L2
open PySem PySem.Spec PyProof.Rows
noncomputable def capSt (cap:List (Option Nat)) (σ:St):St:=cap.map fun o=>match o with
 | some i=>(σ[i]?).getD none
 | none=>none
noncomputable def zfv (cap:List (Option Nat)) (Nc N:List Str) (scope:Scope):Bool :=
 decide (cap.length=Nc.length) && (cap.zip Nc).all fun p=>match p.1 with
  | some i=>decide (N[i]?=some p.2) && decide (scope.names.lookup p.2=some NameKind.free)
  | none=>true
theorem zri {cap Nc N scope} (h:zfv cap Nc N scope=true):cap.length=Nc.length:=by
 unfold zfv at h;rw [Bool.and_eq_true] at h;exact of_decide_eq_true h.1
theorem zsf {cap:List (Option Nat)}{Nc N:List Str}{scope:Scope} (h:zfv cap Nc N scope=true) {j i:Nat}{x:Str} (h1:cap[j]?=some (some i)) (h2:Nc[j]?=some x):N[i]?=some x/\scope.names.lookup x=some .free:=by
 unfold zfv at h;rw [Bool.and_eq_true] at h;have hm:(some i,x)∈cap.zip Nc:=by
  refine List.mem_of_getElem? (i:=j) ?_;rw [List.getElem?_zip_eq_some];exact ⟨h1,h2⟩
 have q:=List.all_eq_true.mp h.2 _ hm;simp only [Bool.and_eq_true,decide_eq_true_eq] at q;exact q
noncomputable def ze2 (scope:Scope) (out:Scope):Bool:=scope.names.all fun p=>!(p.2 == NameKind.free) || decide (out.names.lookup p.1=some .cell) || decide (out.names.lookup p.1=some .free)
theorem zd5 {env:Env}:∀(names:List (Str × NameKind)) (acc:List (Str × Addr)),(∀x,(x,NameKind.free)∈names->∃c,env.cells.lookup x=some c)->(∀x c,acc.lookup x=some c->env.cells.lookup x=some c) ->
    ∃cl,(forIn names acc fun (p:Str × NameKind) cs=>if p.2 == NameKind.free then do let c <- cellOf env p.1;pure (ForInStep.yield ((p.1,c)::cs)) else pure (ForInStep.yield cs):Sem (List (Str × Addr)))=pure cl /\
      (∀x c,cl.lookup x=some c->env.cells.lookup x=some c)/\(∀x,(x,NameKind.free)∈names\/(∃c,acc.lookup x=some c)->∃c,cl.lookup x=some c)
  | [],acc,_,h2=>⟨acc,by rw [List.forIn_nil],h2,fun x hx=>by
      rcases hx with hx | hx
      · cases hx
      · exact hx⟩
  | (n,k)::r,acc,h1,h2=>by
    rw [List.forIn_cons];by_cases hk:(k == NameKind.free)=true
    · have ek : k = .free := by simpa using hk
      subst ek;obtain ⟨c,hc⟩:=h1 n List.mem_cons_self;have h2' : ∀x d,((n,c)::acc).lookup x=some d->env.cells.lookup x=some d:=fun x d hx=>by
        rw [List.lookup_cons] at hx;cases e:x == n with
        | true => rw [e] at hx; obtain rfl := sI hx; have : x = n := by simpa using e
                  rw [this];exact hc
        | false=>rw [e] at hx;exact h2 x d hx
      obtain ⟨cl,e,a,b⟩:=zd5 r ((n,c)::acc) (fun x hx=>h1 x (List.mem_cons_of_mem _ hx)) h2';refine ⟨cl,?_,a,fun x hx=>b x ?_⟩
      · rw [<- e]
        have hcell:cellOf env n=pure c:=by unfold cellOf;rw [hc]
        simp only [beq_self_eq_true,if_true,hcell]
        rfl
      · have gen:∀y d,acc.lookup y=some d->∃d',((n,c)::acc).lookup y=some d':=fun y d hy=>by
          rw [List.lookup_cons];cases e:y == n with
          | true=>exact ⟨_,rfl⟩
          | false=>exact ⟨d,hy⟩
        rcases hx with hx | ⟨d,hx⟩
        · rcases List.mem_cons.mp hx with hx | hx
          · injection hx with hx _
            subst hx;exact .inr ⟨c,by rw [List.lookup_cons];simp⟩
          · exact .inl hx
        · exact .inr (gen x d hx)
    · have hk' : (k == NameKind.free) = false := by simpa using hk
      obtain ⟨cl,e,a,b⟩:=zd5 r acc (fun x hx=>h1 x (List.mem_cons_of_mem _ hx)) h2;refine ⟨cl,?_,a,fun x hx=>b x ?_⟩
      · rw [<- e]
        simp only [hk',Bool.false_eq_true,if_false]
        rfl
      · rcases hx with hx | hx
        · rcases List.mem_cons.mp hx with hx | hx
          · injection hx with _ hx
            subst hx;simp at hk'
          · exact .inl hx
        · exact .inr hx
theorem zcj {env:Env}{scope:Scope} (h:∀x,(x,NameKind.free)∈scope.names->∃c,env.cells.lookup x=some c) :
  ∃cl,closureFor scope env=pure cl/\(∀x c,cl.lookup x=some c->env.cells.lookup x=some c)/\(∀x,(x,NameKind.free)∈scope.names->∃c,cl.lookup x=some c):=by
 refine aG fun _ qG=>?_;obtain ⟨cl,e,a,b⟩:=zd5 (env:=env) scope.names [] h (fun x c hx=>by simp at hx);refine qG ?_;clear qG;refine ⟨cl,?_,a,fun x hx=>b x (.inl hx)⟩;rw [closureFor];have e':=e;simp only [bind_assoc,pure_bind] at e' ⊢;exact congrArg (fun m=>m >>= fun r=>pure r) e |>.trans (by rw [pure_bind])
end L2
namespace L2
open PySem PySem.Spec PyProof.Rows
noncomputable def zaz (X:Cx) (Nc:List Str) (scope:Scope) (cl:List (Str × Addr)) (C:Addr) (s3:Shared) (H3:Hp) (fp:List Addr):Cx where
 prog:=X.prog
 w:=X.w
 K:=X.K
 mg:=X.mg
 base:=X.base
 A:=X.A
 N:=Nc
 s₀:=s3
 H₀:=H3
 env:=compEnvC scope cl C X.env
 outer:=X.stack
 stack:=X.stack
 ex:=fp
 fn:=fun x=>decide (scope.names.lookup x=some NameKind.cell)
 calm:=X.calm
 pn:=[]
 xe:=fun _ _=>False
noncomputable def zwv:TT:=fun σ H Q=>Q true H
noncomputable def PTs (X:Cx) (ifs:List Expr) (t:TT):Prop :=
  ∀(pins:List (Addr × Obj)) (s:Shared) (σ:St) (H:Hp) (Q:Bool->Hp->Prop),Inv X pins σ H s->t σ H Q ->
    wpAny (model X.prog X.w) X.A (forIn ifs true fun c r=>if r=true then do let ok <- isTrue c X.env (eval c X.env);pure (ForInStep.yield ok) else pure (ForInStep.yield r)) (TP X pins σ Q) X.xe s
theorem z0a {X:Cx}:PTs X [] zwv:=fun pins s σ H Q I h=>by
 rw [List.forIn_nil];exact wpAny_pure ⟨H,I,h⟩
theorem zys {X:Cx}{c:Expr}{t:TT} (h:PT X c t):PTs X [c] t:=fun pins s σ H Q I q=>by
 rw [List.forIn_cons];simp only [if_true];refine wpAny_bind (wpAny_bind (thn (h pins s σ H Q I q) fun b s1 q1=>?_));refine wpAny_pure ?_;dsimp only;rw [List.forIn_nil];exact wpAny_pure q1
section
variable {X:Cx}
theorem zaw {env:Env}:∀{names:List (Str × NameKind)}{x:Str},names.lookup x=some .free ->
    (names.map fun (n,k)=>if (k == NameKind.free && env.scope.kind == .function && env.kindOf n == some .cell) then (n,NameKind.cell) else (n,k)).lookup x=some .cell \/
    (names.map fun (n,k)=>if (k == NameKind.free && env.scope.kind == .function && env.kindOf n == some .cell) then (n,NameKind.cell) else (n,k)).lookup x=some .free
  | [],_,h=>by simp at h
  | (n,k)::r,x,h=>by
    have ih:=@zaw env r x;rw [List.map_cons];rw [List.lookup_cons] at h;cases hx:x == n with
    | true =>
      rw [hx] at h;obtain rfl:=sI h;dsimp only;split
      · rw [List.lookup_cons,hx];exact .inl rfl
      · rw [List.lookup_cons,hx];exact .inr rfl
    | false =>
      rw [hx] at h;dsimp only;split
      · rw [List.lookup_cons,hx];exact ih h
      · rw [List.lookup_cons,hx];exact ih h
theorem za6 {env:Env}:∀{names:List (Str × NameKind)}{x:Str}{k:NameKind},(k=.cell\/k=.free) ->
    (names.map fun (n,k)=>if (k == NameKind.free && env.scope.kind == .function && env.kindOf n == some .cell) then (n,NameKind.cell) else (n,k)).lookup x=some k->names.lookup x=some .free\/names.lookup x=some .cell
  | [],_,_,_,h=>by simp at h
  | (n,k0)::r,x,k,hk,h=>by
    rw [List.map_cons] at h;rw [List.lookup_cons];cases hx:x == n with
    | true =>
      dsimp only at h;split at h
      · rename_i hc
        rw [List.lookup_cons,hx] at h;simp only [Bool.and_eq_true,beq_iff_eq] at hc;rw [hc.1.1];exact .inl rfl
      · rw [List.lookup_cons, hx] at h
        obtain rfl:=sI h;rcases hk with rfl | rfl
        · exact .inr rfl
        · exact .inl rfl
    | false =>
      dsimp only at h;split at h
      · rw [List.lookup_cons,hx] at h;exact za6 hk h
      · rw [List.lookup_cons,hx] at h;exact za6 hk h
theorem zcz {scope out:Scope} (h:ze2 scope out=true) {x:Str} (hx:(x,NameKind.free)∈scope.names):out.names.lookup x=some .cell\/out.names.lookup x=some .free:=by
 have q:=List.all_eq_true.mp h _ hx;simpa using q
theorem capSt_get {cap:List (Option Nat)}{σ:St}{j:Nat}{v:V} (h:(capSt cap σ)[j]?=some (some v)):∃i,cap[j]?=some (some i)/\σ[i]?=some (some v):=by
  unfold capSt at h;rw [List.getElem?_map] at h;cases e:cap[j]? with
  | none=>rw [e] at h;cases h
  | some o =>
    rw [e] at h;cases o with
    | none=>cases h
    | some i =>
      refine ⟨i,rfl,?_⟩;have h' : (σ[i]?).getD none=some v:=sI h;cases e2:σ[i]? with
      | none=>rw [e2] at h';cases h'
      | some z=>rw [e2] at h';exact congrArg some h'
theorem za0 {env:Env}:∀{names:List (Str × NameKind)}{x:Str}{k:NameKind},k≠.free->names.lookup x=some k ->
    (names.map fun (n,k)=>if (k == NameKind.free && env.scope.kind == .function && env.kindOf n == some .cell) then (n,NameKind.cell) else (n,k)).lookup x=some k
  | [],_,_,_,h=>by simp at h
  | (n,k0)::r,x,k,hk,h=>by
    have ih:=@za0 env r x k hk;rw [List.map_cons];rw [List.lookup_cons] at h;cases hx:x == n with
    | true =>
      rw [hx] at h;obtain rfl:=sI h;have:(k0 == NameKind.free)=false:=by cases k0<;>first | rfl | exact absurd rfl hk
      dsimp only;rw [this,Bool.false_and,Bool.false_and,if_neg Bool.false_ne_true,List.lookup_cons,hx]
    | false =>
      rw [hx] at h;dsimp only;split
      · rw [List.lookup_cons,hx];exact ih h
      · rw [List.lookup_cons,hx];exact ih h
noncomputable def zea (scope:Scope):Bool:=scope.names.all fun p=>!(p.2 == NameKind.cell) || decide (scope.names.lookup p.1=some .cell)
theorem zol {scope:Scope} (h:zea scope=true) {x:Str} (hx:(x,NameKind.cell)∈scope.names):scope.names.lookup x=some .cell:=by
 have q:=List.all_eq_true.mp h _ hx;simpa using q
theorem zbw:∀(names:List (Str × NameKind)) (n:Nat) (acc:List (Str × Addr)),cellsFrom n names acc=cellsFrom n names []++acc
  | [],_,_=>rfl
  | (x,k)::r,n,acc=>by
    unfold cellsFrom;split
    · rw [zbw r (n+1) ((x,n)::acc),zbw r (n+1) [(x,n)],List.append_assoc];rfl
    · exact zbw r n acc
theorem zeu:∀(names:List (Str × NameKind)) (n:Nat) {x:Str}{c:Addr},(x,c)∈cellsFrom n names []->(x,NameKind.cell)∈names
  | [],_,_,_,h=>by cases h
  | (y,k)::r,n,x,c,h=>by
    unfold cellsFrom at h;split at h
    · rename_i hk
      rw [zbw] at h;rcases List.mem_append.mp h with h | h
      · exact List.mem_cons_of_mem _ (zeu r _ h)
      · have e := List.mem_singleton.mp h
        cases e;have:k=NameKind.cell:=by simpa using hk
        rw [this];exact List.mem_cons_self
    · exact List.mem_cons_of_mem _ (zeu r _ h)
theorem cells_of {names:List (Str × NameKind)}{n:Nat}{cl:List (Str × Addr)}{x:Str}{c:Addr} (h:(cellsFrom n names cl).lookup x=some c):(cellsFrom n names []).lookup x=some c\/((cellsFrom n names []).lookup x=none/\cl.lookup x=some c):=by
 rw [zbw,List.lookup_append] at h;cases e:(cellsFrom n names []).lookup x with
 | some d=>rw [e] at h;exact .inl h
 | none=>rw [e] at h;exact .inr ⟨rfl,h⟩
theorem zf0 {scope:Scope} (h:zea scope=true) {n:Nat}{cl:List (Str × Addr)}{x:Str}{c:Addr} (hx:scope.names.lookup x=some .free) (hc:cl.lookup x=some c):(cellsFrom n scope.names cl).lookup x=some c:=by
  rw [zbw,List.lookup_append];cases e:(cellsFrom n scope.names []).lookup x with
  | none=>exact hc
  | some d =>
    have:=zol h (zeu _ _ (PySem.mem_of_lookup e));rw [hx] at this;cases this
theorem zts {pins:List (Addr × Obj)}{σ:St}{H3:Hp}{s3:Shared}{Nc:List Str}{scope:Scope}{cl:List (Str × Addr)}{cap:List (Option Nat)}{fp:List Addr}{h4:Heap}{tk:Nat}
  (I:Inv X pins σ H3 s3) (hk:scope.kind=.function) (hcap:zfv cap Nc X.N scope=true) (hfr:ze2 scope X.env.scope=true) (hnc:zea scope=true)
  (c1:∀x c,cl.lookup x=some c->X.env.cells.lookup x=some c) (c2:∀x,(x,NameKind.free)∈scope.names->∃c,cl.lookup x=some c)
  (hf:∀b∈fp,FpOk X pins H3 b) (ho:∀b∈fp,b < s3.heap.objs.size)
  (hns:h4.Ns s3.heap.objs.size (fun _=>none)) (hkeep:∀b o,s3.heap.get? b=some o->h4.get? b=some o) (hcs:CellsOk h4 (s3.heap.objs.size+1) (cellsFrom (s3.heap.objs.size+1) scope.names [])) :
  Inv (zaz X Nc scope (cellsFrom (s3.heap.objs.size+1) scope.names cl) s3.heap.objs.size s3 H3 fp) [] (capSt cap σ) H3 { s3 with heap:=h4,toks:=tk }:=by
 have stkne:∀b∈fp,b ∉ frs X.stack:=fun b hb z=>by
  obtain ⟨_,g1,g2,_⟩:=hf b hb;rcases List.mem_cons.mp (I.stkSub b z) with e | e
  ·exact g1 e
  ·exact g2 e
 have own:∀x c,(cellsFrom (s3.heap.objs.size+1) scope.names []).lookup x=some c->h4.IsCell c none/\s3.heap.objs.size+1<=c:=fun x c h=>hcs.empty x c (PySem.mem_of_lookup h);have old:∀x c,cl.lookup x=some c->c < s3.heap.objs.size:=fun x c h=>by
  obtain ⟨v,q⟩:=I.cell x c (c1 x c h);exact q.lt
 refine ⟨⟨I.mod,hk,I.ok.glob,I.ok.blt,Nat.le_refl _,fun x y c h1 h2=>?_,fun x hx=>?_,fun x c h h'=>?_,I.ok.hd,I.ok.frames,.inl rfl,fun b hb=>⟨Nat.ne_of_lt (ho b hb),fun x c h=>?_⟩,
  fun b o e=>I.bs b o e,Nat.le_trans I.ok.bsz I.sz,fun b o e hb=>?_,stkne,I.stack,I.stkFree⟩,rfl,I.bare,Un.kept hkeep,⟨_,hns,fun j x v h1 h2 h3=>?_⟩,fun x c h=>?_,I.hok.fresh (Nat.le_refl _),fun x c h=>?_,fun p hp=>absurd (show p∈([]:List (Addr × Obj)) from hp) (by simp),I.hok.kept hkeep,?_⟩
 ·rcases cells_of h1 with z1 | ⟨_, z1⟩
  ·rcases cells_of h2 with z2 | ⟨_, z2⟩
   ·exact name_of_addr hcs.apart (PySem.mem_of_lookup z1) (PySem.mem_of_lookup z2)
   ·have a := (own x c z1).2;have b:=old y c z2;exact absurd (Nat.lt_of_lt_of_le b (Nat.le_of_succ_le a)) (Nat.lt_irrefl _)
  ·rcases cells_of h2 with z2 | ⟨_, z2⟩
   ·have a := (own y c z2).2;have b:=old x c z1;exact absurd (Nat.lt_of_lt_of_le b (Nat.le_of_succ_le a)) (Nat.lt_irrefl _)
   ·exact I.ok.inj x y c (c1 x c z1) (c1 y c z2)
 ·have hx' : scope.names.lookup x=some .free\/scope.names.lookup x=some .cell:=by
   rcases hx with hx | hx
   ·exact za6 (env:=X.env) (.inl rfl) hx
   ·exact za6 (env:=X.env) (.inr rfl) hx
  rcases hx' with hx' | hx'
  ·obtain ⟨c, e⟩ := c2 x (PySem.mem_of_lookup hx');exact ⟨c,zf0 hnc hx' e⟩
  ·exact Option.isSome_iff_exists.mp (PySem.W.cellsFrom_some scope.names _ cl (.inl hx'))
 ·have hx : scope.names.lookup x = some .cell := of_decide_eq_true h;rcases cells_of h' with z | ⟨z,_⟩
  ·exact Nat.le_of_succ_le (own x c z).2
  ·obtain ⟨d, e⟩ := cell_has (n := s3.heap.objs.size + 1) hx;rw [z] at e;cases e
 ·rcases cells_of h with z | ⟨_, z⟩
  ·have a := (own x c z).2;have:=ho b hb;exact Ne.symm (Nat.ne_of_lt (Nat.lt_of_lt_of_le this (Nat.le_of_succ_le a)))
  ·exact (hf b hb).2.2.2.2.1 x c (c1 x c z)
 ·rcases (hf b hb).2.2.2.1 with z | z
  ·exact I.ok.noex b o e z
  ·have h1 : b < X.base.objs.size := Heap.lt_size e;exact absurd (Nat.lt_of_lt_of_le h1 (Nat.le_trans I.ok.bsz z)) (Nat.lt_irrefl _)
 ·obtain ⟨i, e1, e2⟩ := capSt_get h2;have hNx:Nc[j]?=some x:=h1;obtain ⟨n1,n2⟩:=zsf hcap e1 hNx;have vis:Vis X.env.scope x:=by
   rcases zcz hfr (PySem.mem_of_lookup n2) with z | z
   ·exact .inr (.inl z)
   ·exact .inr (.inr z)
  obtain ⟨m,hn,hl⟩:=I.loc;obtain ⟨u,r,l⟩:=hl i x v n1 e2 vis;refine ⟨u,r,?_⟩;rcases l with ⟨hk',_⟩ | ⟨_,c,e,z⟩
  ·have hk2 : X.env.scope.names.lookup x = some .local := hk';rcases zcz hfr (PySem.mem_of_lookup n2) with z | z
   ·rw [z] at hk2;cases hk2
   ·rw [z] at hk2;cases hk2
  ·obtain ⟨c', e'⟩ := c2 x (PySem.mem_of_lookup n2);have:=c1 x c' e';rw [e] at this;obtain rfl:=sI this;refine .inr ⟨zaw (env:=X.env) n2,c,zf0 hnc n2 e',?_⟩;obtain ⟨o,ho',hd⟩:=z;exact ⟨o,hkeep _ _ ho',hd⟩
 ·rcases cells_of h with z | ⟨_, z⟩
  ·exact ⟨none,(own x c z).1⟩
  ·obtain ⟨v, o, ho', hd⟩ := I.cell x c (c1 x c z);exact ⟨v,o,hkeep _ _ ho',hd⟩
 ·rcases cells_of h with z | ⟨_, z⟩
  ·exact I.hok.fresh (Nat.le_of_succ_le (own x c z).2)
  ·exact I.freeC x c (c1 x c z)
 ·show (capSt cap σ).length = Nc.length;rw [<-zri hcap];unfold capSt;rw [List.length_map]
theorem zgl {M:Model}{A:Around}{E:Value->Shared->Prop}{s:Shared}{scope:Scope}{globals:Addr}{cl:List (Str × Addr)}{qual:Str}{outer:Env}{Q:Env->Shared->Prop}
  (hQ:∀h',h'.Ns s.heap.objs.size (fun _=>none)->(∀b o,s.heap.get? b=some o->h'.get? b=some o)->CellsOk h' (s.heap.objs.size+1) (cellsFrom (s.heap.objs.size+1) scope.names []) ->
   Q (newEnv scope s.heap.objs.size globals (cellsFrom (s.heap.objs.size+1) scope.names cl) qual none .none (some outer) builtinsNs) { s with heap:=h' }) :
  wpAny M A (newFunctionEnv scope globals cl [] qual none .none (some outer)) Q E s:=by
 simp only [newFunctionEnv,Option.isSome_some,if_true];refine wpAny_bind (wpAny_alloc ?_);refine wpAny_bind (wpAny_layCells _ (fun name kind cells=>by cases hkc:kind == NameKind.cell<;>simp [hkc]) _ _ _ _ ?_);have ok:=cellsFrom_ok scope.names (s.heap.push { cls:=.type "dict",data:=.dict #[] }) (s.heap.objs.size+1) [] ⟨fun _ _ hm=>(nomatch hm),List.Pairwise.nil⟩ (by rw [Heap.size_push];exact Nat.le_refl _);rw [Heap.size_push] at ok;rw [show ({ s with heap:=s.heap.push { cls:=.type "dict",data:=.dict #[] } }:Shared).heap.objs.size=s.heap.objs.size+1 from Heap.size_push ..];refine wpAny_bind ?_;rw [List.forIn_nil];exact wpAny_pure (wpAny_pure (hQ _ ((Heap.Ns.new s.heap (.type "dict")).keeps (pushCells_keeps _ _)) (fun b o e=>pushCells_keeps _ _ b o (Heap.get?_push_of_some _ e)) ok))
end
end L2
namespace L2
open PySem PySem.Spec PyProof.Rows
noncomputable abbrev TM:=St->Hp->(St->Hp->Prop)->Prop
noncomputable def PM (X:Cx) (em:Sem Unit) (t:TM):Prop :=
  ∀(pins:List (Addr × Obj)) (s:Shared) (σ:St) (H:Hp) (N:St->Hp->Prop),Inv X pins σ H s->t σ H N ->
    wpAny (model X.prog X.w) X.A em (fun _ s'=>∃σ' H',Inv X pins σ' H' s'/\N σ' H') X.xe s
noncomputable def zni (e:Expr) (d:Nat) (tg iter:Expr) (ifs:List Expr) (em:Sem Unit) (it acc:Value) (env:Env):Sem Fin:=do
  standAt iter.pos
  match <- pyNext it with
  | none=>pure (.done .next)
  | some v =>
    letOwnedTupleGo tg it v
    assign tg env v
    let mut ok:=true
    for c in ifs do
      if ok then ok <- isTrue c env (eval c env)
    if ok then em
    again (.compLoop e d it acc env)
noncomputable def zmf (J:It) (g:TG) (tc:TT) (tm:TM) (σ:St) (H:Hp) (Q:St->Hp->Prop):Prop:=∃W:Nat->Nat->St->Hp->Prop,(∃m,W 0 m σ H) /\
 ∀i m σc Hc,W i m σc Hc->(J.stop i Hc/\Q σc Hc)\/(J.go i Hc/\∃N:St->Hp->Prop,(∀σ' H',N σ' H'->∃m',m' < m/\W (i+1) m' σ' H')/\∀x H',J.yld i Hc x H'->g x σc H' fun σ2 H2 =>
  tc σ2 H2 fun b H3=>if b=true then tm σ2 H3 N else N σ2 H3)
noncomputable def zo1 (wi:TI) (cap:List (Option Nat)) (g:TG) (tc:TT) (tm:Addr->TM):TE:=fun σ H Q=>wi σ H fun J H1=>∀acc,H1 acc=none->zmf J g tc (tm acc) (capSt cap σ) (upd H1 acc (.lst [])) fun _ Hc=>Q (.ref acc) Hc
section
variable {X:Cx}
theorem zqa {elt:Expr}{gens:List Comprehension}{scope:Scope}{pos:Pos}{d:Nat}{tg iter:Expr}{ifs:List Expr}{em:Sem Unit}{acc:Value}{g:TG}{tc:TT}{tm:TM}{pins:List (Addr × Obj)}{σ:St}{H:Hp}{s:Shared}{it:Addr}{fp:List Addr}{tn:Nat->Heap->Prop}{J:It}{N0:St->Hp->Prop}{R:Result->Shared->Prop}
  (hx:∀v s,¬ X.xe v s) (hc:X.calm=true) (ht:compTurn (.ListComp elt gens scope pos) d (.ref it) acc X.env=zni (.ListComp elt gens scope pos) d tg iter ifs em (.ref it) acc X.env)
  (hg:PG X tg g) (hs:PTs X ifs tc) (hm:PM X em tm) (I:Inv X pins σ H s) (T:Turn X.prog X.w X.K tg J fp it tn) (st:tn 0 s.heap) (f:∀b∈fp,FpOk X pins H b)
  (hW:zmf J g tc tm σ H N0)
  (hR:∀σ' H' s',Inv X pins σ' H' s'->N0 σ' H'->R (.ok .next) s'):codeAny (model X.prog X.w) X.A (.compLoop (.ListComp elt gens scope pos) d (.ref it) acc X.env) R s:=by
 have stat:∀{H' : Hp},(∀b∈fp,H' b=none)->∀b∈fp,FpOk X pins H' b:=fun hn b hb=>⟨hn b hb,(f b hb).2⟩;refine aG fun _ qG=>?_;obtain ⟨W,⟨m0,w0⟩,turn⟩:=hW;refine qG ?_;clear qG;refine codeAny_loop rfl (fun n s'=>∃i σ' H',Inv X pins σ' H' s'/\tn i s'.heap/\(∀b∈fp,H' b=none)/\W i n σ' H') ?_ m0 ⟨0,σ,H,I,st,fun b hb=>(f b hb).1,w0⟩;rintro n s3 ⟨i,σ3,H3,I3,st3,fr3,w3⟩;show wpAny _ X.A ((compTurn (.ListComp elt gens scope pos) d (.ref it) acc X.env).onRaise (fun x=>do noteFrame x X.env;theTreesLotGoes x)) _ _ s3;refine wpAny_noted ?_;rw [ht];unfold zni;refine wpAny_bind (wpAny_standAt (wpAny_bind ?_));rcases turn i n σ3 H3 w3 with ⟨stop,qn⟩ | ⟨go,N,hN,step⟩
 ·refine wpAny_mono (T.done X rfl rfl rfl hc i pins s3 σ3 H3 (fun _ _ => False) I3 (stat fr3) st3 stop) (fun r s4 ⟨hr, I4⟩ => ?_) fun _ _ z => z.elim;subst hr;exact wpAny_pure (hR σ3 H3 s4 I4 qn)
 ·refine wpAny_mono (T.item X rfl rfl rfl hc i pins s3 σ3 H3 (fun _ _ => False) I3 (stat fr3) st3 go) (fun r s4 ⟨u, hr, h4⟩ => ?_) fun _ _ z => z.elim;subst hr;refine wpAny_bind (wpAny_mono h4 (fun _ s5 ⟨x,H5,I5,r5,y5,st5,fr5⟩=>?_) fun _ _ z=>z.elim);have I5':=I5.pinned (stat fr5) (T.obj _ _ st5);refine wpAny_bind (wpAny_mono (hg _ s5 σ3 H5 x u _ I5' r5 (step x H5 y5)) (fun _ s6 ⟨σ6,H6,I6,q6⟩=>?_) fun v s z=>(hx v s z).elim);refine wpAny_bind (wpAny_mono (hs _ s6 σ6 H6 _ I6 q6) (fun ok s7 ⟨H7,I7,q7⟩=>?_) fun v s z=>(hx v s z).elim);have again:∀{sx:Shared}{σx:St}{Hx:Hp},Inv X (pins++zhx fp s5.heap) σx Hx sx->N σx Hx->∃m,m < n/\∃i σ' H',Inv X pins σ' H' sx/\tn i sx.heap/\(∀b∈fp,H' b=none)/\W i m σ' H':=fun {sx σx Hx} Ix nx=>by
   obtain ⟨m',hm,wx⟩:=hN σx Hx nx;refine ⟨m',hm,i+1,σx,Hx,Ix.unpinned,T.keep _ _ _ st5 fun b hb o e=>(Ix.pin (b,o) (List.mem_append_right _ (List.mem_append_right _ (zc0 hb e)))).1,fun b hb=>?_,wx⟩;obtain ⟨o,e,d⟩:=T.obj _ _ st5 b hb;exact (Ix.pin (b,o) (List.mem_append_right _ (List.mem_append_right _ (zc0 hb e)))).2.1
  cases ok with
  | false=>exact wpAny_pure ⟨rfl,again I7 q7⟩
  | true=>exact wpAny_bind (wpAny_mono (hm _ s7 σ6 H7 N I7 q7) (fun _ s8 ⟨σ8,H8,I8,n8⟩=>wpAny_pure ⟨rfl,again I8 n8⟩) fun v s z=>(hx v s z).elim)
noncomputable def ztj (acc:Addr) (te:TE):TM:=fun σ H N=>te σ H fun y H4=>∃ys,H4 acc=some (.lst ys)/\ys.length < sizeLine/\N σ (upd H4 acc (.lst (ys++[y])))
noncomputable def zzy (elt:Expr) (acc:Value) (env:Env):Sem Unit:=do let _ <- call (.builtin "list.append") [acc,<-eval elt env]
theorem z3s {elt:Expr}{te:TE}{acc:Addr} (he:PE X elt te):PM X (zzy elt (.ref acc) X.env) (ztj acc te):=by
 intro pins s σ H N I h;unfold zzy;refine wpAny_bind (thn (he pins s σ H _ I h) fun yv s10 ⟨y,H10,I10,r10,ys,ha,hz,q10⟩=>?_);refine wpAny_bind (thn (zjs _ s10 σ H10 (.ref acc) [y] _ [yv] (fun _ H'=>N σ H') I10 rfl (.cons r10 .nil) ⟨_,ys,y,rfl,rfl,ha,hz,q10⟩) fun _ s11 ⟨_,H11,I11,_,q11⟩=>?_);exact wpAny_pure ⟨σ,H11,I11,q11⟩
end
theorem HOk.but {P:Program}{w:World}{H:Hp}{h h' : Heap}{a:Addr} (x:HOk P w H h) (hn:H a=none) (hs:Heap.SameBut a h h'):HOk P w H h':=fun b ob e=>by
 refine (x b ob e).stay (fun c w' hc q=>(hs.2 c ?_).trans q) (fun _ q=>q) fun _ _ q=>q;rintro rfl;rcases hc with rfl | hc
 ·rw [hn] at e;cases e
 ·rw [hn] at hc;cases hc
section
variable {X:Cx}
theorem zf8 {elt tg iter:Expr}{ifs:List Expr}{gs:List Comprehension}{scope:Scope}{pos:Pos}{cl:List (Str × Addr)}{Nc:List Str}{cap:List (Option Nat)}{g:TG}{tc:TT}{em:Value->Env->Sem Unit}{tm:Addr->TM}{pins:List (Addr × Obj)}{σ:St}{H2:Hp}{s2:Shared}{it:Addr}{fp:List Addr}{tn:Nat->Heap->Prop}{J:It}{Q:VK}{RR:Value->Addr->Result->Shared->Prop}{E:Value->Shared->Prop}
  (hc:X.calm=true) (hk:scope.kind=.function) (hcap:zfv cap Nc X.N scope=true) (hfr:ze2 scope X.env.scope=true) (hnc:zea scope=true)
  (hturn:∀it acc env,compTurn (.ListComp elt (⟨tg,iter,ifs,0⟩ :: gs) scope pos) 0 it acc env=zni (.ListComp elt (⟨tg,iter,ifs,0⟩ :: gs) scope pos) 0 tg iter ifs (em acc env) it acc env)
  (hg:∀cl C s3 H3 fp,PG (zaz X Nc scope cl C s3 H3 fp) tg g) (ht:∀cl C s3 H3 fp,PTs (zaz X Nc scope cl C s3 H3 fp) ifs tc) (hm:∀cl C s3 H3 fp acc,PM (zaz X Nc scope cl C s3 H3 fp) (em (.ref acc) (zaz X Nc scope cl C s3 H3 fp).env) (tm acc))
  (c1:∀x c,cl.lookup x=some c->X.env.cells.lookup x=some c) (c2:∀x,(x,NameKind.free)∈scope.names->∃c,cl.lookup x=some c)
  (I2:Inv X pins σ H2 s2) (T:Turn X.prog X.w X.K tg J fp it tn) (st2:tn 0 s2.heap) (f2:∀b∈fp,FpOk X pins H2 b)
  (hW:∀acc,H2 acc=none->zmf J g tc (tm acc) (capSt cap σ) (upd H2 acc (.lst [])) fun _ Hc=>Q (.ref acc) Hc)
  (hR:∀acc C s' H',(∃m,s'.heap.Ns C m)->(∀h',Heap.SameBut C s'.heap h'->Inv X pins σ H' { s' with heap:=h' })->FpOk X pins H' C->Q (.ref acc) H'->RR (.ref acc) C (.ok .next) s') :
  wpAny (model X.prog X.w) X.A (newList []) (fun acc s₃=>wpAny (model X.prog X.w) X.A (newFunctionEnv scope X.env.globals cl [] X.env.qual none .none (some X.env)) (fun cenv s₄ =>
   codeAny (model X.prog X.w) X.A (.compStart (.ListComp elt (⟨tg,iter,ifs,0⟩ :: gs) scope pos) 0 (.ref it) acc { cenv with scope:=relabel scope X.env }) (RR acc cenv.locals) s₄) E s₃) E s2:=by
 refine wpAny_newObj_type (zgl fun h₁ hns₁ keep4 hcs=>?_);dsimp only at hns₁ keep4 hcs ⊢;have hacc:H2 s2.heap.objs.size=none:=I2.hok.fresh (Nat.le_refl _);have I3:Inv X pins σ (upd H2 s2.heap.objs.size (.lst [])) { s2 with heap:=s2.heap.push { cls:=.type "list",dict:=none,data:=.seq ([]:List Value).toArray },toks:=s2.toks } :=
  I2.laid (t':=s2.toks) (fun b u e=>Heap.get?_push_of_some _ e) (Nat.le_refl _) ⟨by simp,[],0,.nil,Heap.get?_push_size _ rfl⟩
 have hW':=hW s2.heap.objs.size hacc;generalize hH:s2.heap.push { cls:=.type "list",dict:=none,data:=.seq ([]:List Value).toArray }=hp at hns₁ keep4 hcs I3 ⊢;have f3:∀b∈fp,FpOk X pins (upd H2 s2.heap.objs.size (.lst [])) b:=fun b hb=>by
  obtain ⟨o,ho,_⟩:=T.obj _ _ st2 b hb;exact ⟨by rw [upd_ne (Nat.ne_of_lt (Heap.lt_size ho))];exact (f2 b hb).1,(f2 b hb).2⟩
 have up:∀b o,s2.heap.get? b=some o->hp.get? b=some o:=fun b o e=>hH ▸ Heap.get?_push_of_some _ e;have I4:=zts (Nc:=Nc) (cap:=cap) (fp:=fp) (h4:=h₁) (tk:=s2.toks) I3 hk hcap hfr hnc c1 c2 f3 (fun b hb=>by
  obtain ⟨o,ho,_⟩:=T.obj _ _ st2 b hb;exact Heap.lt_size (up b o ho)) hns₁ keep4 hcs
 have st4:tn 0 h₁:=T.keep _ _ _ st2 fun b _ o e=>keep4 b o (up b o e);have loop:codeAny (model X.prog X.w) X.A (.compLoop (.ListComp elt (⟨tg,iter,ifs,0⟩ :: gs) scope pos) 0 (.ref it) (.ref s2.heap.objs.size) (compEnvC scope (cellsFrom (hp.objs.size+1) scope.names cl) hp.objs.size X.env)) (RR (.ref s2.heap.objs.size) hp.objs.size) { s2 with heap:=h₁,toks:=s2.toks }:=by
  refine zqa (X:=zaz X Nc scope (cellsFrom (hp.objs.size+1) scope.names cl) hp.objs.size { s2 with heap:=hp,toks:=s2.toks } (upd H2 s2.heap.objs.size (.lst [])) fp) (fun _ _ z=>z) hc (hturn _ _ _) (hg _ _ _ _ _) (ht _ _ _ _ _) (hm _ _ _ _ _ _) I4 T st4
   (fun b hb=>⟨(f3 b hb).1,(I4.ok.exf b hb).1,I4.ok.exfs b hb,.inl hb,(I4.ok.exf b hb).2,fun p hp'=>absurd (show p∈([]:List (Addr × Obj)) from hp') (by simp)⟩) hW' fun σ5 H5 s6 I6 qn=>?_
  obtain ⟨m6,hm6,_⟩:=I6.loc;have fC:H5 hp.objs.size=none:=I6.free;refine hR _ _ _ H5 ⟨m6,hm6⟩ (fun h' hsb=>?_) (I3.fpOk (Nat.le_refl _) fC) qn;refine I3.call' (s':={ s6 with heap:=h' }) (ch:=fp) I6.os ?_ (I6.hok.but fC hsb) I6.bare fun b hb=>⟨(f3 b hb).2.2.2.1,(f3 b hb).2.1,(f3 b hb).2.2.2.2.1,(f3 b hb).2.2.2.2.2⟩;have U:Un (frs X.stack) fp (upd H2 s2.heap.objs.size (.lst [])) H5 hp s6.heap:=I6.base;have nb:∀b o,hp.get? b=some o->b≠hp.objs.size:=fun b o e=>Nat.ne_of_lt (Heap.lt_size e);exact ⟨fun b o e n hb hx=>(hsb.2 b (nb b o e)).trans (U.keep b o e n hb hx),fun b o e n hb hx=>let ⟨sl,z⟩:=U.slot b o e n hb hx;⟨sl,(hsb.2 b (nb b o e)).trans z⟩,U.free,fun b o e hx=>let ⟨o',z⟩:=U.there b o e hx;⟨o',(hsb.2 b (nb b o e)).trans z⟩,U.tups,U.frzs,U.tbls⟩
 exact codeAny_compStart_list loop (T.self _ 0 _ _ _ st4 loop)
theorem zxt {elt tg iter:Expr}{ifs:List Expr}{gs:List Comprehension}{scope:Scope}{pos:Pos}{Nc:List Str}{cap:List (Option Nat)}{wi:TI}{g:TG}{tc:TT}{em:Value->Env->Sem Unit}{tm:Addr->TM} (hi:PI X tg iter wi)
  (hg:∀cl C s3 H3 fp,PG (zaz X Nc scope cl C s3 H3 fp) tg g) (ht:∀cl C s3 H3 fp,PTs (zaz X Nc scope cl C s3 H3 fp) ifs tc) (hm:∀cl C s3 H3 fp acc,PM (zaz X Nc scope cl C s3 H3 fp) (em (.ref acc) (zaz X Nc scope cl C s3 H3 fp).env) (tm acc))
  (hturn:∀it acc env,compTurn (.ListComp elt (⟨tg,iter,ifs,0⟩ :: gs) scope pos) 0 it acc env=zni (.ListComp elt (⟨tg,iter,ifs,0⟩ :: gs) scope pos) 0 tg iter ifs (em acc env) it acc env)
  (hc:X.calm=true:=by rfl) (hk:scope.kind=.function:=by rfl) (hcap:zfv cap Nc X.N scope=true:=by rfl) (hfr:ze2 scope X.env.scope=true:=by rfl) (hnc:zea scope=true:=by rfl)
  (hnm:(scope.names.all fun p=>!(p.2 == NameKind.local) || decide (scope.names.lookup p.1=some .local))=true:=by rfl)
  (hs:∀x,foldedSetIterable iter X.env x=pure x:=by intro _;rfl):PE X (.ListComp elt (⟨tg,iter,ifs,0⟩ :: gs) scope pos) (zo1 wi cap g tc tm):=by
 intro pins s σ H Q I h;rw [eval_ListComp];refine aG fun _ qG=>?_;obtain ⟨cl,hclos,c1,c2⟩:=zcj (env:=X.env) (scope:=scope) fun x hx=>I.ok.has x (zcz hfr hx);refine qG ?_;clear qG;have hnames:∀x∈scope.names,x.2=.local->scope.names.lookup x.1=some .local:=fun x hx e=>by
  have q:=List.all_eq_true.mp hnm _ hx;simpa [e] using q
 refine wpAny_comprehension_free (use:=none) rfl hs hclos hk hnames (thn (hi pins s σ H _ I h) fun v s1 h1=>thn h1 fun itv s2 h2=>?_);refine aG fun _ qG=>?_;obtain ⟨it,fp,tn,J,H2,e,I2,T,st2,f2,hW⟩:=h2;refine qG ?_;clear qG;subst e;refine zf8 (RR:=fun acc C=>compPost (model X.prog X.w) X.A X.xe none (EP X pins σ Q) acc C) hc hk hcap hfr hnc hturn hg ht hm c1 c2 I2 T st2 f2 hW ?_;intro acc C s' H' ⟨m,hm⟩ hI hC q;exact ⟨m,hm,fun h' hsb=>⟨.ref acc,H',hI h' hsb,rfl,q⟩⟩
theorem z0j {y:Str}{py:Pos}{spos:Pos}{i:Nat}{elt tg iter:Expr}{ifs:List Expr}{gs:List Comprehension}{scope:Scope}{pos:Pos}{Nc:List Str}{cap:List (Option Nat)}{wi:TI}{g:TG}{tc:TT}{em:Value->Env->Sem Unit}{tm:Addr->TM} (hN:X.N.Nodup) (hiy:X.N[i]?=some y) (hy:Loc X.env.scope y) (hi:PI X tg iter wi)
  (hg:∀cl C s3 H3 fp,PG (zaz X Nc scope cl C s3 H3 fp) tg g) (ht:∀cl C s3 H3 fp,PTs (zaz X Nc scope cl C s3 H3 fp) ifs tc) (hm:∀cl C s3 H3 fp acc,PM (zaz X Nc scope cl C s3 H3 fp) (em (.ref acc) (zaz X Nc scope cl C s3 H3 fp).env) (tm acc))
  (hturn:∀it acc env,compTurn (.ListComp elt (⟨tg,iter,ifs,0⟩ :: gs) scope pos) 0 it acc env=zni (.ListComp elt (⟨tg,iter,ifs,0⟩ :: gs) scope pos) 0 tg iter ifs (em acc env) it acc env)
  (hsw:swapsWith (.ListComp elt (⟨tg,iter,ifs,0⟩ :: gs) scope pos) (some (.Name y py)) spos.line X.env=pure true:=by rfl)
  (hc:X.calm=true:=by rfl) (hk:scope.kind=.function:=by rfl) (hcap:zfv cap Nc X.N scope=true:=by rfl) (hfr:ze2 scope X.env.scope=true:=by rfl) (hnc:zea scope=true:=by rfl)
  (hnm:(scope.names.all fun p=>!(p.2 == NameKind.local) || decide (scope.names.lookup p.1=some .local))=true:=by rfl)
  (hs:∀x,foldedSetIterable iter X.env x=pure x:=by intro _;rfl) (hf:X.fn y=true\/X.env.scope.names.lookup y=some .local:=by first | exact .inl rfl | exact .inr rfl | assumption) :
  PS X (.Assign [.Name y py] (.ListComp elt (⟨tg,iter,ifs,0⟩ :: gs) scope pos) spos) (tAsg (zo1 wi cap g tc tm) (zlk i)):=by
 intro pins s σ H D I h;refine aG fun _ qG=>?_;obtain ⟨cl,hclos,c1,c2⟩:=zcj (env:=X.env) (scope:=scope) fun x hx=>I.ok.has x (zcz hfr hx);refine qG ?_;clear qG;have hnames:∀x∈scope.names,x.2=.local->scope.names.lookup x.1=some .local:=fun x hx e=>by
  have q:=List.all_eq_true.mp hnm _ hx;simpa [e] using q
 rw [exec_Assign_Name_used _ _ _ _ hsw];refine wpAny_bind (wpAny_standAt (wpAny_bind ?_));show wpAny _ X.A (do let _ <- comprehension (.ListComp elt (⟨tg,iter,ifs,0⟩ :: gs) scope pos) scope X.env _ (newList []) false (eval iter X.env) (some (assign (.Name y py) X.env))) _ _ s;refine wpAny_bind (wpAny_mono (wpAny_comprehension_free (use:=some (assign (.Name y py) X.env)) (Q:=fun _ s'=>SP X pins D .next s') rfl hs hclos hk hnames
  (thn (hi pins s σ H _ I h) fun v s1 h1=>thn h1 fun itv s2 h2=>?_)) (fun _ s' hq=>wpAny_pure (wpAny_pure hq)) fun _ _ e=>e)
 refine aG fun _ qG=>?_;obtain ⟨it,fp,tn,J,H2,e,I2,T,st2,f2,hW⟩:=h2;refine qG ?_;clear qG;subst e;refine zf8 (Q:=fun x H1=>D.nx (σ.set i (some x)) H1) (RR:=fun acc C=>compPost (model X.prog X.w) X.A X.xe (some (assign (.Name y py) X.env)) (fun _ s'=>SP X pins D .next s') acc C) hc hk hcap hfr hnc hturn hg ht hm c1 c2 I2 T st2 f2 hW ?_;intro acc C s' H' ⟨m,hm⟩ hI hC q;show wpAny _ X.A (assign (.Name y py) X.env (.ref acc)) _ _ _;have I' : Inv X pins σ H' s':=hI s'.heap (.refl ..);refine wpAny_assign_Name (zi1 I' hN hiy hy (v:=.ref acc) rfl (fun s'' I'' ⟨a,hsb,ha⟩=>?_) hf);have ne:C≠a:=by
  rcases ha with rfl | ha
  ·exact hC.2.1
  ·exact fun z=>hC.2.2.2.2.1 y a ha z.symm
 refine ⟨m,hm.sameBut hsb ne,fun h' hsb'=>⟨_,H',?_,q⟩⟩;exact I''.turned (t':=s''.toks) (fun b o hb e=>(hsb'.2 b hb).trans e) hC.1 hC.2.1 hC.2.2.2.1 hC.2.2.2.2.1 hC.2.2.2.2.2
end
end L2
namespace L2
open PySem PySem.Spec PyProof.Rows
section
variable {X:Cx}{pins:List (Addr × Obj)}{σ:St}{H:Hp}{s:Shared}
theorem Inv.turnLay {h' : Heap}{t' : Nat}{ch:List Addr}{T:Addr}{o:HO} (I:Inv X pins σ H s) (k:∀b o,b ∉ ch->s.heap.get? b=some o->h'.get? b=some o) (th:∀b∈ch,∃o',h'.get? b=some o') (hch:∀b∈ch,FpOk X pins H b) (hT:s.heap.objs.size<=T)
  (new:zbd X.prog X.w (upd H T o) h' T o):Inv X pins σ (upd H T o) { s with heap:=h',toks:=t' }:=by
 have hn:H T=none:=I.hok.fresh hT;have ne:∀b u,s.heap.get? b=some u->b≠T:=fun b u e=>Nat.ne_of_lt (Nat.lt_of_lt_of_le (Heap.lt_size e) hT);have nch:∀b u,H b=some u->b ∉ ch:=fun b u e hb=>by rw [(hch b hb).1] at e;cases e
 refine I.step (g':=s.gens) (d':=s.drawn) (ch:=ch) (fun b hb=>⟨(hch b hb).2.2.2.1,(hch b hb).2.1,(hch b hb).2.2.2.2.1,(hch b hb).2.2.2.2.2⟩) (fun b o _ _ hc e _=>k b o hc e) (fun b o _ _ hc e _=>⟨o.slots,k b o hc e⟩) (fun b u _ e n=>by rw [upd_ne (ne b u e)];exact n)
  (fun b u hc e=>⟨u,k b u hc e⟩) (fun b xs e=>by rw [upd_ne (zab e hn)];exact e) (fun b u xs e=>by rw [upd_ne (zab e hn)];exact e) (fun b ps e=>⟨#[],by rw [upd_ne (zab e hn),e];simp⟩) (fun m hm=>?_) (fun b u e=>?_) I.bare
 ·obtain ⟨o, es, ep, ho, r⟩ := hm;exact ⟨o,es,ep,k _ o (fun z=>(hch _ z).2.1 rfl) ho,r⟩
 ·by_cases hb : b = T
  ·subst hb;rw [upd_same] at e;obtain rfl:=sI e;exact new
  ·rw [upd_ne hb] at e;refine (I.hok b u e).stay (fun c v hc q=>k c v ?_ q) (fun c q=>by rw [upd_ne (zab q hn)];exact q) fun c xs q=>by rw [upd_ne (zab q hn)];exact q
   rcases hc with z | z
   ·rw [z];exact nch b u e
   ·exact nch c _ z
theorem Inv.turnL {h' : Heap}{t' : Nat}{ch:List Addr} (I:Inv X pins σ H s) (k:∀b o,b ∉ ch->s.heap.get? b=some o->h'.get? b=some o) (hch:∀b∈ch,FpOk X pins H b):Inv X pins σ H { s with heap:=h',toks:=t' }:=by
 have nch:∀b u,H b=some u->b ∉ ch:=fun b u e hb=>by rw [(hch b hb).1] at e;cases e
 refine I.step (g':=s.gens) (d':=s.drawn) (ch:=ch) (fun b hb=>⟨(hch b hb).2.2.2.1,(hch b hb).2.1,(hch b hb).2.2.2.2.1,(hch b hb).2.2.2.2.2⟩) (fun b o _ _ hc e _=>k b o hc e) (fun b o _ _ hc e _=>⟨o.slots,k b o hc e⟩) (fun b u _ e n=>n)
  (fun b u hc e=>⟨u,k b u hc e⟩) (fun b xs e=>e) (fun b u xs e=>e) (fun b ps e=>⟨#[],by rw [e];simp⟩) (fun m hm=>?_) (fun b u e=>?_) I.bare
 ·obtain ⟨o, es, ep, ho, r⟩ := hm;exact ⟨o,es,ep,k _ o (fun z=>(hch _ z).2.1 rfl) ho,r⟩
 ·refine (I.hok b u e).stay (fun c v hc q => k c v ?_ q) (fun c q => q) fun c xs q => q;rcases hc with z | z
  ·rw [z];exact nch b u e
  ·exact nch c _ z
end
noncomputable def Ite (K:PySem.W.Frag) (a:Addr):It :=
 ⟨fun i H=>∃xs x,SqL K H a xs/\xs[i]?=some x,fun i H x H'=>∃p v,x=.ref p/\H p=none/\H'=upd H p (.tup [.int i,v])/\∀xs,SqL K H a xs->xs[i]?=some v,fun i H=>∃xs,SqL K H a xs/\xs.length<=i⟩
theorem zsq {P:Program}{w:World}{K:PySem.W.Frag}{es:List Expr}{x1}{px:Pos} (a e it:Addr) (hei:e≠it):Turn P w K (.Tuple es x1 px) (Ite K a) [e,it] e (fun i h=>(∃old,IsEnum h e it i old)/\h.IsListIter it a i) where
 mem:=by simp
 obj:=fun i h st b hb=>by
  refine aG fun _ qG=>?_;obtain ⟨⟨old,he⟩,o,hi,c,d⟩:=st;refine qG ?_;clear qG;rcases List.mem_cons.mp hb with rfl | hb
  ·exact ⟨_,he,fun v z=>by cases z⟩
  ·have : b = it := by simpa using hb
   subst this;exact ⟨o,hi,fun v z=>by rw [d] at z;cases z⟩
 keep:=fun i h h' st k=>⟨let ⟨old,he⟩:=st.1;⟨old,k e (by simp) _ he⟩,st.2.at fun o z=>k it (by simp) o z⟩
 item:=by
  intro X hP hw hK hc i pins s σ H E I hf st hg;subst hP hw hK;refine aG fun _ qG=>?_;obtain ⟨xs,x,hq,hx⟩:=hg;obtain ⟨its,rv,p,hz⟩:=I.list hq;obtain ⟨u,hu,ru⟩:=rv.get hx;obtain ⟨⟨old,he⟩,hit⟩:=st;refine qG ?_;clear qG;refine wpAny_pyNext_enum_item he hit p.isList (x:=u) (by simpa using hu) hei fun h' ho hit' hT hsz hk=>⟨_,rfl,?_⟩;refine wpAny_letOwnedTupleGo_enum ho fun h'' he'' hs''=>?_;have kk:∀b o,b ∉ [e,it]->s.heap.get? b=some o->h''.get? b=some o:=fun b o hb q=>by
   have h1:b≠e:=fun z=>hb (by simp [z]);have h2:b≠it:=fun z=>hb (by simp [z]);exact (hs''.2 b h1).trans (hk b o h1 h2 q)
  have hTe:s.heap.objs.size≠e:=fun z=>absurd (Heap.lt_size he) (by rw [z];exact Nat.lt_irrefl _);have hit'' : h''.IsListIter it a (i+1):=hit'.at fun o y=>(hs''.2 it hei.symm).trans y;refine ⟨.ref s.heap.objs.size,upd H s.heap.objs.size (.tup [.int i,x]),I.turnLay kk (fun b hb=>?_) hf (Nat.le_refl _) ⟨by show 2<=sizeLine;decide,[.int i s.toks,u],.cons ⟨_,rfl⟩ (.cons ru .nil),?_⟩,rfl,⟨_,x,rfl,I.hok.fresh (Nat.le_refl _),rfl,fun ys hy=>by rw [I.list_inj hy hq];exact hx⟩,⟨⟨_,by simpa using he''⟩,hit''⟩,fun b hb=>?_⟩
  ·rcases List.mem_cons.mp hb with rfl | hb
   ·exact ⟨_,he''⟩
   ·have : b = it := by simpa using hb
    subst this;obtain ⟨o,z,_⟩:=hit'';exact ⟨o,z⟩
  ·exact ⟨_,(hs''.2 _ hTe).trans hT,⟨rfl,_,rfl⟩,rfl⟩
  ·have:b≠s.heap.objs.size:=by
    rcases List.mem_cons.mp hb with rfl | hb
    ·exact hTe.symm
    ·have e2 : b = it := by simpa using hb
     subst e2;obtain ⟨o,z,_⟩:=hit;exact Nat.ne_of_lt (Heap.lt_size z)
   rw [upd_ne this];exact (hf b hb).1
 done:=by
  intro X hP hw hK hc i pins s σ H E I hf st hg;subst hP hw hK;refine aG fun _ qG=>?_;obtain ⟨xs,hq,hx⟩:=hg;obtain ⟨its,rv,p,hz⟩:=I.list hq;obtain ⟨⟨old,he⟩,hit⟩:=st;obtain ⟨f0,f1,f2,f3,f4,f5⟩:=hf it (by simp);refine qG ?_;clear qG;have hl:=rv.length;exact wpAny_pyNext_enum_end (I.ok.hd hc) he hit p.isList (Array.getElem?_eq_none (by simp;omega)) fun h' eb=>⟨rfl,I.turned (t':=s.toks) (fun b o hb e=>eb b o hb e) f0 f1 f3 f4 f5⟩
 self:=fun _ _ _ _ _ st h=>let ⟨_,he⟩:=st.1;wpAny_pyIter_enum he h
section
variable {X:Cx}
end
noncomputable def Itv (K:PySem.W.Frag) (a:Addr) (n:Nat):It :=
 ⟨fun i H=>i < n/\∃xs,SqL K H a xs/\xs.length=n,fun i H x H'=>H'=H/\∀xs,SqL K H a xs->xs[n - 1 - i]?=some x,fun i H=>i=n⟩
theorem ztf {P:Program}{w:World}{K:PySem.W.Frag}{tg:Expr} (a it:Addr) (n:Nat):Turn P w K tg (Itv K a n) [it] it (fun i h=>h.IsRevIter it a ((n:Int) - 1 - (i:Int))) where
 mem:=by simp
 obj:=fun i h st b hb=>by
  have e:b=it:=by simpa using hb
  subst e;refine aG fun _ qG=>?_;obtain ⟨o,e,c,d⟩:=st;refine qG ?_;clear qG;exact ⟨o,e,fun v z=>by rw [d] at z;cases z⟩
 keep:=fun i h h' st k=>st.at fun o e=>k it (by simp) o e
 item:=by
  intro X hP hw hK hc i pins s σ H E I hf st hg;subst hP hw hK;refine aG fun _ qG=>?_;obtain ⟨hi,xs,hq,hn⟩:=hg;refine qG ?_;clear qG;have hlt:n - 1 - i < xs.length:=by omega
  refine aG fun _ qG=>?_;obtain ⟨its,rv,p,hz⟩:=I.list hq;obtain ⟨u,hu,ru⟩:=rv.get (List.getElem?_eq_getElem hlt);obtain ⟨f0,f1,f2,f3,f4,f5⟩:=hf it (by simp);refine qG ?_;clear qG;have e:(n:Int) - 1 - (i:Int)=((n - 1 - i:Nat):Int):=by omega
  have st':=st;rw [e] at st';refine wpAny_pyNext_rev_item st' p.isList (x:=u) (by simpa using hu) fun h' st' sb=>?_;have I1:Inv X pins σ H { s with heap:=h' }:=I.turned (t':=s.toks) (fun b o hb e=>(sb.2 b hb).trans e) f0 f1 f3 f4 f5;refine aG fun _ qG=>?_;obtain ⟨o,e2,c,d⟩:=id st';refine qG ?_;clear qG;have e3:((n - 1 - i:Nat):Int) - 1=(n:Int) - 1 - ((i+1:Nat):Int):=by omega
  rw [e3] at st';exact ⟨u,rfl,zon (s:={ s with heap:=h' }) e2 c d (by decide) ⟨_,H,I1,ru,⟨rfl,fun ys hy=>by rw [I.list_inj hy hq];exact List.getElem?_eq_getElem hlt⟩,st',fun b hb=>(hf b hb).1⟩⟩
 done:=by
  intro X hP hw hK hc i pins s σ H E I hf st hg;subst hP hw hK;have hg' : i=n:=hg;subst hg';refine aG fun _ qG=>?_;obtain ⟨f0,f1,f2,f3,f4,f5⟩:=hf it (by simp);refine qG ?_;clear qG;have e:(i:Int) - 1 - (i:Int)=-1:=by omega
  rw [e] at st;exact wpAny_pyNext_rev_end (I.ok.hd hc) st fun h' eb=>⟨rfl,I.turned (t':=s.toks) (fun b o hb e=>eb b o hb e) f0 f1 f3 f4 f5⟩
 self:=fun _ _ _ _ _ st h=>wpAny_pyIter_revIter st h
section
variable {X:Cx}{tg:Expr}
noncomputable def iRev (K:PySem.W.Frag) (ta:TA):TI:=fun σ H R=>ta σ H fun vs H1=>∃a xs,vs=[.ref a]/\SqL K H1 a xs/\R (Itv K a xs.length) H1
theorem z1s {l:Expr}{tl:TA}{p pos:Pos} (hg:Gl X "reversed") (hm:X.mg "reversed" = none) (hl:PA X [l] tl) (hs:starEach [l] X.env=[(false,eval l X.env)]:=by rfl) :
    PI X tg (.Call (.Name "reversed" p) [l] [] pos) (iRev X.K tl):=by
  intro pins s σ H R I h;refine Call_ (zc4 I hg hm boot_reversed (PyProof.Rows.callWith_type1 (thn (hl pos pins s σ H _ I h) fun us s1 ⟨vs,H1,I1,r1,q1⟩=>?_) hs rfl));refine aG fun _ qG=>?_;obtain ⟨a,xs,e,hq,q⟩:=q1;refine qG ?_;clear qG;subst e;cases r1 with
  | cons r rr =>
    cases rr;cases r;refine aG fun _ qG=>?_;obtain ⟨its,rv,p',hz⟩:=I1.list hq;refine qG ?_;clear qG;refine call_reversed_list p'.isList ?_;have hit:(s1.heap.push (revObj a ((its.toArray.size:Int) - 1))).IsRevIter s1.heap.objs.size a ((its.toArray.size:Int) - 1):=⟨_,Heap.get?_push_size _ rfl,rfl,rfl⟩;refine wpAny_pyIter_revIter hit ?_;refine ⟨s1.heap.objs.size,[s1.heap.objs.size],_,_,H1,rfl,I1.kept (t':=s1.toks) fun b o e=>Heap.get?_push_of_some _ e,ztf a _ xs.length,?_,fun b hb=>?_,q⟩
    · have e : ((its.toArray.size : Int) - 1) = (xs.length : Int) - 1 - ((0 : Nat) : Int) := by have := rv.length; simp; omega
      rw [e] at hit;have ge:((its.toArray.size:Int) - 1)=(xs.length:Int) - 1 - ((0:Nat):Int):=e;dsimp only;rw [<-ge];exact ⟨_,Heap.get?_push_size _ rfl,rfl,rfl⟩
    · have e : b = s1.heap.objs.size := by simpa using hb
      subst e;exact I1.fpOk (Nat.le_refl _) (I1.hok.fresh (Nat.le_refl _))
end
end L2
namespace L2
open PySem PySem.Spec PyProof.Rows
section
variable {κ:Type} [DecidableEq κ]
end
section
variable {P:Program}{w:World}{H:Hp}{h:Heap}{a:Addr}
end
section
variable {X:Cx}{pins:List (Addr × Obj)}{σ:St}{H:Hp}{s:Shared}{a:Addr}{y v:V}{u r:Value}{o:Option V}{A:Around}{E:Value->Shared->Prop}
end
section
variable {X:Cx}{pins:List (Addr × Obj)}{σ:St}{H:Hp}{s:Shared}{a:Addr}{kvs:List (Key × V)}{k:Key}{u:Value}{A:Around}{E:Value->Shared->Prop}
end
section
variable {X:Cx}{o i e value:Expr}{pos pos' tpos:Pos}{td ty tv:TE}
end
section
variable {X:Cx}{pos:Pos}
end
section
variable {X:Cx}{pins:List (Addr × Obj)}{σ:St}{H:Hp}{s:Shared}{a:Addr}{y d:V}{u r:Value}{o:Option V}{A:Around}{E:Value->Shared->Prop}
end
section
variable {X:Cx}{o e f:Expr}{apos cpos:Pos}{td ty tx:TE}
end
section
variable {X:Cx}{pins:List (Addr × Obj)}{σ:St}{H:Hp}{s:Shared}{a:Addr}{kvs:List (Key × V)}{A:Around}{E:Value->Shared->Prop}
end
section
variable {X:Cx}{pins:List (Addr × Obj)}{σ:St}{H:Hp}{s:Shared}{a:Addr}{y:V}{u:Value}{A:Around}{E:Value->Shared->Prop}
end
end L2
namespace L2
open PySem PySem.Spec PyProof.Rows
section
variable {X:Cx}
theorem z3y {bs:List Bool}{its:List Value}{i:Nat}{v:Value} (r:Vals (bs.map V.bl) its) (h:its[i]?=some v):∃b,bs[i]?=some b/\v=.bool b:=by
 have hl:=r.length;rw [List.length_map] at hl;have hi:i < bs.length:=by rw [hl];exact (List.getElem?_eq_some_iff.mp h).1
 obtain ⟨u,hu,ru⟩:=r.get (i:=i) (x:=.bl bs[i]) (by rw [List.getElem?_map,List.getElem?_eq_getElem hi];rfl);rw [h] at hu;obtain rfl:=sI hu;exact ⟨bs[i],List.getElem?_eq_getElem hi,ru⟩
theorem zhb {bs:List Bool}{i:Nat} (hi:i < bs.length):bs.getD i false=bs[i]:=by rw [List.getD_eq_getElem?_getD,List.getElem?_eq_getElem hi];rfl
theorem zos (bs:List Bool):((List.range bs.length).any fun i=>bs.getD i false)=bs.any id:=by
 rw [Bool.eq_iff_iff,List.any_eq_true,List.any_eq_true];constructor
 ·rintro ⟨i, hi, h⟩;rw [List.mem_range] at hi;refine ⟨bs[i],List.getElem_mem hi,?_⟩;rw [zhb hi] at h;exact h
 ·rintro ⟨b, hb, h⟩;obtain ⟨i,hi,e⟩:=List.mem_iff_getElem.mp hb;refine ⟨i,List.mem_range.mpr hi,?_⟩;rw [zhb hi,e];exact h
theorem zss (bs:List Bool):((List.range bs.length).all fun i=>bs.getD i false)=bs.all id:=by
 rw [Bool.eq_iff_iff,List.all_eq_true,List.all_eq_true];constructor
 ·intro h b hb;obtain ⟨i,hi,e⟩:=List.mem_iff_getElem.mp hb;have:=h i (List.mem_range.mpr hi);rw [zhb hi,e] at this;exact this
 ·intro h i hi;rw [List.mem_range] at hi;rw [zhb hi];exact h _ (List.getElem_mem hi)
theorem zl5 {P:Program}{w:World}{A:Around}{bs:List Bool}{its:List Value} (r:Vals (bs.map V.bl) its):TruthOf P w A (fun i v=>its.toArray[i]?=some v) (fun i=>bs.getD i false):=fun i v s Q E hP hQ=>by
 obtain ⟨b,hb,e⟩:=z3y r (by simpa using hP);subst e;have:bs.getD i false=b:=by rw [List.getD_eq_getElem?_getD,hb];rfl
 have hQ' : Q (bs.getD i false) s:=hQ;rw [this] at hQ';exact wpAny_truthy_bool hQ'
theorem zvy (hc:X.calm=true):zbu X (.builtin "any") (fun xs H Q=>∃(a:Addr) (bs:List Bool),xs=[.ref a]/\SqL X.K H a (bs.map V.bl)/\Q (.bl (bs.any id)) H):=by
 intro pins s σ H xs us Q I r h;obtain ⟨a,bs,rfl,hq,q⟩:=h;obtain ⟨u,rfl,rx⟩:=vals1 r;cases rx;obtain ⟨its,rv,p,hz⟩:=I.list hq;have hl:=rv.length;rw [List.length_map] at hl;have ha:a < s.heap.objs.size:=by obtain ⟨o,e,_⟩:=p.isList;exact Heap.lt_size e
 refine call_any_walk (wpAny_pyIter_list p.isList ?_);refine ⟨s.heap.objs.size,_,[s.heap.objs.size],its.toArray.size,_,_,_,rfl,Walks.list (A:=X.A.in1) (show X.A.in1.handled=none from I.ok.hd hc) _ a (Nat.ne_of_lt ha) its.toArray,⟨⟨_,Heap.get?_push_size _ rfl,rfl,rfl⟩,p.isList.push _⟩,zl5 rv,fun h' tk hk=>?_⟩;have e:its.toArray.size=bs.length:=by simp;omega
 rw [e,zos];refine ⟨.bl _,H,I.kept fun b o hb=>?_,rfl,q⟩;exact hk b o (by intro z;rw [List.mem_singleton] at z;subst z;exact absurd (Heap.lt_size hb) (Nat.lt_irrefl _)) (Heap.get?_push_of_some _ hb)
theorem zsz (hc:X.calm=true):zbu X (.builtin "all") (fun xs H Q=>∃(a:Addr) (bs:List Bool),xs=[.ref a]/\SqL X.K H a (bs.map V.bl)/\Q (.bl (bs.all id)) H):=by
 intro pins s σ H xs us Q I r h;obtain ⟨a,bs,rfl,hq,q⟩:=h;obtain ⟨u,rfl,rx⟩:=vals1 r;cases rx;obtain ⟨its,rv,p,hz⟩:=I.list hq;have hl:=rv.length;rw [List.length_map] at hl;have ha:a < s.heap.objs.size:=by obtain ⟨o,e,_⟩:=p.isList;exact Heap.lt_size e
 refine call_all_walk (wpAny_pyIter_list p.isList ?_);refine ⟨s.heap.objs.size,_,[s.heap.objs.size],its.toArray.size,_,_,_,rfl,Walks.list (A:=X.A.in1) (show X.A.in1.handled=none from I.ok.hd hc) _ a (Nat.ne_of_lt ha) its.toArray,⟨⟨_,Heap.get?_push_size _ rfl,rfl,rfl⟩,p.isList.push _⟩,zl5 rv,fun h' tk hk=>?_⟩;have e:its.toArray.size=bs.length:=by simp;omega
 rw [e,zss];refine ⟨.bl _,H,I.kept fun b o hb=>?_,rfl,q⟩;exact hk b o (by intro z;rw [List.mem_singleton] at z;subst z;exact absurd (Heap.lt_size hb) (Nat.lt_irrefl _)) (Heap.get?_push_of_some _ hb)
theorem zs5:zbu X (.builtin "isinstance") (fun xs H Q=>∃x t c b,xs=[x,.ty c]/\TyOf X.K H x t/\PySem.W.kitOne X.K t (.type c)=some b/\Q (.bl b) H):=by
  intro pins s σ H xs us Q I r h;refine aG fun _ qG=>?_;obtain ⟨x,t,c,b,rfl,ty,e,q⟩:=h;refine qG ?_;clear qG;cases r with
  | cons rx rr =>
    obtain ⟨u,rfl,rc⟩:=vals1 rr;cases (show u=Value.type c from rc);exact zqx I rx ty e fun tk=>⟨.bl b,H,I.tok _,rfl,q⟩
end
end L2
namespace L2
open PySem PySem.Spec PyProof.Rows
noncomputable def z0m (i j:Int):Prop:=Builtin.Int.intBits i<=2 ^ 20/\Builtin.Int.intBits j<=2 ^ 20
theorem zzs {X:Cx}:OpR X (binaryOp .Mult) (rI z0m fun i j=>.int (i * j)):=opI fun _ _ _ _ _ _ _ hc q=>mul_int q (IntMulOk.of_bits hc.1 hc.2)
structure Cal (P:Program) (w:World) (K:PySem.W.Frag) (mg:Str->Option Value) (base:Heap) (n:Nat) (x:Str) (ps:List Str) (sp:Sp):Prop where
 ex:∃f fd,FnOk P w K mg base CX0 n f fd ps sp/\zlu K fd ps []/\PySem.W.keepIn K (.ref f)=true/\mg x=some (.ref f)
theorem z0v {X:Cx}{n k:Nat}{x:Str}{ps:List Str}{sp:Sp}{e:Expr}{es:List Expr}{t:TA}{p pos:Pos} (C:Cal X.prog X.w X.K X.mg X.base n x ps sp) (hr:Room k X.A) (hg:Gl X x) (ha:PA X (e::es) t) (hk:n<=k:=by decide)
  (hdb:(x == ("__debug__" : Str))=false:=by decide) (hs:starEach (e::es) X.env=(false,eval e X.env)::starEach es X.env:=by rfl) (hpl:(backTo pos (starEach es X.env)).any (·.1)=false:=by rfl) :
  PE X (.Call (.Name x p) (e::es) [] pos) (z0h sp [] E0 t):=by
 refine aG fun _ qG=>?_;obtain ⟨f,fd,F,b,kp,m⟩:=C.ex;refine qG ?_;clear qG;exact z0l F (hr.mono hk) hg m kp b .nil z40 ha hdb hs hpl
theorem Same.new {p:Addr}{H:Hp} (h:H p=none) (o:HO):Same H (L2.upd H p o):=fun b u e=>by rw [upd_ne (zab e h)];exact e
theorem SqL.of' {K:PySem.W.Frag}{H:Hp}{a:Addr}{xs:List V} (h:H a=some (.lst xs)):SqL K H a xs:=.inl (.inl h)
noncomputable def MM:Int:=2305843009213693951
noncomputable def big:Nat:=1099511627776
noncomputable def Bits (xs:List Int):Prop:=∀x∈xs,x=0\/x=1
theorem zv6:bootBuiltins "len" = some (.builtin "len"):=by decide +kernel
theorem z1k:bootBuiltins "abs" = some (.builtin "abs"):=by decide +kernel
theorem z3g:bootBuiltins "any" = some (.builtin "any"):=by decide +kernel
theorem z29:bootBuiltins "all" = some (.builtin "all"):=by decide +kernel
theorem zhp:bootBuiltins "isinstance" = some (.builtin "isinstance"):=by decide +kernel
theorem zwr:bootBuiltins "int" = some (.type "int"):=by decide +kernel
theorem zxk:bootBuiltins "bool" = some (.type "bool"):=by decide +kernel
theorem z3z:bootBuiltins "str" = some (.type "str"):=by decide +kernel
theorem zmo:bootBuiltins "tuple" = some (.type "tuple"):=by decide +kernel
theorem zxp:bootBuiltins "list" = some (.type "list"):=by decide +kernel
end L2
namespace L2
open PySem PySem.Spec PyProof.Rows
theorem zt3 {w:Int}{i:Nat} (h0:0 < w) (h:w<=2 ^ (200 * i)):0 < w * 10 ^ 60/\w * 10 ^ 60<=2 ^ (200 * (i+1)):=by
 have e:(2:Int) ^ (200 * (i+1))=2 ^ (200 * i) * 2 ^ 200:=by rw [Nat.mul_add,Int.pow_add]
 rw [e];refine ⟨Int.mul_pos h0 (by decide),?_⟩;have h1:w * 10 ^ 60<=2 ^ (200 * i) * 10 ^ 60:=Int.mul_le_mul_of_nonneg_right h (by decide);have h2:(2:Int) ^ (200 * i) * 10 ^ 60<=2 ^ (200 * i) * 2 ^ 200:=Int.mul_le_mul_of_nonneg_left (by decide) (by omega);omega
theorem zge {w:Int}{i:Nat} (h0:0<=w) (h:w<=2 ^ (200 * i)) (hi:i<=63):Builtin.Int.intBits w<=2 ^ 20:=by
 have h1:(2:Int) ^ (200 * i) < 2 ^ (200 * i+1):=by rw [Int.pow_succ];have:(0:Int) < 2 ^ (200 * i):=Int.pow_pos (by decide);omega
 have h2:w.natAbs < 2 ^ (200 * i+1):=by
  have:((w.natAbs:Nat):Int) < ((2 ^ (200 * i+1):Nat):Int):=by
   rw [Int.natCast_pow];have e:((w.natAbs:Nat):Int)=w:=by omega
   rw [e];exact Int.lt_of_le_of_lt h h1
  exact Int.ofNat_lt.mp this
 have:=PyProof.Rows.intBits_le h2;omega
end L2
namespace L2
open PySem PySem.Spec PyProof.Rows
noncomputable def zaf:Expr->Bool
 | .Starred ..=>false
 | _=>true
theorem zad {e:Expr}{es:List Expr}{env:Env} (h:zaf e=true):starEach (e::es) env=(false,eval e env)::starEach es env:=by
 cases e<;>first | rfl | (cases h)
theorem pac {X:Cx}{e:Expr}{es:List Expr}{te:TE}{t:TA} (ha:PE X e te) (hr:PA X es t) (h:zaf e=true:=by rfl):PA X (e::es) (zcp te t):=zry ha hr (zad h)
end L2
namespace L2
theorem noSome {α:Type}{a:α}{P:Prop} (h:none=some a):P:=by cases h
open PySem PySem.Spec PyProof.Rows
noncomputable abbrev DKey:=Key ⊕ List Key
inductive W where
 | non | bl (b:Bool) | int (i:Int) | str (x:Str) | tup (xs:List W) | lst (xs:List W) | frl (xs:List W) | dic | dct (ks:List DKey) (vs:List W) | dcz (ks:List DKey) (vs:List W)
 deriving BEq,Inhabited
mutual
inductive Rep (K:PySem.W.Frag) (F:Hp):W->V->Prop where
 | non:Rep K F .non .non
 | bl (b:Bool):Rep K F (.bl b) (.bl b)
 | int (i:Int):Rep K F (.int i) (.int i)
 | str (x:Str):Rep K F (.str x) (.str x)
 | tup {ws:List W}{a:Addr}{vs:List V} (h:F a=some (.tup vs)) (r:Reps K F ws vs):Rep K F (.tup ws) (.ref a)
 | lst {ws:List W}{a:Addr}{vs:List V} (h:F a=some (.lst vs)) (r:Reps K F ws vs):Rep K F (.lst ws) (.ref a)
 | frl {ws:List W}{a:Addr}{vs:List V} (h:SqL K F a vs) (r:Reps K F ws vs):Rep K F (.frl ws) (.ref a)
 | dic {a:Addr}{kvs:List (Key × V)} (h:F a=some (.dK kvs)):Rep K F .dic (.ref a)
 | dct {a:Addr}{ks:List Key}{ws:List W}{vs:List V} (h:F a=some (.dK (ks.zip vs))) (hl:ks.length=vs.length) (r:Reps K F ws vs):Rep K F (.dct (ks.map .inl) ws) (.ref a)
 | dctT {a:Addr}{ks:List (List Key)}{ws:List W}{vs:List V} (h:F a=some (.dT (ks.zip vs))) (hl:ks.length=vs.length) (r:Reps K F ws vs):Rep K F (.dct (ks.map .inr) ws) (.ref a)
 | dcz {a:Addr}{o:Obj}{ks:List Key}{ws:List W}{vs:List V} (h:F a=some (.frz o (.dK (ks.zip vs)))) (hl:ks.length=vs.length) (r:Reps K F ws vs):Rep K F (.dcz (ks.map .inl) ws) (.ref a)
 | dczT {a:Addr}{o:Obj}{ks:List (List Key)}{ws:List W}{vs:List V} (h:F a=some (.frz o (.dT (ks.zip vs)))) (hl:ks.length=vs.length) (r:Reps K F ws vs):Rep K F (.dcz (ks.map .inr) ws) (.ref a)
inductive Reps (K:PySem.W.Frag) (F:Hp):List W->List V->Prop where
 | nil:Reps K F [] []
 | cons {w:W}{v:V}{ws:List W}{vs:List V} (h:Rep K F w v) (r:Reps K F ws vs):Reps K F (w::ws) (v::vs)
end
theorem zdd {α:Type}{l:List α}{i j:Nat}{x y:α} (hi:i < l.length) (h:(l.set i x)[j]?=some y):(j=i/\y=x)\/(j≠i/\l[j]?=some y):=by
 by_cases e:j=i
 ·subst e;rw [List.getElem?_set_self hi] at h;exact .inl ⟨rfl,(sI h).symm⟩
 ·rw [List.getElem?_set_ne (Ne.symm e)] at h;exact .inr ⟨e,h⟩
theorem zvv {α:Type}{l:List α}{i:Nat}{x:α} (h:l[i]?=some x):l.set i x=l:=by
 apply List.ext_getElem?;intro j;by_cases e:j=i
 ·subst e;rw [List.getElem?_set_self (List.getElem?_eq_some_iff.mp h).1,h]
 ·rw [List.getElem?_set_ne (Ne.symm e)]
section
variable {K:PySem.W.Frag}{F F' H H' : Hp}
mutual
theorem Rep.mono (s:Same F F'):∀{w:W}{v:V},Rep K F w v->Rep K F' w v
 | _,_,.non=>.non
 | _,_,.bl b=>.bl b
 | _,_,.int i=>.int i
 | _,_,.str x=>.str x
 | _,_,.tup h r=>.tup (s _ _ h) (Reps.mono s r)
 | _,_,.lst h r=>.lst (s _ _ h) (Reps.mono s r)
 | _,_,.frl h r=>.frl (s.seq h) (Reps.mono s r)
 | _,_,.dic h=>.dic (s _ _ h)
 | _,_,.dct h hl r=>.dct (s _ _ h) hl (Reps.mono s r)
 | _,_,.dctT h hl r=>.dctT (s _ _ h) hl (Reps.mono s r)
 | _,_,.dcz h hl r=>.dcz (s _ _ h) hl (Reps.mono s r)
 | _,_,.dczT h hl r=>.dczT (s _ _ h) hl (Reps.mono s r)
theorem Reps.mono (s:Same F F'):∀{ws:List W}{vs:List V},Reps K F ws vs->Reps K F' ws vs
 | _,_,.nil=>.nil
 | _,_,.cons h r=>.cons (Rep.mono s h) (Reps.mono s r)
end
theorem Reps.length:∀{ws:List W}{vs:List V},Reps K F ws vs->ws.length=vs.length
 | _,_,.nil=>rfl
 | _,_,.cons _ r=>congrArg (· + 1) (Reps.length r)
theorem Reps.get:∀{ws:List W}{vs:List V}{i:Nat}{w:W},Reps K F ws vs->ws[i]?=some w->∃v,vs[i]?=some v/\Rep K F w v
  | _,_,_,_,.nil,e=>by simp at e
  | _,_,0,_,.cons h _,e=>by simp at e;subst e;exact ⟨_,rfl,h⟩
  | _,_,i+1,w,.cons _ r,e=>by
    obtain ⟨v,h1,h2⟩:=Reps.get (i:=i) (w:=w) r (by simpa using e);exact ⟨v,by simpa using h1,h2⟩
theorem Reps.getV:∀{ws:List W}{vs:List V}{i:Nat}{v:V},Reps K F ws vs->vs[i]?=some v->∃w,ws[i]?=some w/\Rep K F w v
  | _,_,_,_,.nil,e=>by simp at e
  | _,_,0,_,.cons h _,e=>by simp at e;subst e;exact ⟨_,rfl,h⟩
  | _,_,i+1,v,.cons _ r,e=>by
    obtain ⟨w,h1,h2⟩:=Reps.getV (i:=i) (v:=v) r (by simpa using e);exact ⟨w,by simpa using h1,h2⟩
theorem Reps.append:∀{xs ys:List W}{us ws:List V},Reps K F xs us->Reps K F ys ws->Reps K F (xs++ys) (us++ws)
 | _,_,_,_,.nil,s=>s
 | _,_,_,_,.cons h r,s=>.cons h (Reps.append r s)
theorem Reps.take:∀{xs:List W}{us:List V} (n:Nat),Reps K F xs us->Reps K F (xs.take n) (us.take n)
 | _,_,0,_=>.nil
 | _,_,_+1,.nil=>.nil
 | _,_,n+1,.cons h r=>.cons h (Reps.take n r)
theorem Reps.drop:∀{xs:List W}{us:List V} (n:Nat),Reps K F xs us->Reps K F (xs.drop n) (us.drop n)
 | _,_,0,r=>r
 | _,_,_+1,.nil=>.nil
 | _,_,n+1,.cons _ r=>Reps.drop n r
theorem Reps.set {w:W}{v:V} (h:Rep K F w v):∀{xs:List W}{us:List V} (i:Nat),Reps K F xs us->Reps K F (xs.set i w) (us.set i v)
 | _,_,_,.nil=>.nil
 | _,_,0,.cons _ r=>.cons h r
 | _,_,i+1,.cons q r=>.cons q (Reps.set h i r)
theorem Reps.reverse:∀{xs:List W}{us:List V},Reps K F xs us->Reps K F xs.reverse us.reverse
 | _,_,.nil=>.nil
 | _,_,.cons h r=>by rw [List.reverse_cons,List.reverse_cons];exact (Reps.reverse r).append (.cons h .nil)
theorem Reps.rep {xs:List W}{us:List V} (r:Reps K F xs us):∀k:Nat,Reps K F (List.replicate k xs).flatten (List.replicate k us).flatten
 | 0=>.nil
 | k+1=>by rw [List.replicate_succ,List.replicate_succ,List.flatten_cons,List.flatten_cons];exact r.append (r.rep k)
noncomputable def isIt:W->V->Prop
 | .int i,v=>v=.int i
 | .bl b,v=>v=.bl b
 | _,_=>True
theorem Rep.isIt {w:W}{v:V} (h:Rep K F w v):isIt w v:=by cases h<;>first | rfl | trivial
theorem Reps.uncons {w:W}{ws:List W}{vs:List V} (h:Reps K F (w::ws) vs):∃v us,vs=v::us/\Rep K F w v/\Reps K F ws us:=by
 cases h with
 | cons h r=>exact ⟨_,_,rfl,h,r⟩
theorem Reps.ints:∀{ns:List Int}{vs:List V},Reps K F (ns.map W.int) vs->vs=ns.map V.int:=by
  intro ns
  induction ns with
  | nil=>intro vs h;cases h;rfl
  | cons n ns ih =>
    intro vs h;obtain ⟨v,us,e,h1,h2⟩:=Reps.uncons h;rw [e,ih h2,show v=.int n from h1.isIt];rfl
theorem Reps.ofInts:∀(ns:List Int),Reps K F (ns.map W.int) (ns.map V.int)
 | []=>.nil
 | n::ns=>.cons (.int n) (Reps.ofInts ns)
theorem Reps.bls:∀{bs:List Bool}{vs:List V},Reps K F (bs.map W.bl) vs->vs=bs.map V.bl:=by
  intro ns
  induction ns with
  | nil=>intro vs h;cases h;rfl
  | cons n ns ih =>
    intro vs h;obtain ⟨v,us,e,h1,h2⟩:=Reps.uncons h;rw [e,ih h2,show v=.bl n from h1.isIt];rfl
noncomputable abbrev En:=List (Option (W × Bool))
noncomputable abbrev Prt:=Addr->HO->Prop
inductive OwnR (K:PySem.W.Frag) (F:Hp):W->HO->Prop where
 | lst {ws:List W}{vs:List V} (r:Reps K F ws vs):OwnR K F (.lst ws) (.lst vs)
 | dct {ks:List Key}{ws:List W}{vs:List V} (hl:ks.length=vs.length) (r:Reps K F ws vs):OwnR K F (.dct (ks.map .inl) ws) (.dK (ks.zip vs))
 | dctT {ks:List (List Key)}{ws:List W}{vs:List V} (hl:ks.length=vs.length) (r:Reps K F ws vs):OwnR K F (.dct (ks.map .inr) ws) (.dT (ks.zip vs))
theorem OwnR.mono {w:W}{o:HO} (s:Same F F') (h:OwnR K F w o):OwnR K F' w o:=by
 cases h with
 | lst r=>exact .lst (r.mono s)
 | dct hl r=>exact .dct hl (r.mono s)
 | dctT hl r=>exact .dctT hl (r.mono s)
theorem OwnR.rep {w:W}{o:HO}{a:Addr} (h:OwnR K F w o) (e:F a=some o):Rep K F w (.ref a):=by
 cases h with
 | lst r=>exact .lst e r
 | dct hl r=>exact .dct e hl r
 | dctT hl r=>exact .dctT e hl r
theorem OwnR.list {ws:List W}{o:HO} (h:OwnR K F (.lst ws) o):∃vs,o=.lst vs/\Reps K F ws vs:=by
 cases h with
 | lst r=>exact ⟨_,rfl,r⟩
noncomputable def lams:List Str:=["_law_terms","_law_in_order","_law_poly_of","voted_terms","law"]
noncomputable def lamQ (x:Str):Str:=x++".<locals>."++"<lambda>"
noncomputable def zcl (c:Addr) (q:Str) (h:Heap):Prop:=∃oc vs t,h.get? c=some oc/\oc.data=.fields vs/\vs[1]?=some (.str q t)
noncomputable def zyx (K:PySem.W.Frag):Prop:=∀x∈lams,∀x'∈lams,∀c c' P,PySem.W.tabIn K x=some (c,P)->PySem.W.tabIn K x'=some (c',P)->x=x'
noncomputable def NoT (pr:Prt):Prop:=∀b xs,¬ pr b (.tup xs)
noncomputable def znv (K:PySem.W.Frag) (F:Hp) (pr:Prt) (H:Hp):Prop:=(zyx K/\NoT pr)/\∀x∈lams,∀c P,PySem.W.tabIn K x=some (c,P)->∃ps:Array Value,H P=some (.tbl ps)/\F P=none/\(∀o,¬ pr P o)/\TriplesOk ps.toList /\
 ∀pos cv,codeAmong pos ps.toList=some cv->∃c',cv=.ref c'/\F c'=some (.ext (zcl c' (lamQ x)))
theorem znv.go {F F' H H' : Hp}{pr pr' : Prt} (T:znv K F pr H) (h4:∀b xs,pr' b (.tup xs)->pr b (.tup xs)) (h1:∀b ps,H b=some (.tbl ps)->F b=none->H' b=some (.tbl ps)/\F' b=none) (h2:Same F F') (h3:∀b ps,H b=some (.tbl ps)->(∀o,¬ pr b o)->∀o,¬ pr' b o):znv K F' pr' H':=⟨⟨T.1.1,fun b xs z=>T.1.2 b xs (h4 b xs z)⟩,fun x hx c P e=>by
 refine aG fun _ qG=>?_;obtain ⟨ps,a1,a2,a3,a4,a5⟩:=T.2 x hx c P e;refine qG ?_;clear qG;refine ⟨ps,(h1 P ps a1 a2).1,(h1 P ps a1 a2).2,h3 P ps a1 a3,a4,fun pos cv q=>?_⟩;obtain ⟨c',b1,b2⟩:=a5 pos cv q;exact ⟨c',b1,h2 _ _ b2⟩⟩
structure Rel (K:PySem.W.Frag) (F:Hp) (pr:Prt) (en:En) (σ:St) (H:Hp):Prop where
 len:en.length=σ.length
 sub:Same F H
 val:∀(i:Nat) (w:W),en[i]?=some (some (w,false))->∃v,σ[i]?=some (some v)/\Rep K F w v
 own:∀(i:Nat) (w:W),en[i]?=some (some (w,true))->∃(a:Addr) (o:HO) (w' : W),w=w'/\σ[i]?=some (some (V.ref a))/\H a=some o/\F a=none/\OwnR K F w' o
 inj:∀(i j:Nat) (a:Addr) (w w' : W),en[i]?=some (some (w,true))->en[j]?=some (some (w',true))->σ[i]?=some (some (V.ref a))->σ[j]?=some (some (V.ref a))->i=j
 prt:∀b o,pr b o->H b=some o/\F b=none/\∀(i:Nat) (w:W),en[i]?=some (some (w,true))->σ[i]?≠some (some (V.ref b))
 tb:znv K F pr H
noncomputable def Res (K:PySem.W.Frag) (F H:Hp) (pr:Prt) (en:En) (σ:St):W × Bool->V->Prop
 | (w,false),v=>Rep K F w v
 | (w,true),v=>∃(a:Addr) (o:HO) (w' : W),w=w'/\v=V.ref a/\H a=some o/\F a=none/\OwnR K F w' o/\(∀(i:Nat) (w' : W),en[i]?=some (some (w',true))->σ[i]?≠some (some (V.ref a)))/\∀b o,pr b o->b≠a
noncomputable def RepB (K:PySem.W.Frag) (F H:Hp) (w:W) (v:V):Prop:=Rep K F w v\/∃(a:Addr) (o:HO) (w' : W),w=w'/\v=V.ref a/\H a=some o/\OwnR K F w' o
inductive Out (K:PySem.W.Frag) (F H:Hp):W × Bool->V->Hp->Prop where
 | val {w:W}{v:V} (r:Rep K F w v):Out K F H (w,false) v H
 | lst {p:Addr}{ws:List W}{vs:List V} (n:H p=none) (r:Reps K F ws vs):Out K F H (.lst ws,true) (.ref p) (upd H p (.lst vs))
 | tup {p:Addr}{ws:List W}{vs:List V} (n:H p=none) (r:Reps K F ws vs):Out K F H (.tup ws,false) (.ref p) (upd H p (.tup vs))
theorem Same.upd_both {F H:Hp} (s:Same F H) (p:Addr) (o:HO):Same (upd F p o) (upd H p o):=fun b u e=>by
 by_cases hb:b=p
 ·subst hb;rw [upd_same] at e ⊢;exact e
 ·rw [upd_ne hb] at e ⊢;exact s _ _ e
variable {pr:Prt}{en:En}{σ:St}
theorem Rel.lay (R:Rel K F pr en σ H) {p:Addr} (hp:H p=none) (o:HO):Rel K F pr en σ (upd H p o):=by
 have ne:∀a u,H a=some u->a≠p:=fun a u e=>zab e hp;refine ⟨R.len,R.sub.trans (Same.new hp o),R.val,fun i w e=>?_,R.inj,fun q o2 hq=>?_,R.tb.go (fun _ _ z=>z) (fun b ps e f=>⟨by rw [upd_ne (ne b _ e)];exact e,f⟩) (.refl F) fun b ps e h=>h⟩
 ·refine aG fun Gg qG => ?_;obtain ⟨a,vs,ws,h1,h2,h3,h4,h5⟩:=R.own i w e;refine qG ?_;clear qG;exact ⟨a,vs,ws,h1,h2,by rw [upd_ne (ne a _ h3)];exact h3,h4,h5⟩
 ·obtain ⟨h1, h2, h3⟩ := R.prt q o2 hq;exact ⟨by rw [upd_ne (ne _ _ h1)];exact h1,h2,h3⟩
theorem Rel.layF (R:Rel K F pr en σ H) {p:Addr} (hp:H p=none) (o:HO):Rel K (upd F p o) pr en σ (upd H p o):=by
 have ne:∀a u,H a=some u->a≠p:=fun a u e=>zab e hp;have fp:F p=none:=R.sub.free hp;have s:Same F (upd F p o):=Same.new fp o;refine ⟨R.len,R.sub.upd_both p o,fun i w e=>?_,fun i w e=>?_,R.inj,fun q o2 hq=>?_,R.tb.go (fun _ _ z=>z) (fun b ps e f=>⟨by rw [upd_ne (ne b _ e)];exact e,by rw [upd_ne (ne b _ e)];exact f⟩) s fun b ps e h=>h⟩
 ·obtain ⟨v, h1, h2⟩ := R.val i w e;exact ⟨v,h1,h2.mono s⟩
 ·refine aG fun Gg qG => ?_;obtain ⟨a,vs,ws,h1,h2,h3,h4,h5⟩:=R.own i w e;refine qG ?_;clear qG;exact ⟨a,vs,ws,h1,h2,by rw [upd_ne (ne a _ h3)];exact h3,by rw [upd_ne (ne a _ h3)];exact h4,h5.mono s⟩
 ·obtain ⟨h1, h2, h3⟩ := R.prt q o2 hq;exact ⟨by rw [upd_ne (ne _ _ h1)];exact h1,by rw [upd_ne (ne _ _ h1)];exact h2,h3⟩
theorem Out.close {r:W × Bool}{v:V} (R:Rel K F pr en σ H) (o:Out K F H r v H'):∃F',Same F F'/\Rel K F' pr en σ H'/\Res K F' H' pr en σ r v:=by
  cases o with
  | val r=>exact ⟨F,.refl F,R,r⟩
  | @lst p ws vs n r =>
    refine ⟨F,.refl F,R.lay n _,p,_,_,rfl,rfl,upd_same,R.sub.free n,.lst r,fun i w' e z=>?_,fun q o2 hq z=>?_⟩
    · obtain ⟨a, vs, ws, h1, h2, h3, h4, h5⟩ := R.own i w' e
      rw [h2] at z;cases z;rw [n] at h3;exact noSome h3
    · have := (R.prt q o2 hq).1
      rw [z,n] at this;exact noSome this
  | @tup p ws vs n r=>exact ⟨upd F p (.tup vs),Same.new (R.sub.free n) _,R.layF n _,.tup upd_same (r.mono (Same.new (R.sub.free n) _))⟩
theorem Out.mono {r:W × Bool}{v:V} (s:Same F F') (o:Out K F H r v H'):Out K F' H r v H':=by
 cases o with
 | val r=>exact .val (r.mono s)
 | lst n r=>exact .lst n (r.mono s)
 | tup n r=>exact .tup n (r.mono s)
theorem Res.freeze {r:W × Bool}{v:V} (R:Rel K F pr en σ H) (h:Res K F H pr en σ r v):∃F',Same F F'/\Rel K F' pr en σ H/\Rep K F' r.1 v:=by
  obtain ⟨w,b⟩:=r;cases b with
  | false=>exact ⟨F,.refl F,R,h⟩
  | true =>
    refine aG fun _ qG=>?_;obtain ⟨a,vs,ws,rfl,rfl,h1,h2,h3,h4,h5⟩:=h;refine qG ?_;clear qG;have s:Same F (upd F a vs):=Same.new h2 _;have nt:∀ps,vs≠.tbl ps:=fun ps z=>by cases h3<;>cases z
    refine ⟨upd F a vs,s,⟨R.len,fun b u e=>?_,fun i w e=>?_,fun i w e=>?_,R.inj,fun q o2 hq=>?_,R.tb.go (fun _ _ z=>z) (fun b ps e f=>⟨e,by rw [upd_ne (fun z=>by subst z;rw [h1] at e;exact nt ps (sI e))];exact f⟩) s fun b ps e h=>h⟩,(h3.mono s).rep upd_same⟩
    · by_cases hb : b = a
      · subst hb;rw [upd_same] at e;obtain rfl:=sI e;exact h1
      · rw [upd_ne hb] at e;exact R.sub _ _ e
    · obtain ⟨v, q1, q2⟩ := R.val i w e
      exact ⟨v,q1,q2.mono s⟩
    · refine aG fun Gg qG => ?_
      obtain ⟨a',vs',ws',q1,q2,q3,q4,q5⟩:=R.own i w e;refine qG ?_;clear qG;have ne:a'≠a:=fun z=>by subst z;exact h4 i w e q2
      exact ⟨a',vs',ws',q1,q2,q3,by rw [upd_ne ne];exact q4,q5.mono s⟩
    · obtain ⟨q1, q2, q3⟩ := R.prt q o2 hq
      exact ⟨q1,by rw [upd_ne (h5 q o2 hq)];exact q2,q3⟩
theorem Rel.freeze (R:Rel K F pr en σ H) {i:Nat}{w:W}{v:V}{fl:Bool} (e:en[i]?=some (some (w,fl))) (hv:σ[i]?=some (some v)):∃F',Same F F'/\Rel K F' pr (en.set i (some (w,false))) σ H/\Rep K F' w v:=by
  have hi:i < en.length:=(List.getElem?_eq_some_iff.mp e).1;cases fl with
  | false =>
    obtain ⟨v',h1,h2⟩:=R.val i w e;rw [hv] at h1;cases h1;refine ⟨F,.refl F,?_,h2⟩;rw [zvv e];exact R
  | true =>
    refine aG fun _ qG=>?_;obtain ⟨a,vs,ws,e0,h2,h3,h4,h5⟩:=R.own i w e;refine qG ?_;clear qG;subst e0;rw [hv] at h2;cases h2;have s:Same F (upd F a vs):=Same.new h4 _;have nt:∀ps,vs≠.tbl ps:=fun ps z=>by cases h5<;>cases z
    have g:∀j w' b,(en.set i (some (w,false)))[j]?=some (some (w',b))->(j=i/\w'=w/\b=false)\/(j≠i/\en[j]?=some (some (w',b))):=fun j w' b h=>by
      rcases zdd hi h with ⟨z,q⟩ | z
      · cases q;exact .inl ⟨z,rfl,rfl⟩
      · exact .inr z
    refine ⟨upd F a vs,s,⟨by rw [List.length_set];exact R.len,fun b u e'=>?_,fun j w' e'=>?_,fun j w' e'=>?_,fun j k b w1 w2 e1 e2=>?_,fun q o2 hq=>?_,R.tb.go (fun _ _ z=>z) (fun b ps e f=>⟨e,by rw [upd_ne (fun z=>by subst z;rw [h3] at e;exact nt ps (sI e))];exact f⟩) s fun b ps e h=>h⟩,(h5.mono s).rep upd_same⟩
    · by_cases hb : b = a
      · subst hb;rw [upd_same] at e';obtain rfl:=sI e';exact h3
      · rw [upd_ne hb] at e';exact R.sub _ _ e'
    · rcases g j w' false e' with ⟨rfl, rfl, _⟩ | ⟨_, z⟩
      · exact ⟨_,hv,(h5.mono s).rep upd_same⟩
      · obtain ⟨v', q1, q2⟩ := R.val j w' z
        exact ⟨v',q1,q2.mono s⟩
    · rcases g j w' true e' with ⟨_, _, z⟩ | ⟨ne, z⟩
      · cases z
      · refine aG fun Gg qG => ?_
        obtain ⟨a',vs',ws',q1,q2,q3,q4,q5⟩:=R.own j w' z;refine qG ?_;clear qG;have ne2:a'≠a:=fun q=>by subst q;exact ne (R.inj j i a' _ _ z e q2 hv)
        exact ⟨a',vs',ws',q1,q2,q3,by rw [upd_ne ne2];exact q4,q5.mono s⟩
    · rcases g j w1 true e1 with ⟨_, _, z⟩ | ⟨_, z1⟩
      · cases z
      · rcases g k w2 true e2 with ⟨_, _, z⟩ | ⟨_, z2⟩
        · cases z
        · exact R.inj j k b _ _ z1 z2
    · obtain ⟨q1, q2, q3⟩ := R.prt q o2 hq
      have ne:q≠a:=fun z=>by
        have:=q3 i _ e;rw [hv,z] at this;exact this rfl
      refine ⟨q1,by rw [upd_ne ne];exact q2,fun j w' e'=>?_⟩;rcases g j w' true e' with ⟨_,_,z⟩ | ⟨_,z⟩
      · cases z
      · exact q3 j w' z
theorem Rel.repB (R:Rel K F pr en σ H) {i:Nat}{w:W}{fl:Bool}{v:V} (e:en[i]?=some (some (w,fl))) (hv:σ[i]?=some (some v)):RepB K F H w v:=by
  cases fl with
  | false =>
    obtain ⟨v',h1,h2⟩:=R.val i w e;rw [hv] at h1;cases h1;exact .inl h2
  | true =>
    refine aG fun _ qG=>?_;obtain ⟨a,o,ws,h1,h2,h3,h4,h5⟩:=R.own i w e;refine qG ?_;clear qG;rw [hv] at h2;cases h2;exact .inr ⟨a,o,ws,h1,rfl,h3,h5⟩
theorem Rel.has (R:Rel K F pr en σ H) {i:Nat}{w:W}{fl:Bool} (e:en[i]?=some (some (w,fl))):∃v,σ[i]?=some (some v):=by
 cases fl with
 | false=>obtain ⟨v,h,_⟩:=R.val i w e;exact ⟨v,h⟩
 | true=>obtain ⟨a,_,_,_,h,_⟩:=R.own i w e;exact ⟨_,h⟩
theorem Rel.store (R:Rel K F pr en σ H) {i:Nat}{r:W × Bool}{v:V} (h:Res K F H pr en σ r v) (hi:i < en.length):Rel K F pr (en.set i (some r)) (σ.set i (some v)) H:=by
 have hi' : i < σ.length:=by rw [<-R.len];exact hi
 have g:∀j x,(en.set i (some r))[j]?=some (some x)->(j=i/\x=r)\/(j≠i/\en[j]?=some (some x)):=fun j x h=>by
  rcases zdd hi h with ⟨z,q⟩ | z
  ·obtain rfl:=sI q;exact .inl ⟨z,rfl⟩
  ·exact .inr z
 have s1:(σ.set i (some v))[i]?=some (some v):=List.getElem?_set_self hi';have s2:∀j,j≠i->(σ.set i (some v))[j]?=σ[j]?:=fun j hj=>List.getElem?_set_ne (Ne.symm hj);refine ⟨by rw [List.length_set,List.length_set];exact R.len,R.sub,fun j w e=>?_,fun j w e=>?_,fun j k a w1 w2 e1 e2=>?_,fun q o2 hq=>?_,R.tb⟩
 ·rcases g j _ e with ⟨rfl, z⟩ | ⟨hj, z⟩
  ·subst z;exact ⟨v,s1,h⟩
  ·rw [s2 j hj];exact R.val j w z
 ·rcases g j _ e with ⟨rfl, z⟩ | ⟨hj, z⟩
  ·subst z;obtain ⟨a,vs,ws,h1,h2,h3,h4,h5,_⟩:=h;exact ⟨a,vs,ws,h1,by rw [s1,h2],h3,h4,h5⟩
  ·rw [s2 j hj];exact R.own j w z
 ·intro q1 q2;rcases g j _ e1 with ⟨rfl,z1⟩ | ⟨hj,z1⟩
  ·rcases g k _ e2 with ⟨rfl, z2⟩ | ⟨hk, z2⟩
   ·rfl
   ·subst z1;obtain ⟨a',vs,ws,h1,h2,h3,h4,h5,h6,_⟩:=h;rw [s1,h2] at q1;cases q1;rw [s2 k hk] at q2;exact absurd q2 (h6 k _ z2)
  ·rcases g k _ e2 with ⟨rfl, z2⟩ | ⟨hk, z2⟩
   ·subst z2;obtain ⟨a',vs,ws,h1,h2,h3,h4,h5,h6,_⟩:=h;rw [s1,h2] at q2;cases q2;rw [s2 j hj] at q1;exact absurd q1 (h6 j _ z1)
   ·rw [s2 j hj] at q1; rw [s2 k hk] at q2;exact R.inj j k a _ _ z1 z2 q1 q2
 ·obtain ⟨q1, q2, q3⟩ := R.prt q o2 hq;refine ⟨q1,q2,fun j w e=>?_⟩;rcases g j _ e with ⟨rfl,z⟩ | ⟨hj,z⟩
  ·subst z;obtain ⟨a',vs,ws,h1,h2,h3,h4,h5,h6,h7⟩:=h;rw [s1,h2];intro q';cases q';exact h7 q o2 hq rfl
  ·rw [s2 j hj];exact q3 j w z
theorem Rel.changeO (R:Rel K F pr en σ H) {i:Nat}{w w0:W}{a:Addr}{o0:HO} (e:en[i]?=some (some (w,true))) (hv:σ[i]?=some (some (.ref a))) (r:OwnR K F w0 o0):Rel K F pr (en.set i (some (w0,true))) σ (upd H a o0):=by
 have hi:i < en.length:=(List.getElem?_eq_some_iff.mp e).1;refine aG fun _ qG=>?_;obtain ⟨a0,vs,ws,h1,h2,h3,h4,h5⟩:=R.own i w e;refine qG ?_;clear qG;rw [hv] at h2;cases h2;have nt:∀ps,vs≠.tbl ps:=fun ps z=>by cases h5<;>cases z
 have nx:∀φ,vs≠.ext φ:=fun ps z=>by cases h5<;>cases z
 have g:∀j x,(en.set i (some (w0,true)))[j]?=some (some x)->(j=i/\x=(w0,true))\/(j≠i/\en[j]?=some (some x)):=fun j x h=>by
  rcases zdd hi h with ⟨z,q⟩ | z
  ·obtain rfl:=sI q;exact .inl ⟨z,rfl⟩
  ·exact .inr z
 refine ⟨by rw [List.length_set];exact R.len,fun b u hb=>?_,fun j w' e'=>?_,fun j w' e'=>?_,fun j k b w1 w2 e1 e2 q1 q2=>?_,fun q o2 hq=>?_,R.tb.go (fun _ _ z=>z) (fun b ps e f=>⟨by rw [upd_ne (fun z=>by subst z;rw [h3] at e;exact nt ps (sI e))];exact e,f⟩) (.refl F) fun b ps e h=>h⟩
 ·have : b ≠ a := fun z => by subst z; rw [h4] at hb; cases hb
  rw [upd_ne this];exact R.sub _ _ hb
 ·rcases g j _ e' with ⟨_, z⟩ | ⟨_, z⟩
  ·cases z
  ·exact R.val j w' z
 ·rcases g j _ e' with ⟨rfl, z⟩ | ⟨hj, z⟩
  ·cases z;exact ⟨a,o0,w0,rfl,hv,upd_same,h4,r⟩
  ·refine aG fun Gg qG => ?_;obtain ⟨a',vs2,ws2,q1,q2,q3,q4,q5⟩:=R.own j w' z;refine qG ?_;clear qG;have ne:a'≠a:=fun z'=>by subst z';exact hj (R.inj j i a' _ _ z e q2 hv)
   exact ⟨a',vs2,ws2,q1,q2,by rw [upd_ne ne];exact q3,q4,q5⟩
 ·have z1:∃w0,en[j]?=some (some (w0,true)):=by
   rcases g j _ e1 with ⟨rfl,_⟩ | ⟨_,z⟩
   ·exact ⟨_,e⟩
   ·exact ⟨_,z⟩
  have z2:∃w0,en[k]?=some (some (w0,true)):=by
   rcases g k _ e2 with ⟨rfl,_⟩ | ⟨_,z⟩
   ·exact ⟨_,e⟩
   ·exact ⟨_,z⟩
  obtain ⟨_,z1⟩:=z1;obtain ⟨_,z2⟩:=z2;exact R.inj j k b _ _ z1 z2 q1 q2
 ·obtain ⟨q1, q2, q3⟩ := R.prt q o2 hq;have ne:q≠a:=fun z=>by
   have:=q3 i _ e;rw [hv,z] at this;exact this rfl
  refine ⟨by rw [upd_ne ne];exact q1,q2,fun j w' e'=>?_⟩;rcases g j _ e' with ⟨rfl,_⟩ | ⟨_,z⟩
  ·exact q3 j _ e
  ·exact q3 j w' z
theorem Rel.change (R:Rel K F pr en σ H) {i:Nat}{w:W}{a:Addr}{ws' : List W}{vs' : List V} (e:en[i]?=some (some (w,true))) (hv:σ[i]?=some (some (.ref a))) (r:Reps K F ws' vs'):Rel K F pr (en.set i (some (.lst ws',true))) σ (upd H a (.lst vs')):=R.changeO e hv (.lst r)
theorem Rel.ownL (R:Rel K F pr en σ H) {i:Nat}{ws:List W} (e:en[i]?=some (some (.lst ws,true))):∃(a:Addr) (vs:List V) (ws' : List W),W.lst ws=.lst ws'/\σ[i]?=some (some (V.ref a))/\H a=some (.lst vs)/\F a=none/\Reps K F ws' vs:=by
 refine aG fun _ qG=>?_;obtain ⟨a,o,w',e1,h2,h3,h4,h5⟩:=R.own i _ e;refine qG ?_;clear qG;subst e1;obtain ⟨vs,rfl,r⟩:=h5.list;exact ⟨a,vs,ws,rfl,h2,h3,h4,r⟩
end
end L2
namespace L2
open PySem PySem.Spec PyProof.Rows
noncomputable abbrev GE:=En->Option (En × (W × Bool))
noncomputable abbrev GA:=En->Option (En × (W ⊕ Nat))
noncomputable abbrev GT:=En->Option (En × Bool)
noncomputable abbrev GAs:=En->Option (En × List (W ⊕ Nat))
noncomputable abbrev GL:=En->Option (En × List W)
noncomputable def ArgR (K:PySem.W.Frag) (F:Hp) (σ:St):W ⊕ Nat->V->Prop
 | .inl w,v=>Rep K F w v
 | .inr i,v=>σ[i]?=some (some v)
inductive ArgRs (K:PySem.W.Frag) (F:Hp) (σ:St):List (W ⊕ Nat)->List V->Prop where
 | nil:ArgRs K F σ [] []
 | cons {x:W ⊕ Nat}{v:V}{xs:List (W ⊕ Nat)}{vs:List V} (h:ArgR K F σ x v) (r:ArgRs K F σ xs vs):ArgRs K F σ (x::xs) (v::vs)
noncomputable def resA (en:En):W ⊕ Nat->Option W
  | .inl w=>some w
  | .inr i=>match en[i]? with
    | some (some (w,_))=>some w
    | _=>none
section
variable {K:PySem.W.Frag}{F F' H:Hp}{pr:Prt}{en:En}{σ:St}
theorem ArgR.mono (s:Same F F') {x:W ⊕ Nat}{v:V} (h:ArgR K F σ x v):ArgR K F' σ x v:=by
 cases x with
 | inl w=>exact Rep.mono s h
 | inr i=>exact h
theorem ArgR.repB (R:Rel K F pr en σ H) {x:W ⊕ Nat}{v:V}{w:W} (h:ArgR K F σ x v) (e:resA en x=some w):RepB K F H w v:=by
  cases x with
  | inl u=>obtain rfl:=sI e;exact .inl h
  | inr i =>
    unfold resA at e;cases q:en[i]? with
    | none=>simp only [q] at e;exact noSome e
    | some o =>
      cases o with
      | none=>simp only [q] at e;exact noSome e
      | some p =>
        obtain ⟨u,fl⟩:=p;simp only [q] at e;obtain rfl:=sI e;exact R.repB q h
end
noncomputable def tE (K:PySem.W.Frag) (g:GE):TE:=fun σ H Q=>∃F pr en en' r,Rel K F pr en σ H/\g en=some (en',r)/\∀F' H' v,Same F F'->Rel K F' pr en' σ H'->Res K F' H' pr en' σ r v->Q v H'
noncomputable def tA (K:PySem.W.Frag) (g:GA):TE:=fun σ H Q=>∃F pr en en' x,Rel K F pr en σ H/\g en=some (en',x)/\∀F' H' v,Same F F'->Rel K F' pr en' σ H'->ArgR K F' σ x v->Q v H'
noncomputable def tT (K:PySem.W.Frag) (g:GT):TT:=fun σ H Q=>∃F pr en en' b,Rel K F pr en σ H/\g en=some (en',b)/\∀F' H',Same F F'->Rel K F' pr en' σ H'->Q b H'
noncomputable def tAs (K:PySem.W.Frag) (g:GAs):TA:=fun σ H Q=>∃F pr en en' xs,Rel K F pr en σ H/\g en=some (en',xs)/\∀F' H' vs,Same F F'->Rel K F' pr en' σ H'->ArgRs K F' σ xs vs->Q vs H'
theorem PE.wk {X:Cx}{e:Expr}{t t' : TE} (h:PE X e t) (i:∀σ H Q,t' σ H Q->t σ H Q):PE X e t':=fun pins s σ H Q I q=>h pins s σ H Q I (i σ H Q q)
theorem PT.wk {X:Cx}{e:Expr}{t t' : TT} (h:PT X e t) (i:∀σ H Q,t' σ H Q->t σ H Q):PT X e t':=fun pins s σ H Q I q=>h pins s σ H Q I (i σ H Q q)
theorem PW.wk {X:Cx}{e:Expr}{t t' : TT} (h:PW X e t) (i:∀σ H Q,t' σ H Q->t σ H Q):PW X e t':=fun wh pins s σ H Q I q=>h wh pins s σ H Q I (i σ H Q q)
theorem PA.wk {X:Cx}{es:List Expr}{t t' : TA} (h:PA X es t) (i:∀σ H Q,t' σ H Q->t σ H Q):PA X es t':=fun pos pins s σ H Q I q=>h pos pins s σ H Q I (i σ H Q q)
theorem PS.wk {X:Cx}{st:Stmt}{t t' : TS} (h:PS X st t) (i:∀D σ H,t' D σ H->t D σ H):PS X st t':=fun pins s σ H D I q=>h pins s σ H D I (i D σ H q)
theorem PSs.wk {X:Cx}{st:List Stmt}{t t' : TS} (h:PSs X st t) (i:∀D σ H,t' D σ H->t D σ H):PSs X st t':=fun pins s σ H D I q=>h pins s σ H D I (i D σ H q)
theorem PI.wk {X:Cx}{tg e:Expr}{t t' : TI} (h:PI X tg e t) (i:∀σ H R,t' σ H R->t σ H R):PI X tg e t':=fun pins s σ H R I q=>h pins s σ H R I (i σ H R q)
noncomputable def gVar (i:Nat):GE:=fun en=>match en[i]? with
 | some (some (w,_))=>some (en.set i (some (w,false)),(w,false))
 | _=>none
noncomputable def zaa (i:Nat):GA:=fun en=>match en[i]? with
 | some (some (w,true))=>some (en,.inr i)
 | some (some (w,false))=>some (en,.inl w)
 | _=>none
noncomputable def gC (w:W):GE:=fun en=>some (en,(w,false))
noncomputable def gArg (g:GE):GA:=fun en=>(g en).bind fun p=>some (p.1,.inl p.2.1)
noncomputable def gA0:GAs:=fun en=>some (en,[])
noncomputable def gCns (a:GA) (as:GAs):GAs:=fun en=>(a en).bind fun p=>(as p.1).bind fun q=>some (q.1,p.2::q.2)
noncomputable def gOp1 (o:W->Option (W × Bool)) (a:GA):GE:=fun en=>(a en).bind fun p=>(resA p.1 p.2).bind fun w=>(o w).bind fun r=>some (p.1,r)
noncomputable def gOp2 (o:W->W->Option (W × Bool)) (a b:GA):GE:=fun en=>(a en).bind fun p=>(b p.1).bind fun q=>(resA q.1 p.2).bind fun w=>(resA q.1 q.2).bind fun u=>(o w u).bind fun r=>some (q.1,r)
noncomputable def zat (en:En):List (W ⊕ Nat)->Option (List W)
 | []=>some []
 | x::xs=>(resA en x).bind fun w=>(zat en xs).bind fun ws=>some (w::ws)
noncomputable def gOpN (o:List W->Option (W × Bool)) (as:GAs):GE:=fun en=>(as en).bind fun p=>(zat p.1 p.2).bind fun ws=>(o ws).bind fun r=>some (p.1,r)
noncomputable def zah (g:GE):GT:=fun en=>match g en with
 | some (en',(.bl b,_))=>some (en',b)
 | _=>none
noncomputable def gAnd (a b:GE):GE:=fun en=>match a en with
 | some (en',(.bl true,_))=>b en'
 | some (en',(.bl false,_))=>some (en',(.bl false,false))
 | _=>none
noncomputable def gOr (a b:GE):GE:=fun en=>match a en with
 | some (en',(.bl true,_))=>some (en',(.bl true,false))
 | some (en',(.bl false,_))=>b en'
 | _=>none
noncomputable def gNot (a:GE):GE:=fun en=>match a en with
 | some (en',(.bl b,_))=>some (en',(.bl (!b),false))
 | _=>none
noncomputable def zfe (a b:GT):GT:=fun en=>match a en with
 | some (en',true)=>b en'
 | some (en',false)=>some (en',false)
 | none=>none
noncomputable def gOrT (a b:GT):GT:=fun en=>match a en with
 | some (en',true)=>some (en',true)
 | some (en',false)=>b en'
 | none=>none
noncomputable def zlt (a:GT):GT:=fun en=>match a en with
 | some (en',b)=>some (en',!b)
 | none=>none
noncomputable def gIf (c:GT) (a b:GE):GE:=fun en=>match c en with
 | some (en',true)=>a en'
 | some (en',false)=>b en'
 | none=>none
section
variable {K:PySem.W.Frag}{σ:St}{H:Hp}
theorem zu0 {i:Nat}{Q:VK} (h:tE K (gVar i) σ H Q):tVar i σ H Q:=by
  obtain ⟨F,pr,en,en',r,R,h,q⟩:=h;unfold gVar at h;cases e:en[i]? with
  | none=>simp only [e] at h;exact noSome h
  | some o =>
    cases o with
    | none=>simp only [e] at h;exact noSome h
    | some p =>
      obtain ⟨w,fl⟩:=p;simp only [e] at h;cases h;obtain ⟨v,hv⟩:=R.has e;obtain ⟨F',s,R',z⟩:=R.freeze e hv;exact ⟨v,hv,q F' H v s R' z⟩
theorem zpv {i:Nat}{Q:VK} (h:tA K (zaa i) σ H Q):tVar i σ H Q:=by
  obtain ⟨F,pr,en,en',r,R,h,q⟩:=h;unfold zaa at h;cases e:en[i]? with
  | none=>simp only [e] at h;exact noSome h
  | some o =>
    cases o with
    | none=>simp only [e] at h;exact noSome h
    | some p =>
      obtain ⟨w,fl⟩:=p;cases fl with
      | true =>
        simp only [e] at h;cases h;obtain ⟨v,hv⟩:=R.has e;exact ⟨v,hv,q F H v (.refl F) R hv⟩
      | false =>
        simp only [e] at h;cases h;obtain ⟨v,hv,z⟩:=R.val i w e;exact ⟨v,hv,q F H v (.refl F) R z⟩
theorem zbb {w:W}{v:V}{Q:VK} (hr:∀F,Rep K F w v) (h:tE K (gC w) σ H Q):tC v σ H Q:=by
 obtain ⟨F,pr,en,en',r,R,h,q⟩:=h;cases h;exact q F H v (.refl F) R (hr F)
theorem zet {g:GE}{Q:VK} (h:tA K (gArg g) σ H Q):tE K g σ H Q:=by
 obtain ⟨F,pr,en,en',x,R,h,q⟩:=h;obtain ⟨⟨e1,r⟩,h1,h⟩:=bS h;cases h;refine ⟨F,pr,en,e1,r,R,h1,fun F1 H1 v s1 R1 z=>?_⟩;obtain ⟨F2,s2,R2,y⟩:=z.freeze R1;exact q F2 H1 v (s1.trans s2) R2 y
theorem zmn {Q:List V->Hp->Prop} (h:tAs K gA0 σ H Q):tNil σ H Q:=by
 obtain ⟨F,pr,en,en',x,R,h,q⟩:=h;cases h;exact q F H [] (.refl F) R .nil
theorem zm9 {a:GA}{as:GAs}{Q:List V->Hp->Prop} (h:tAs K (gCns a as) σ H Q):tA K a σ H fun x H1=>tAs K as σ H1 fun xs H2=>Q (x::xs) H2:=by
 refine aG fun _ qG=>?_;obtain ⟨F,pr,en,en',x,R,h,q⟩:=h;obtain ⟨⟨e1,y⟩,h1,h⟩:=bS h;obtain ⟨⟨e2,ys⟩,h2,h⟩:=bS h;refine qG ?_;clear qG;cases h;exact ⟨F,pr,en,e1,y,R,h1,fun F1 H1 v s1 R1 a1=>⟨F1,pr,e1,e2,ys,R1,h2,fun F2 H2 vs s2 R2 a2=>q F2 H2 (v::vs) (s1.trans s2) R2 (.cons (a1.mono s2) a2)⟩⟩
noncomputable def OpS (K:PySem.W.Frag) (r:R2) (o:W->W->Option (W × Bool)):Prop:=∀F H w1 w2 v1 v2 rv Q,Same F H->RepB K F H w1 v1->RepB K F H w2 v2->o w1 w2=some rv->(∀v H',Out K F H rv v H'->Q v H')->r v1 v2 H Q
theorem zbh {r:R2}{o:W->W->Option (W × Bool)}{a b:GA}{Q:VK} (ho:OpS K r o) (h:tE K (gOp2 o a b) σ H Q):tOp r (tA K a) (tA K b) σ H Q:=by
 refine aG fun _ qG=>?_;obtain ⟨F,pr,en,en',rv,R,h,q⟩:=h;obtain ⟨⟨e1,x1⟩,h1,h⟩:=bS h;obtain ⟨⟨e2,x2⟩,h2,h⟩:=bS h;obtain ⟨w1,hw1,h⟩:=bS h;obtain ⟨w2,hw2,h⟩:=bS h;obtain ⟨r',hr,h⟩:=bS h;refine qG ?_;clear qG;cases h;refine ⟨F,pr,en,e1,x1,R,h1,fun F1 H1 v1 s1 R1 a1=>⟨F1,pr,e1,e2,x2,R1,h2,fun F2 H2 v2 s2 R2 a2=>?_⟩⟩;refine ho F2 H2 w1 w2 v1 v2 rv Q R2.sub ((a1.mono s2).repB R2 hw1) (a2.repB R2 hw2) hr fun v H' z=>?_;refine aG fun _ qG=>?_;obtain ⟨F3,s3,R3,y⟩:=z.close R2;refine qG ?_;clear qG;exact q F3 H' v (s1.trans (s2.trans s3)) R3 y
noncomputable def OpS1 (K:PySem.W.Frag) (r:V->Hp->VK->Prop) (o:W->Option (W × Bool)):Prop:=∀F H w v rv Q,Same F H->RepB K F H w v->o w=some rv->(∀u H',Out K F H rv u H'->Q u H')->r v H Q
theorem zus {r:V->Hp->VK->Prop}{o:W->Option (W × Bool)}{a:GA}{Q:VK} (ho:OpS1 K r o) (h:tE K (gOp1 o a) σ H Q):tUn r (tA K a) σ H Q:=by
 refine aG fun _ qG=>?_;obtain ⟨F,pr,en,en',rv,R,h,q⟩:=h;obtain ⟨⟨e1,x1⟩,h1,h⟩:=bS h;obtain ⟨w1,hw1,h⟩:=bS h;obtain ⟨r',hr,h⟩:=bS h;refine qG ?_;clear qG;cases h;refine ⟨F,pr,en,e1,x1,R,h1,fun F1 H1 v1 s1 R1 a1=>?_⟩;refine ho F1 H1 w1 v1 rv Q R1.sub (a1.repB R1 hw1) hr fun v H' z=>?_;refine aG fun _ qG=>?_;obtain ⟨F3,s3,R3,y⟩:=z.close R1;refine qG ?_;clear qG;exact q F3 H' v (s1.trans s3) R3 y
inductive RepBs (K:PySem.W.Frag) (F H:Hp):List W->List V->Prop where
 | nil:RepBs K F H [] []
 | cons {w:W}{v:V}{ws:List W}{vs:List V} (h:RepB K F H w v) (r:RepBs K F H ws vs):RepBs K F H (w::ws) (v::vs)
theorem ArgRs.repBs {F:Hp}{pr:Prt}{en:En} (R:Rel K F pr en σ H):∀{xs:List (W ⊕ Nat)}{vs:List V}{ws:List W},ArgRs K F σ xs vs->zat en xs=some ws->RepBs K F H ws vs
  | _,_,_,.nil,e=>by obtain rfl:=sI e;exact .nil
  | _,_,_,.cons h r,e=>by
    obtain ⟨w,hw,e⟩:=bS e;obtain ⟨ws,hws,e⟩:=bS e;obtain rfl:=sI e;exact .cons (h.repB R hw) (ArgRs.repBs R r hws)
noncomputable def OpSN (K:PySem.W.Frag) (r:List V->Hp->VK->Prop) (o:List W->Option (W × Bool)):Prop:=∀F H ws vs rv Q,Same F H->RepBs K F H ws vs->o ws=some rv->(∀u H',Out K F H rv u H'->Q u H')->r vs H Q
theorem zgr {r:List V->Hp->VK->Prop}{o:List W->Option (W × Bool)}{as:GAs}{Q:VK} (ho:OpSN K r o) (h:tE K (gOpN o as) σ H Q):tCB r (tAs K as) σ H Q:=by
 refine aG fun _ qG=>?_;obtain ⟨F,pr,en,en',rv,R,h,q⟩:=h;obtain ⟨⟨e1,x1⟩,h1,h⟩:=bS h;obtain ⟨w1,hw1,h⟩:=bS h;obtain ⟨r',hr,h⟩:=bS h;refine qG ?_;clear qG;cases h;refine ⟨F,pr,en,e1,x1,R,h1,fun F1 H1 v1 s1 R1 a1=>?_⟩;refine ho F1 H1 w1 v1 rv Q R1.sub (a1.repBs R1 hw1) hr fun v H' z=>?_;refine aG fun _ qG=>?_;obtain ⟨F3,s3,R3,y⟩:=z.close R1;refine qG ?_;clear qG;exact q F3 H' v (s1.trans s3) R3 y
theorem Res.isBl {F H:Hp}{pr:Prt}{en:En}{σ:St}{b fl:Bool}{v:V} (h:Res K F H pr en σ (.bl b,fl) v):v=.bl b:=by
 cases fl with
 | false=>cases (show Rep K F (.bl b) v from h);rfl
 | true=>obtain ⟨_,_,_,e,_,_,_,q,_⟩:=h;subst e;cases q
theorem zdm {g:GE}{t:TE}{Q:Bool->Hp->Prop} (ht:∀σ H Q,tE K g σ H Q->t σ H Q) (h:tT K (zah g) σ H Q):zxo t σ H Q:=by
  obtain ⟨F,pr,en,en',b,R,h,q⟩:=h;unfold zah at h;refine ht σ H _ ?_;cases e:g en with
  | none=>simp only [e] at h;exact noSome h
  | some p =>
    obtain ⟨e1,w,fl⟩:=p;cases w with
    | bl c=>simp only [e] at h;cases h;exact ⟨F,pr,en,_,_,R,e,fun F' H' v s' R' z=>⟨b,z.isBl,q F' H' s' R'⟩⟩
    | _=>simp only [e] at h;exact noSome h
theorem zvd {a b:GE}{Q:VK} (h:tE K (gAnd a b) σ H Q):z3v (tE K a) (tE K b) σ H Q:=by
  refine aG fun _ qG=>?_;obtain ⟨F,pr,en,en',r,R,h,q⟩:=h;refine qG ?_;clear qG;unfold gAnd at h;cases e:a en with
  | none=>simp only [e] at h;exact noSome h
  | some p =>
    obtain ⟨e1,w,fl⟩:=p;cases w with
    | bl c =>
      refine ⟨F,pr,en,_,_,R,e,fun F1 H1 v s1 R1 z=>⟨c,z.isBl,?_⟩⟩;cases c with
      | true =>
        simp only [e] at h;exact iteT ⟨F1,pr,e1,en',r,R1,h,fun F2 H2 v s2 R2 z2=>q F2 H2 v (s1.trans s2) R2 z2⟩
      | false =>
        simp only [e] at h;cases h;exact iteF (q F1 H1 _ s1 R1 (.bl false))
    | _=>simp only [e] at h;exact noSome h
theorem ztq {a:GE}{Q:VK} (h:tE K (gNot a) σ H Q):z3k (tE K a) σ H Q:=by
  obtain ⟨F,pr,en,en',r,R,h,q⟩:=h;unfold gNot at h;cases e:a en with
  | none=>simp only [e] at h;exact noSome h
  | some p =>
    obtain ⟨e1,w,fl⟩:=p;cases w with
    | bl c =>
      simp only [e] at h;cases h;exact ⟨F,pr,en,_,_,R,e,fun F1 H1 v s1 R1 z=>⟨c,z.isBl,q F1 H1 _ s1 R1 (.bl _)⟩⟩
    | _=>simp only [e] at h;exact noSome h
theorem zo7 {a b:GT}{Q:Bool->Hp->Prop} (h:tT K (zfe a b) σ H Q):tAnd (tT K a) (tT K b) σ H Q:=by
  refine aG fun _ qG=>?_;obtain ⟨F,pr,en,en',r,R,h,q⟩:=h;refine qG ?_;clear qG;unfold zfe at h;cases e:a en with
  | none=>simp only [e] at h;exact noSome h
  | some p =>
    obtain ⟨e1,c⟩:=p;refine ⟨F,pr,en,_,_,R,e,fun F1 H1 s1 R1=>?_⟩;cases c with
    | true=>simp only [e] at h;exact iteT ⟨F1,pr,e1,en',r,R1,h,fun F2 H2 s2 R2=>q F2 H2 (s1.trans s2) R2⟩
    | false=>simp only [e] at h;cases h;exact iteF (q F1 H1 s1 R1)
theorem zvp {a b:GT}{Q:Bool->Hp->Prop} (h:tT K (gOrT a b) σ H Q):tOr (tT K a) (tT K b) σ H Q:=by
  refine aG fun _ qG=>?_;obtain ⟨F,pr,en,en',r,R,h,q⟩:=h;refine qG ?_;clear qG;unfold gOrT at h;cases e:a en with
  | none=>simp only [e] at h;exact noSome h
  | some p =>
    obtain ⟨e1,c⟩:=p;refine ⟨F,pr,en,_,_,R,e,fun F1 H1 s1 R1=>?_⟩;cases c with
    | false=>simp only [e] at h;exact iteF ⟨F1,pr,e1,en',r,R1,h,fun F2 H2 s2 R2=>q F2 H2 (s1.trans s2) R2⟩
    | true=>simp only [e] at h;cases h;exact iteT (q F1 H1 s1 R1)
theorem zo2 {a:GT}{Q:Bool->Hp->Prop} (h:tT K (zlt a) σ H Q):tNot (tT K a) σ H Q:=by
  obtain ⟨F,pr,en,en',r,R,h,q⟩:=h;unfold zlt at h;cases e:a en with
  | none=>simp only [e] at h;exact noSome h
  | some p =>
    obtain ⟨e1,c⟩:=p;simp only [e] at h;cases h;exact ⟨F,pr,en,_,_,R,e,fun F1 H1 s1 R1=>q F1 H1 s1 R1⟩
theorem zzo {c:GT}{a b:GE}{Q:VK} (h:tE K (gIf c a b) σ H Q):tIf (tT K c) (tE K a) (tE K b) σ H Q:=by
  refine aG fun _ qG=>?_;obtain ⟨F,pr,en,en',r,R,h,q⟩:=h;refine qG ?_;clear qG;unfold gIf at h;cases e:c en with
  | none=>simp only [e] at h;exact noSome h
  | some p =>
    obtain ⟨e1,d⟩:=p;refine ⟨F,pr,en,_,_,R,e,fun F1 H1 s1 R1=>?_⟩;cases d with
    | true=>simp only [e] at h;exact iteT ⟨F1,pr,e1,en',r,R1,h,fun F2 H2 v s2 R2 z=>q F2 H2 v (s1.trans s2) R2 z⟩
    | false=>simp only [e] at h;exact iteF ⟨F1,pr,e1,en',r,R1,h,fun F2 H2 v s2 R2 z=>q F2 H2 v (s1.trans s2) R2 z⟩
end
noncomputable def za7:List (W ⊕ Nat)->Option (List W)
 | []=>some []
 | .inl w::xs=>(za7 xs).bind fun ws=>some (w::ws)
 | .inr _::_=>none
theorem ArgRs.reps {K:PySem.W.Frag}{F:Hp}{σ:St}:∀{xs:List (W ⊕ Nat)}{vs:List V}{ws:List W},ArgRs K F σ xs vs->za7 xs=some ws->Reps K F ws vs
  | _,_,_,.nil,e=>by obtain rfl:=sI e;exact .nil
  | .inl w::xs,_,_,.cons h r,e=>by
    obtain ⟨ws,hws,e⟩:=bS (show (za7 xs).bind _=_ from e);obtain rfl:=sI e;exact .cons h (ArgRs.reps r hws)
  | .inr i::xs,_,_,.cons h r,e=>by exact noSome e
noncomputable def zbo (as:GAs):GE:=fun en=>(as en).bind fun p=>(za7 p.2).bind fun ws=>if ws.length<=sizeLine then some (p.1,(.tup ws,false)) else none
noncomputable def za9 (as:GAs):GE:=fun en=>(as en).bind fun p=>(za7 p.2).bind fun ws=>if ws.length<=sizeLine then some (p.1,(.lst ws,true)) else none
section
variable {K:PySem.W.Frag}{σ:St}{H:Hp}
theorem ztg {as:GAs}{Q:VK} (h:tE K (zbo as) σ H Q):tTup (tAs K as) σ H Q:=by
 obtain ⟨F,pr,en,en',r,R,h,q⟩:=h;obtain ⟨⟨e1,xs⟩,h1,h⟩:=bS h;obtain ⟨ws,h2,h⟩:=bS h;split at h
 ·rename_i hz;cases h;refine ⟨F,pr,en,e1,xs,R,h1,fun F1 H1 vs s1 R1 a1=>?_⟩;have rr:=a1.reps h2;refine ⟨by rw [<-rr.length];exact hz,fun p hp=>?_⟩;obtain ⟨F2,s2,R2,z⟩:=(Out.tup (K:=K) hp rr).close R1;exact q F2 _ _ (s1.trans s2) R2 z
 ·exact noSome h
theorem zv1 {as:GAs}{Q:VK} (h:tE K (za9 as) σ H Q):tLst (tAs K as) σ H Q:=by
 refine aG fun _ qG=>?_;obtain ⟨F,pr,en,en',r,R,h,q⟩:=h;obtain ⟨⟨e1,xs⟩,h1,h⟩:=bS h;obtain ⟨ws,h2,h⟩:=bS h;refine qG ?_;clear qG;split at h
 ·rename_i hz;cases h;refine ⟨F,pr,en,e1,xs,R,h1,fun F1 H1 vs s1 R1 a1=>?_⟩;have rr:=a1.reps h2;refine ⟨by rw [<-rr.length];exact hz,fun p hp=>?_⟩;refine aG fun _ qG=>?_;obtain ⟨F2,s2,R2,z⟩:=(Out.lst (K:=K) hp rr).close R1;refine qG ?_;clear qG;exact q F2 _ _ (s1.trans s2) R2 z
 ·exact noSome h
noncomputable def zh2 (o o' : W->W->Option (W × Bool)) (a b c:GA):GE:=fun en=>(a en).bind fun p=>(b p.1).bind fun q=>(resA q.1 p.2).bind fun w=>(resA q.1 q.2).bind fun u=>match o w u with
 | some (.bl true,false)=>(c q.1).bind fun t=>(resA t.1 q.2).bind fun u'=>(resA t.1 t.2).bind fun z=>(o' u' z).bind fun r=>some (t.1,r)
 | some (.bl false,false)=>some (q.1,(.bl false,false))
 | _=>none
theorem zfz {r r' : R2}{o o' : W->W->Option (W × Bool)}{a b c:GA}{Q:VK} (ho:OpS K r o) (ho' : OpS K r' o') (h:tE K (zh2 o o' a b c) σ H Q):zp0 r r' (tA K a) (tA K b) (tA K c) σ H Q:=by
  refine aG fun _ qG=>?_;obtain ⟨F,pr,en,en',rv,R,h,q⟩:=h;obtain ⟨⟨e1,x1⟩,h1,h⟩:=bS h;obtain ⟨⟨e2,x2⟩,h2,h⟩:=bS h;obtain ⟨w1,hw1,h⟩:=bS h;obtain ⟨w2,hw2,h⟩:=bS h;refine qG ?_;clear qG;refine ⟨F,pr,en,e1,x1,R,h1,fun F1 H1 v1 s1 R1 a1=>⟨F1,pr,e1,e2,x2,R1,h2,fun F2 H2 v2 s2 R2 a2=>?_⟩⟩;cases e:o w1 w2 with
  | none=>simp only [e] at h;exact noSome h
  | some p =>
    obtain ⟨w,fl⟩:=p;cases w with
    | bl k =>
      cases fl with
      | true=>simp only [e] at h;cases k<;>exact noSome h
      | false =>
        refine ho F2 H2 w1 w2 v1 v2 _ _ R2.sub ((a1.mono s2).repB R2 hw1) (a2.repB R2 hw2) e fun v H' z=>?_;cases z with
        | val z =>
          cases z;refine ⟨k,rfl,?_⟩;cases k with
          | false =>
            simp only [e] at h;cases h;exact iteF (q F2 H2 _ (s1.trans s2) R2 (.bl false))
          | true =>
            simp only [e] at h;refine aG fun _ qG=>?_;obtain ⟨⟨e3,x3⟩,h3,h⟩:=bS h;obtain ⟨w2',hw2',h⟩:=bS h;obtain ⟨w3,hw3,h⟩:=bS h;obtain ⟨r3,hr3,h⟩:=bS h;refine qG ?_;clear qG;cases h;refine iteT ⟨F2,pr,e2,e3,x3,R2,h3,fun F3 H3 v3 s3 R3 a3=>?_⟩;refine ho' F3 H3 w2' w3 v2 v3 _ _ R3.sub ((a2.mono s3).repB R3 hw2') (a3.repB R3 hw3) hr3 fun v H' z=>?_;refine aG fun _ qG=>?_;obtain ⟨F4,s4,R4,y⟩:=z.close R3;refine qG ?_;clear qG;exact q F4 H' v (s1.trans (s2.trans (s3.trans s4))) R4 y
    | _=>simp only [e] at h;exact noSome h
end
end L2
namespace L2
open PySem PySem.Spec PyProof.Rows
section
variable {K:PySem.W.Frag}{F H:Hp}{v:V}
theorem RepB.int {i:Int} (h:RepB K F H (.int i) v):v=.int i:=by
 rcases h with h | ⟨_,_,_,e,_,_,q⟩
 ·cases h;rfl
 ·subst e;cases q
theorem RepB.bl {b:Bool} (h:RepB K F H (.bl b) v):v=.bl b:=by
 rcases h with h | ⟨_,_,_,e,_,_,q⟩
 ·cases h;rfl
 ·subst e;cases q
theorem RepB.str {x:Str} (h:RepB K F H (.str x) v):v=.str x:=by
 rcases h with h | ⟨_,_,_,e,_,_,q⟩
 ·cases h;rfl
 ·subst e;cases q
theorem RepB.non (h:RepB K F H .non v):v=.non:=by
 rcases h with h | ⟨_,_,_,e,_,_,q⟩
 ·cases h;rfl
 ·subst e;cases q
theorem RepB.lst {ws:List W} (s:Same F H) (h:RepB K F H (.lst ws) v):∃a vs,v=.ref a/\H a=some (.lst vs)/\Reps K F ws vs:=by
 rcases h with h | ⟨a,o,ws',e,e2,h,r⟩
 ·cases h with
  | lst h r=>exact ⟨_,_,rfl,s _ _ h,r⟩
 ·subst e;obtain ⟨vs,rfl,r'⟩:=r.list;exact ⟨a,vs,e2,h,r'⟩
theorem RepB.tup {ws:List W} (s:Same F H) (h:RepB K F H (.tup ws) v):∃a vs,v=.ref a/\H a=some (.tup vs)/\F a=some (.tup vs)/\Reps K F ws vs:=by
 rcases h with h | ⟨_,_,_,e,_,_,q⟩
 ·cases h with
  | tup h r=>exact ⟨_,_,rfl,s _ _ h,h,r⟩
 ·subst e;cases q
theorem RepB.frl {ws:List W} (s:Same F H) (h:RepB K F H (.frl ws) v):∃a vs,v=.ref a/\SqL K H a vs/\Reps K F ws vs:=by
 rcases h with h | ⟨_,_,_,e,_,_,q⟩
 ·cases h with
  | frl h r=>exact ⟨_,_,rfl,s.seq h,r⟩
 ·subst e;cases q
noncomputable def seqL:W->Option (List W)
 | .lst ws=>some ws
 | .frl ws=>some ws
 | _=>none
noncomputable def seqW:W->Option (List W)
 | .lst ws=>some ws
 | .frl ws=>some ws
 | .tup ws=>some ws
 | _=>none
theorem RepB.seqL {w:W}{ws:List W} (s:Same F H) (h:RepB K F H w v) (e:L2.seqL w=some ws):∃a vs,v=.ref a/\SqL K H a vs/\Reps K F ws vs:=by
 cases w with
 | lst xs=>obtain rfl:=sI e;obtain ⟨a,vs,e,h,r⟩:=h.lst s;exact ⟨a,vs,e,SqL.of' h,r⟩
 | frl xs=>obtain rfl:=sI e;exact h.frl s
 | _=>exact noSome e
theorem RepB.seqW {w:W}{ws:List W} (s:Same F H) (h:RepB K F H w v) (e:L2.seqW w=some ws):∃a vs,v=.ref a/\(SqL K H a vs\/SqT K H a vs)/\Reps K F ws vs:=by
 cases w with
 | lst xs=>obtain rfl:=sI e;obtain ⟨a,vs,e,h,r⟩:=h.lst s;exact ⟨a,vs,e,.inl (SqL.of' h),r⟩
 | frl xs=>obtain rfl:=sI e;obtain ⟨a,vs,e,h,r⟩:=h.frl s;exact ⟨a,vs,e,.inl h,r⟩
 | tup xs=>obtain rfl:=sI e;obtain ⟨a,vs,e,h,_,r⟩:=h.tup s;exact ⟨a,vs,e,.inr (.inl (.inl h)),r⟩
 | _=>exact noSome e
end
noncomputable abbrev O2:=W->W->Option (W × Bool)
noncomputable def oI (c:Int->Int->Bool) (g:Int->Int->W):O2
 | .int i,.int j=>if c i j then some (g i j,false) else none
 | _,_=>none
section
variable {K:PySem.W.Frag}
theorem zlr {c:Int->Int->Bool}{C:Int->Int->Prop}{g:Int->Int->W}{g' : Int->Int->V} (hc:∀i j,c i j=true->C i j) (hg:∀F i j,Rep K F (g i j) (g' i j)):OpS K (rI C g') (oI c g):=fun F H w1 w2 v1 v2 rv Q s r1 r2 e q=>by
  cases w1 with
  | int i =>
    cases w2 with
    | int j =>
      unfold oI at e;simp only at e;split at e
      · rename_i z
        obtain rfl:=sI e;exact ⟨i,j,r1.int,r2.int,hc i j z,q _ _ (.val (hg F i j))⟩
      · exact noSome e
    | _=>exact noSome e
  | _=>exact noSome e
theorem zdc {g:Int->Int->W}{g' : Int->Int->V} (hg:∀F i j,Rep K F (g i j) (g' i j)):OpS K (rI0 g') (oI (fun _ _=>true) g):=fun F H w1 w2 v1 v2 rv Q s r1 r2 e q=>by
  cases w1 with
  | int i =>
    cases w2 with
    | int j=>obtain rfl:=sI e;exact ⟨i,j,r1.int,r2.int,q _ _ (.val (hg F i j))⟩
    | _=>exact noSome e
  | _=>exact noSome e
theorem OpS.or {r r' : R2}{o o' : O2} (h:OpS K r o) (h' : OpS K r' o'):OpS K (fun x y H Q=>r x y H Q\/r' x y H Q) (fun a b=>match o a b with | some p=>some p | none=>o' a b):=fun F H w1 w2 v1 v2 rv Q s r1 r2 e q=>by
 cases z:o w1 w2 with
 | some p=>simp only [z] at e;obtain rfl:=sI e;exact .inl (h F H w1 w2 v1 v2 _ Q s r1 r2 z q)
 | none=>simp only [z] at e;exact .inr (h' F H w1 w2 v1 v2 _ Q s r1 r2 e q)
end
noncomputable def oOr (o o' : O2):O2:=fun a b=>match o a b with | some p=>some p | none=>o' a b
noncomputable def oCat:O2
 | .lst xs,.lst ys=>if xs.length+ys.length<=sizeLine then some (.lst (xs++ys),true) else none
 | _,_=>none
noncomputable def ztr:O2
 | .tup (x::xs),.tup ys=>if (x::xs).length+ys.length<=sizeLine then some (.tup (x::xs++ys),false) else none
 | _,_=>none
noncomputable def z0k:O2
 | .tup [],.tup ys=>some (.tup ys,false)
 | _,_=>none
noncomputable def zvr:O2
 | .str x,.str y=>if x.length+y.length<=sizeLine then some (.str (x++y),false) else none
 | _,_=>none
noncomputable def oRep:O2
 | .lst xs,.int k=>if -(2 ^ 63)<=k/\k < 2 ^ 63/\xs.length * k.toNat<=sizeLine then some (.lst (List.replicate k.toNat xs).flatten,true) else none
 | _,_=>none
section
variable {K:PySem.W.Frag}
theorem zyt:OpS K rCat oCat:=fun F H w1 w2 v1 v2 rv Q s r1 r2 e q=>by
  cases w1 with
  | lst xs =>
    cases w2 with
    | lst ys =>
      unfold oCat at e;simp only at e;split at e
      · rename_i z
        obtain rfl:=sI e;refine aG fun _ qG=>?_;obtain ⟨a,vs,e1,h1,p1⟩:=r1.lst s;obtain ⟨b,us,e2,h2,p2⟩:=r2.lst s;refine qG ?_;clear qG;exact ⟨a,b,vs,us,e1,e2,h1,h2,by rw [<-p1.length,<-p2.length];exact z,fun p hp=>q _ _ (.lst hp (p1.append p2))⟩
      · exact noSome e
    | _=>exact noSome e
  | _=>exact noSome e
theorem zxu:OpS K rRep oRep:=fun F H w1 w2 v1 v2 rv Q s r1 r2 e q=>by
  cases w1 with
  | lst xs =>
    cases w2 with
    | int k =>
      unfold oRep at e;simp only at e;split at e
      · rename_i z
        obtain rfl:=sI e;obtain ⟨a,vs,e1,h1,p1⟩:=r1.lst s;exact ⟨a,k,vs,e1,r2.int,h1,z.1,z.2.1,by rw [<-p1.length];exact z.2.2,fun p hp=>q _ _ (.lst hp (p1.rep _))⟩
      · exact noSome e
    | _=>exact noSome e
  | _=>exact noSome e
theorem zt0:OpS K (z3o K) ztr:=fun F H w1 w2 v1 v2 rv Q s r1 r2 e q=>by
  cases w1 with
  | tup xs =>
    cases xs with
    | nil=>cases w2<;>exact noSome e
    | cons x xs =>
      cases w2 with
      | tup ys =>
        unfold ztr at e;simp only at e;split at e
        · rename_i z
          obtain rfl:=sI e;refine aG fun _ qG=>?_;obtain ⟨a,vs,e1,h1,f1,p1⟩:=r1.tup s;obtain ⟨b,us,e2,h2,f2,p2⟩:=r2.tup s;refine qG ?_;clear qG;refine ⟨a,b,vs,us,e1,e2,.inl (.inl h1),.inl (.inl h2),?_,by rw [<-p1.length,<-p2.length];exact z,fun hu=>?_,fun _ p hp=>q _ _ (.tup hp (p1.append p2))⟩
          · intro e;subst e;cases p1
          · subst hu
            cases p2;rw [List.append_nil] at q;exact q _ _ (.val (.tup f1 p1))
        · exact noSome e
      | _=>exact noSome e
  | _=>exact noSome e
mutual
inductive DV (H:Hp):V->PyData->Prop where
 | non:DV H .non .none
 | bl (b:Bool):DV H (.bl b) (.bool b)
 | int (i:Int):DV H (.int i) (.int i)
 | str (x:Str):DV H (.str x) (.str x)
 | tup {a:Addr}{vs:List V}{ds:List PyData} (h:H a=some (.tup vs)) (r:DVs H vs ds):DV H (.ref a) (.tuple ds)
 | lst {a:Addr}{vs:List V}{ds:List PyData} (h:H a=some (.lst vs)) (r:DVs H vs ds):DV H (.ref a) (.list ds)
inductive DVs (H:Hp):List V->List PyData->Prop where
 | nil:DVs H [] []
 | cons {v:V}{d:PyData}{vs:List V}{ds:List PyData} (h:DV H v d) (r:DVs H vs ds):DVs H (v::vs) (d::ds)
end
section
variable {X:Cx}{pins:List (Addr × Obj)}{σ:St}{H:Hp}{s:Shared}
mutual
theorem DV.reads (I:Inv X pins σ H s):∀{v:V}{d:PyData}{u:Value},DV H v d->RelV v u->∃as,Reads s.heap u d as
  | _,_,_,.non,r=>by cases (show _=Value.none from r);exact ⟨_,.none⟩
  | _,_,_,.bl b,r=>by cases (show _=Value.bool b from r);exact ⟨_,.bool b⟩
  | _,_,_,.int i,r=>by obtain ⟨t,e⟩:=(show ∃t,_=Value.int i t from r);subst e;exact ⟨_,.int i t⟩
  | _,_,_,.str x,r=>by obtain ⟨t,e⟩:=(show ∃t,_=Value.str x t from r);subst e;exact ⟨_,.str x t⟩
  | _,_,_,.tup h q,r=>by
    cases r;obtain ⟨its,rv,⟨o,e,c,n,dt⟩,_⟩:=I.tuple (.inl (.inl h));obtain ⟨as,ra⟩:=DVs.reads I q rv;exact ⟨as,.tuple e c dt (by simpa using ra)⟩
  | _,_,_,.lst h q,r=>by
    cases r;obtain ⟨its,rv,⟨o,n,e,c,_,dt⟩,_⟩:=I.list (SqL.of' h);obtain ⟨as,ra⟩:=DVs.reads I q rv;exact ⟨_,.list e c dt (by simpa using ra)⟩
theorem DVs.reads (I:Inv X pins σ H s):∀{vs:List V}{ds:List PyData}{us:List Value},DVs H vs ds->Vals vs us->∃as,ReadsAll s.heap us ds as
  | _,_,_,.nil,r=>by cases r;exact ⟨_,.nil⟩
  | _,_,_,.cons h q,r=>by
    cases r with
    | cons r1 r2 =>
      obtain ⟨as,a⟩:=DV.reads I h r1;obtain ⟨bs,b⟩:=DVs.reads I q r2;exact ⟨_,.cons a b⟩
end
end
mutual
noncomputable def dW:W->Option PyData
 | .non=>some .none
 | .bl b=>some (.bool b)
 | .int i=>some (.int i)
 | .str x=>some (.str x)
 | .tup ws=>(dWs ws).bind fun ds=>some (.tuple ds)
 | .lst ws=>(dWs ws).bind fun ds=>some (.list ds)
 | _=>none
noncomputable def dWs:List W->Option (List PyData)
 | []=>some []
 | w::ws=>(dW w).bind fun d=>(dWs ws).bind fun ds=>some (d::ds)
end
section
variable {K:PySem.W.Frag}{F H:Hp}
mutual
theorem rep_dv (s:Same F H):∀{w:W}{v:V}{d:PyData},Rep K F w v->dW w=some d->DV H v d
  | _,_,_,.non,e=>by obtain rfl:=sI e;exact .non
  | _,_,_,.bl b,e=>by obtain rfl:=sI e;exact .bl b
  | _,_,_,.int i,e=>by obtain rfl:=sI e;exact .int i
  | _,_,_,.str x,e=>by obtain rfl:=sI e;exact .str x
  | _,_,_,.tup h r,e=>by
    rw [dW] at e;obtain ⟨ds,e1,e2⟩:=bS e;obtain rfl:=sI e2;exact .tup (s _ _ h) (zey s r e1)
  | _,_,_,.lst h r,e=>by
    rw [dW] at e;obtain ⟨ds,e1,e2⟩:=bS e;obtain rfl:=sI e2;exact .lst (s _ _ h) (zey s r e1)
  | _,_,_,.frl _ _,e=>by exact noSome e
  | _,_,_,.dic _,e=>by exact noSome e
  | _,_,_,.dct _ _ _,e=>by exact noSome e
  | _,_,_,.dctT _ _ _,e=>by exact noSome e
  | _,_,_,.dcz _ _ _,e=>by exact noSome e
  | _,_,_,.dczT _ _ _,e=>by exact noSome e
theorem zey (s:Same F H):∀{ws:List W}{vs:List V}{ds:List PyData},Reps K F ws vs->dWs ws=some ds->DVs H vs ds
  | _,_,_,.nil,e=>by cases e;exact .nil
  | _,_,_,.cons h r,e=>by
    rw [dWs] at e;obtain ⟨d,e1,e⟩:=bS e;obtain ⟨ds,e2,e3⟩:=bS e;cases e3;exact .cons (rep_dv s h e1) (zey s r e2)
end
theorem zqe {w:W}{v:V}{d:PyData} (s:Same F H) (r:RepB K F H w v) (hd:dW w=some d):DV H v d:=by
  rcases r with r | ⟨a,o,us,z,rfl,h,q⟩
  · exact rep_dv s r hd
  · subst z
    cases q with
    | dct hl q=>exact noSome hd
    | dctT hl q=>exact noSome hd
    | lst q =>
      rw [dW] at hd;obtain ⟨ds,e1,e2⟩:=bS hd;obtain rfl:=sI e2;exact .lst h (zey s q e1)
end
noncomputable def rEqD (g:Bool->Bool):R2:=fun x y H Q=>∃d d',DV H x d/\DV H y d'/\d.canLay0=true/\d'.canLay0=true/\d.depth<=100/\Q (.bl (g (PyData.eqv d d'))) H
theorem z0y {X:Cx}{k:Nat} (hr:Room k X.A):OpR X (compareOp .Eq) (rEqD id):=by
 intro pins s σ H x y v u Q I rx ry h;refine aG fun _ qG=>?_;obtain ⟨d,d',d1,d2,h1,h2,h3,q⟩:=h;obtain ⟨as,ra⟩:=d1.reads I rx;obtain ⟨bs,rb⟩:=d2.reads I ry;refine qG ?_;clear qG;exact SeqAt.compareEq_reads ra rb h1 h2 (by have:=hr.un;omega) ⟨.bl _,H,I,rfl,q⟩
theorem z1b {X:Cx}{k:Nat} (hr:Room k X.A):OpR X (compareOp .NotEq) (rEqD not):=by
 intro pins s σ H x y v u Q I rx ry h;refine aG fun _ qG=>?_;obtain ⟨d,d',d1,d2,h1,h2,h3,q⟩:=h;obtain ⟨as,ra⟩:=d1.reads I rx;obtain ⟨bs,rb⟩:=d2.reads I ry;refine qG ?_;clear qG;exact SeqAt.neOverData X.prog X.w X.A X.xe s v u d d' as bs _ ra rb h1 h2 (by have:=hr.un;omega) ⟨.bl _,H,I,rfl,q⟩
noncomputable def eqD (a b:W):Option Bool:=(dW a).bind fun d=>(dW b).bind fun d'=>if d.canLay0 && d'.canLay0 && decide (d.depth<=100) then some (PyData.eqv d d') else none
theorem zwk {K:PySem.W.Frag}{F H:Hp}{w1 w2:W}{v1 v2:V}{k:Bool} (s:Same F H) (r1:RepB K F H w1 v1) (r2:RepB K F H w2 v2) (e:eqD w1 w2=some k):∃d d',DV H v1 d/\DV H v2 d'/\d.canLay0=true/\d'.canLay0=true/\d.depth<=100/\k=PyData.eqv d d':=by
 refine aG fun _ qG=>?_;obtain ⟨d,h1,e⟩:=bS e;obtain ⟨d',h2,e⟩:=bS e;refine qG ?_;clear qG;split at e
 ·rename_i z;rw [Bool.and_eq_true,Bool.and_eq_true] at z;obtain rfl:=sI e;exact ⟨d,d',zqe s r1 h1,zqe s r2 h2,z.1.1,z.1.2,of_decide_eq_true z.2,rfl⟩
 ·exact noSome e
noncomputable def zyc:W->W->Option Bool
 | .non,.non=>some true | .non,.int _=>some false | .int _,.non=>some false | .non,.bl _=>some false | .bl _,.non=>some false | .non,.str _=>some false | .str _,.non=>some false
 | .int i,.int j=>some (decide (i=j)) | .bl i,.bl j=>some (decide (i=j)) | .str i,.str j=>some (decide (i=j))
 | .int _,.str _=>some false | .str _,.int _=>some false | .bl _,.str _=>some false | .str _,.bl _=>some false
 | _,_=>none
noncomputable def oEq:O2:=fun a b=>match zyc a b with
 | some k=>some (.bl k,false)
 | none=>(eqD a b).bind fun k=>some (.bl k,false)
noncomputable def oNe:O2:=fun a b=>match zyc a b with
 | some k=>some (.bl (!k),false)
 | none=>(eqD a b).bind fun k=>some (.bl (!k),false)
theorem zmv {F H:Hp}{w1 w2:W}{v1 v2:V}{k:Bool} (r1:RepB K F H w1 v1) (r2:RepB K F H w2 v2) (e:zyc w1 w2=some k):scal v1 v2=true/\decide (v1=v2)=k:=by
  cases w1 with
  | non =>
    have:=r1.non;subst this;cases w2 with
    | non=>have:=r2.non;subst this;obtain rfl:=sI e;exact ⟨rfl,by decide⟩
    | int j=>have:=r2.int;subst this;obtain rfl:=sI e;exact ⟨rfl,by simp⟩
    | bl j=>have:=r2.bl;subst this;obtain rfl:=sI e;exact ⟨rfl,by simp⟩
    | str j=>have:=r2.str;subst this;obtain rfl:=sI e;exact ⟨rfl,by simp⟩
    | _=>exact noSome e
  | int i =>
    have:=r1.int;subst this;cases w2 with
    | non=>have:=r2.non;subst this;obtain rfl:=sI e;exact ⟨rfl,by simp⟩
    | int j=>have:=r2.int;subst this;obtain rfl:=sI e;exact ⟨rfl,by simp⟩
    | str j=>have:=r2.str;subst this;obtain rfl:=sI e;exact ⟨rfl,by simp⟩
    | _=>exact noSome e
  | bl i =>
    have:=r1.bl;subst this;cases w2 with
    | non=>have:=r2.non;subst this;obtain rfl:=sI e;exact ⟨rfl,by simp⟩
    | bl j=>have:=r2.bl;subst this;obtain rfl:=sI e;exact ⟨rfl,by simp⟩
    | str j=>have:=r2.str;subst this;obtain rfl:=sI e;exact ⟨rfl,by simp⟩
    | _=>exact noSome e
  | str i =>
    have:=r1.str;subst this;cases w2 with
    | non=>have:=r2.non;subst this;obtain rfl:=sI e;exact ⟨rfl,by simp⟩
    | int j=>have:=r2.int;subst this;obtain rfl:=sI e;exact ⟨rfl,by simp⟩
    | bl j=>have:=r2.bl;subst this;obtain rfl:=sI e;exact ⟨rfl,by simp⟩
    | str j=>have:=r2.str;subst this;obtain rfl:=sI e;exact ⟨rfl,by simp⟩
    | _=>exact noSome e
  | _=>cases w2<;>exact noSome e
theorem z0o:OpS K (fun x y H Q=>rEq x y H Q\/rEqD id x y H Q) oEq:=fun F H w1 w2 v1 v2 rv Q s r1 r2 e q=>by
 unfold oEq at e;split at e
 ·rename_i k hk;obtain rfl:=sI e;obtain ⟨h1,h2⟩:=zmv r1 r2 hk;refine .inl ⟨h1,?_⟩;rw [h2];exact q _ _ (.val (.bl k))
 ·obtain ⟨k, hk, e⟩ := bS e;obtain rfl:=sI e;refine aG fun _ qG=>?_;obtain ⟨d,d',d1,d2,h1,h2,h3,rfl⟩:=zwk s r1 r2 hk;refine qG ?_;clear qG;exact .inr ⟨d,d',d1,d2,h1,h2,h3,q _ _ (.val (.bl _))⟩
theorem z23:OpS K (fun x y H Q=>rNe x y H Q\/rEqD not x y H Q) oNe:=fun F H w1 w2 v1 v2 rv Q s r1 r2 e q=>by
 unfold oNe at e;split at e
 ·rename_i k hk;obtain rfl:=sI e;obtain ⟨h1,h2⟩:=zmv r1 r2 hk;refine .inl ⟨h1,?_⟩;rw [h2];exact q _ _ (.val (.bl _))
 ·obtain ⟨k, hk, e⟩ := bS e;obtain rfl:=sI e;refine aG fun _ qG=>?_;obtain ⟨d,d',d1,d2,h1,h2,h3,rfl⟩:=zwk s r1 r2 hk;refine qG ?_;clear qG;exact .inr ⟨d,d',d1,d2,h1,h2,h3,q _ _ (.val (.bl _))⟩
noncomputable def isW:W->W->Option Bool
 | .non,.non=>some true
 | _,.non=>some false
 | .bl a,.bl b=>some (decide (a=b))
 | _,.bl _=>some false
 | _,_=>none
noncomputable def oIs:O2:=fun a b=>(isW a b).bind fun k=>some (.bl k,false)
noncomputable def oIx:O2
 | a,.int i=>(seqW a).bind fun ws=>(atI ws i).bind fun w=>some (w,false)
 | _,_=>none
theorem zvz {F:Hp}{ws:List W}{vs:List V}{i:Int}{w:W} (r:Reps K F ws vs) (h:atI ws i=some w):∃v,atI vs i=some v/\Rep K F w v:=by
 unfold atI at h ⊢;rw [<-r.length];obtain ⟨j,h1,h2⟩:=bS h;obtain ⟨v,h3,h4⟩:=r.get h2;exact ⟨v,by rw [h1];exact h3,h4⟩
noncomputable def rIxB (K:PySem.W.Frag):R2:=fun x y H Q=>rIxL K x y H Q\/rIxT K x y H Q
theorem z19:OpS K (rIxB K) oIx:=fun F H w1 w2 v1 v2 rv Q s r1 r2 e q=>by
  cases w2 with
  | int i =>
    obtain ⟨ws,hs,e⟩:=bS (show (seqW w1).bind _=_ from e);obtain ⟨w,hw,e⟩:=bS e;obtain rfl:=sI e;obtain ⟨a,vs,e1,hq,p⟩:=r1.seqW s hs;obtain ⟨v,hv,rv⟩:=zvz p hw;rcases hq with hq | hq
    · exact .inl ⟨a,vs,i,v,e1,r2.int,hq,hv,q _ _ (.val rv)⟩
    · exact .inr ⟨a,vs,i,v,e1,r2.int,hq,hv,q _ _ (.val rv)⟩
  | _=>cases w1<;>exact noSome e
noncomputable def oNeg:W->Option (W × Bool)
 | .int i=>some (.int (-i),false)
 | _=>none
theorem zyj:OpS1 K (rU fun i=>.int (-i)) oNeg:=fun F H w v rv Q s r e q=>by
 cases w with
 | int i=>obtain rfl:=sI e;exact ⟨i,r.int,q _ _ (.val (.int _))⟩
 | _=>exact noSome e
end
end L2
namespace L2
open PySem PySem.Spec PyProof.Rows
theorem znq:∀(ns:List Int) (k:Nat),k<=ns.length->preSum (fun i=>ns.getD i 0) k=(ns.take k).sum
  | ns,0,_=>rfl
  | ns,k+1,h=>by
    have ih:=znq ns k (by omega);show preSum (fun i=>ns.getD i 0) k+ns.getD k 0=_;rw [ih,List.take_succ,List.sum_append];have hk:k < ns.length:=by omega
    rw [List.getElem?_eq_getElem hk,List.getD_eq_getElem?_getD,List.getElem?_eq_getElem hk];simp
section
variable {X:Cx}
theorem zrt {ns:List Int}{its:List Value}{i:Nat}{v:Value} (r:Vals (ns.map V.int) its) (h:its[i]?=some v):∃t,v=.int (ns.getD i 0) t:=by
 have hl:=r.length;rw [List.length_map] at hl;have hi:i < ns.length:=by rw [hl];exact (List.getElem?_eq_some_iff.mp h).1
 obtain ⟨u,hu,ru⟩:=r.get (i:=i) (x:=.int ns[i]) (by rw [List.getElem?_map,List.getElem?_eq_getElem hi];rfl);rw [h] at hu;obtain rfl:=sI hu;obtain ⟨t,e⟩:=ru;exact ⟨t,by rw [e,List.getD_eq_getElem?_getD,List.getElem?_eq_getElem hi];rfl⟩
noncomputable def mx1 (n:Int) (r:List Int):Int:=r.foldl (fun b x=>if x > b then x else b) n
theorem zpu (n:Int) (r:List Int):∀k,k<=r.length->(n::r).getD (argBest (fun i j=>decide ((n::r).getD i 0 > (n::r).getD j 0)) k) 0=mx1 n (r.take k)
  | 0,_=>rfl
  | k+1,h=>by
    have ih:=zpu n r k (by omega);have hk:k < r.length:=by omega
    have g:(n::r).getD (k+1) 0=r[k]:=by rw [List.getD_cons_succ,List.getD_eq_getElem?_getD,List.getElem?_eq_getElem hk];rfl
    have t:mx1 n (r.take (k+1))=if r[k] > mx1 n (r.take k) then r[k] else mx1 n (r.take k):=by
      unfold mx1;rw [List.take_succ,List.getElem?_eq_getElem hk,List.foldl_append];rfl
    rw [t];show (n::r).getD (if decide ((n::r).getD (k+1) 0 > (n::r).getD (argBest (fun i j=>decide ((n::r).getD i 0 > (n::r).getD j 0)) k) 0)=true then k+1 else argBest _ k) 0=_;rw [ih,g];by_cases c:r[k] > mx1 n (r.take k)
    · rw [decide_eq_true c,if_pos rfl,if_pos c,g]
    · rw [decide_eq_false c,if_neg Bool.false_ne_true,if_neg c,ih]
theorem zqw (hc:X.calm=true):zbu X (.builtin "max") (fun xs H Q=>(∃i j,xs=[.int i,.int j]/\Q (.int (if j > i then j else i)) H)\/∃(a:Addr) (n:Int) (r:List Int),xs=[.ref a]/\SqL X.K H a ((n::r).map V.int)/\Q (.int (mx1 n r)) H):=by
 intro pins s σ H xs us Q I r h;rcases h with h | h
 ·exact zr7 hc pins s σ H xs us Q I r h
 obtain ⟨a,n,ns,rfl,hq,q⟩:=h;obtain ⟨u,rfl,rx⟩:=vals1 r;cases rx;obtain ⟨its,rv,p,hz⟩:=I.list hq;have hl:=rv.length;rw [List.length_map] at hl;have ha:a < s.heap.objs.size:=by obtain ⟨o,e,_⟩:=p.isList;exact Heap.lt_size e
 have iv:∀(i:Nat) (v:Value),its.toArray[i]?=some v->∃t,v=Value.int ((n::ns).getD i 0) t:=fun i v e=>zrt rv (by simpa using e);refine call_max_walk (wpAny_pyIter_list p.isList ?_);refine ⟨s.heap.objs.size,_,[s.heap.objs.size],its.toArray.size,_,_,_,rfl,Walks.list (A:=X.A.in1) (show X.A.in1.handled=none from I.ok.hd hc) _ a (Nat.ne_of_lt ha) its.toArray,⟨⟨_,Heap.get?_push_size _ rfl,rfl,rfl⟩,p.isList.push _⟩,fun b hb=>?_,by rw [List.size_toArray,<-hl];exact Nat.succ_pos _,CmpOf.ints_gt _ iv,fun v h' tk hv hk=>?_⟩
 ·rw [Heap.size_push];simp only [List.mem_cons,List.not_mem_nil,or_false] at hb;rcases hb with rfl | rfl
  ·exact Nat.lt_succ_self _
  ·exact Nat.lt_succ_of_lt ha
 ·obtain ⟨t, rfl⟩ := iv _ _ hv;have e:its.toArray.size - 1=ns.length:=by rw [List.size_toArray,<-hl];rfl
  refine ⟨.int _,H,I.kept fun b o hb=>hk b o (fun z=>by rw [List.mem_singleton] at z;subst z;exact absurd (Heap.lt_size hb) (Nat.lt_irrefl _)) (Heap.get?_push_of_some _ hb),⟨_,rfl⟩,?_⟩;rw [e,zpu n ns ns.length (Nat.le_refl _),List.take_length];exact q
noncomputable def mn1 (n:Int) (r:List Int):Int:=r.foldl (fun b x=>if x < b then x else b) n
theorem zq9 (n:Int) (r:List Int):∀k,k<=r.length->(n::r).getD (argBest (fun i j=>decide ((n::r).getD i 0 < (n::r).getD j 0)) k) 0=mn1 n (r.take k)
  | 0,_=>rfl
  | k+1,h=>by
    have ih:=zq9 n r k (by omega);have hk:k < r.length:=by omega
    have g:(n::r).getD (k+1) 0=r[k]:=by rw [List.getD_cons_succ,List.getD_eq_getElem?_getD,List.getElem?_eq_getElem hk];rfl
    have t:mn1 n (r.take (k+1))=if r[k] < mn1 n (r.take k) then r[k] else mn1 n (r.take k):=by
      unfold mn1;rw [List.take_succ,List.getElem?_eq_getElem hk,List.foldl_append];rfl
    rw [t];show (n::r).getD (if decide ((n::r).getD (k+1) 0 < (n::r).getD (argBest (fun i j=>decide ((n::r).getD i 0 < (n::r).getD j 0)) k) 0)=true then k+1 else argBest _ k) 0=_;rw [ih,g];by_cases c:r[k] < mn1 n (r.take k)
    · rw [decide_eq_true c,if_pos rfl,if_pos c,g]
    · rw [decide_eq_false c,if_neg Bool.false_ne_true,if_neg c,ih]
theorem zr9 (hc:X.calm=true):zbu X (.builtin "min") (fun xs H Q=>(∃i j,xs=[.int i,.int j]/\Q (.int (if j < i then j else i)) H)\/∃(a:Addr) (n:Int) (r:List Int),xs=[.ref a]/\SqL X.K H a ((n::r).map V.int)/\Q (.int (mn1 n r)) H):=by
 intro pins s σ H xs us Q I r h;rcases h with h | h
 ·exact zrw hc pins s σ H xs us Q I r h
 obtain ⟨a,n,ns,rfl,hq,q⟩:=h;obtain ⟨u,rfl,rx⟩:=vals1 r;cases rx;obtain ⟨its,rv,p,hz⟩:=I.list hq;have hl:=rv.length;rw [List.length_map] at hl;have ha:a < s.heap.objs.size:=by obtain ⟨o,e,_⟩:=p.isList;exact Heap.lt_size e
 have iv:∀(i:Nat) (v:Value),its.toArray[i]?=some v->∃t,v=Value.int ((n::ns).getD i 0) t:=fun i v e=>zrt rv (by simpa using e);refine call_min_walk (wpAny_pyIter_list p.isList ?_);refine ⟨s.heap.objs.size,_,[s.heap.objs.size],its.toArray.size,_,_,_,rfl,Walks.list (A:=X.A.in1) (show X.A.in1.handled=none from I.ok.hd hc) _ a (Nat.ne_of_lt ha) its.toArray,⟨⟨_,Heap.get?_push_size _ rfl,rfl,rfl⟩,p.isList.push _⟩,fun b hb=>?_,by rw [List.size_toArray,<-hl];exact Nat.succ_pos _,CmpOf.ints_lt _ iv,fun v h' tk hv hk=>?_⟩
 ·rw [Heap.size_push];simp only [List.mem_cons,List.not_mem_nil,or_false] at hb;rcases hb with rfl | rfl
  ·exact Nat.lt_succ_self _
  ·exact Nat.lt_succ_of_lt ha
 ·obtain ⟨t, rfl⟩ := iv _ _ hv;have e:its.toArray.size - 1=ns.length:=by rw [List.size_toArray,<-hl];rfl
  refine ⟨.int _,H,I.kept fun b o hb=>hk b o (fun z=>by rw [List.mem_singleton] at z;subst z;exact absurd (Heap.lt_size hb) (Nat.lt_irrefl _)) (Heap.get?_push_of_some _ hb),⟨_,rfl⟩,?_⟩;rw [e,zq9 n ns ns.length (Nat.le_refl _),List.take_length];exact q
theorem zxm:OpR X (binaryOp .Add) (fun x y H Q=>∃a b ys,x=.ref a/\y=.ref b/\SqT X.K H a []/\SqT X.K H b ys/\Q (.ref b) H):=by
 intro pins s σ H x y v u Q I rx ry h;refine aG fun _ qG=>?_;obtain ⟨a,b,ys,rfl,rfl,ha,hb,q⟩:=h;refine qG ?_;clear qG;cases rx;cases ry;refine aG fun _ qG=>?_;obtain ⟨its,r1,p1,_⟩:=I.tuple ha;obtain ⟨its2,r2,p2,_⟩:=I.tuple hb;obtain ⟨⟨c1,d1,t1,l1⟩,g1,k1,n1,q1⟩:=id p1;obtain ⟨⟨c2,d2,t2,l2⟩,g2,k2,n2,q2⟩:=id p2;refine qG ?_;clear qG;simp only at k1 q1 k2 q2;subst k1 q1 k2 q2;have e0:its=[]:=by cases r1;rfl
 subst e0;exact concat_meets (T := "tuple") ⟨_,g1,rfl⟩ ⟨_,g2,rfl⟩ noFill_tuple_add seq_tuple_add PySem.F.slot_tuple_add PySem.F.entry_tuple_add (PySem.F.args_tuple_add_2 _ _)
  (tuple_addW0 a b _ _ n1 n2 d1 d2 l1 l2 rfl) ⟨g1,g2,⟨.ref b,H,I.tok _,rfl,q⟩⟩
theorem zvx:OpR X (binaryOp .FloorDiv) (rI (fun _ j=>0 < j/\j.natAbs.log2 < 9000) fun i j=>.int (i / j)):=opI fun i j _ _ _ _ _ hc q=>by
 have h1:(0:Int) < j:=hc.1;exact floordiv_int (by omega) (by rw [Int.fdiv_eq_ediv_of_nonneg i (by omega)];exact q) (.inl (PyProof.noPylong_of_log2 hc.2))
end
section
variable {K:PySem.W.Frag}
noncomputable def z46 (K:PySem.W.Frag):R2:=fun x y H Q=>∃a b ys,x=.ref a/\y=.ref b/\SqT K H a []/\SqT K H b ys/\Q (.ref b) H
theorem zuj:OpS K (z46 K) z0k:=fun F H w1 w2 v1 v2 rv Q s r1 r2 e q=>by
  cases w1 with
  | tup xs =>
    cases xs with
    | cons _ _=>cases w2<;>exact noSome e
    | nil =>
      cases w2 with
      | tup ys =>
        obtain rfl:=sI e;refine aG fun _ qG=>?_;obtain ⟨a,vs,e1,h1,f1,p1⟩:=r1.tup s;obtain ⟨b,us,e2,h2,f2,p2⟩:=r2.tup s;refine qG ?_;clear qG;cases p1;subst e2;exact ⟨a,b,us,e1,rfl,.inl (.inl h1),.inl (.inl h2),q _ _ (.val (.tup f2 p2))⟩
      | _=>exact noSome e
  | _=>exact noSome e
noncomputable def z4l:R2:=fun x y H Q=>∃i j,x=.str i/\y=.str j/\i.length+j.length<=sizeLine/\Q (.str (i++j)) H
theorem ztp:OpS K z4l zvr:=fun F H w1 w2 v1 v2 rv Q s r1 r2 e q=>by
  cases w1 with
  | str x =>
    cases w2 with
    | str y =>
      unfold zvr at e;simp only at e;split at e
      · rename_i z;obtain rfl:=sI e;exact ⟨x,y,r1.str,r2.str,z,q _ _ (.val (.str _))⟩
      · exact noSome e
    | _=>exact noSome e
  | _=>exact noSome e
noncomputable abbrev ON:=List W->Option (W × Bool)
noncomputable def oLen:ON
 | [w]=>(seqW w).bind fun ws=>some (.int ws.length,false)
 | _=>none
theorem oLen_ok:OpSN K (fun xs H Q=>∃p ys,xs=[.ref p]/\(SqL K H p ys\/SqT K H p ys)/\Q (.int ys.length) H) oLen:=fun F H ws vs rv Q s r e q=>by
  cases r with
  | nil=>exact noSome e
  | cons h r =>
    cases r with
    | cons _ _=>exact noSome e
    | nil =>
      obtain ⟨ws,hs,e⟩:=bS (show (seqW _).bind _=_ from e);obtain rfl:=sI e;obtain ⟨a,vs,e1,hq,p⟩:=h.seqW s hs;subst e1;exact ⟨a,vs,rfl,hq,by rw [<-p.length];exact q _ _ (.val (.int _))⟩
noncomputable def oAbs:ON
 | [.int i]=>some (.int (if i < 0 then -i else i),false)
 | _=>none
theorem RepBs.one {F H:Hp}{w:W}{vs:List V} (r:RepBs K F H [w] vs):∃v,vs=[v]/\RepB K F H w v:=by
 cases r with
 | cons h r=>cases r;exact ⟨_,rfl,h⟩
theorem RepBs.two {F H:Hp}{w u:W}{vs:List V} (r:RepBs K F H [w,u] vs):∃v z,vs=[v,z]/\RepB K F H w v/\RepB K F H u z:=by
 cases r with
 | cons h r=>obtain ⟨z,e,h2⟩:=r.one;subst e;exact ⟨_,z,rfl,h,h2⟩
theorem zxi:OpSN K (fun xs H Q=>∃i,xs=[.int i]/\Q (.int (if i < 0 then -i else i)) H) oAbs:=fun F H ws vs rv Q s r e q=>by
  match ws,e with
  | [.int i],e =>
    obtain rfl:=sI e;obtain ⟨v,e1,h⟩:=r.one;subst e1;exact ⟨i,by rw [h.int],q _ _ (.val (.int _))⟩
noncomputable def oInt:ON
 | [.int i]=>some (.int i,false)
 | [.bl k]=>some (.int (if k then 1 else 0),false)
 | _=>none
theorem zzq:OpSN K (fun xs H Q=>(∃i,xs=[.int i]/\Q (.int i) H)\/∃k,xs=[.bl k]/\Q (.int (if k then 1 else 0)) H) oInt:=fun F H ws vs rv Q s r e q=>by
  match ws,e with
  | [.int i],e =>
    obtain rfl:=sI e;obtain ⟨v,e1,h⟩:=r.one;subst e1;exact .inl ⟨i,by rw [h.int],q _ _ (.val (.int _))⟩
  | [.bl k],e =>
    obtain rfl:=sI e;obtain ⟨v,e1,h⟩:=r.one;subst e1;exact .inr ⟨k,by rw [h.bl],q _ _ (.val (.int _))⟩
noncomputable def ze0:ON
 | [.tup ws]=>some (.tup ws,false)
 | [w]=>(seqL w).bind fun ws=>some (.tup ws,false)
 | _=>none
theorem zo4:OpSN K (fun xs H Q=>∃p ys,xs=[.ref p]/\((SqL K H p ys/\∀l,H l=none->Q (.ref l) (upd H l (.tup ys)))\/(SqT K H p ys/\Q (.ref p) H))) ze0:=fun F H ws vs rv Q s r e q=>by
  match ws,e with
  | [.tup ws],e =>
    obtain rfl:=sI e;refine aG fun _ qG=>?_;obtain ⟨v,e1,h⟩:=r.one;obtain ⟨a,us,e2,hq,f,p⟩:=h.tup s;refine qG ?_;clear qG;subst e1 e2;exact ⟨a,us,rfl,.inr ⟨.inl (.inl hq),q _ _ (.val (.tup f p))⟩⟩
  | [.lst ws],e =>
    obtain rfl:=sI e;refine aG fun _ qG=>?_;obtain ⟨v,e1,h⟩:=r.one;obtain ⟨a,us,e2,hq,p⟩:=h.lst s;refine qG ?_;clear qG;subst e1 e2;exact ⟨a,us,rfl,.inl ⟨SqL.of' hq,fun l hl=>q _ _ (.tup hl p)⟩⟩
  | [.frl ws],e =>
    obtain rfl:=sI e;refine aG fun _ qG=>?_;obtain ⟨v,e1,h⟩:=r.one;obtain ⟨a,us,e2,hq,p⟩:=h.frl s;refine qG ?_;clear qG;subst e1 e2;exact ⟨a,us,rfl,.inl ⟨hq,fun l hl=>q _ _ (.tup hl p)⟩⟩
  | [.non],e=>exact noSome e
  | [.bl _],e=>exact noSome e
  | [.int _],e=>exact noSome e
  | [.str _],e=>exact noSome e
  | [.dic],e=>exact noSome e
  | [.dct _ _],e=>exact noSome e
  | [.dcz _ _],e=>exact noSome e
noncomputable def zky:List W->Option (List Bool)
 | []=>some []
 | .bl b::ws=>(zky ws).bind fun bs=>some (b::bs)
 | _=>none
noncomputable def zc5:List W->Option (List Int)
 | []=>some []
 | .int b::ws=>(zc5 ws).bind fun bs=>some (b::bs)
 | _=>none
theorem zmg:∀{ws:List W}{bs:List Bool},zky ws=some bs->ws=bs.map W.bl
  | [],_,e=>by obtain rfl:=sI e;rfl
  | .bl b::ws,_,e=>by
    obtain ⟨bs,h,e⟩:=bS (show (zky ws).bind _=_ from e);obtain rfl:=sI e;rw [zmg h];rfl
  | .non::_,_,e=>by exact noSome e
  | .int _::_,_,e=>by exact noSome e
  | .str _::_,_,e=>by exact noSome e
  | .tup _::_,_,e=>by exact noSome e
  | .lst _::_,_,e=>by exact noSome e
  | .frl _::_,_,e=>by exact noSome e
theorem zdo:∀{ws:List W}{bs:List Int},zc5 ws=some bs->ws=bs.map W.int
  | [],_,e=>by obtain rfl:=sI e;rfl
  | .int b::ws,_,e=>by
    obtain ⟨bs,h,e⟩:=bS (show (zc5 ws).bind _=_ from e);obtain rfl:=sI e;rw [zdo h];rfl
  | .non::_,_,e=>by exact noSome e
  | .bl _::_,_,e=>by exact noSome e
  | .str _::_,_,e=>by exact noSome e
  | .tup _::_,_,e=>by exact noSome e
  | .lst _::_,_,e=>by exact noSome e
  | .frl _::_,_,e=>by exact noSome e
theorem zga:∀(ns:List Int),zc5 (ns.map W.int)=some ns
 | []=>rfl
 | n::ns=>by show (zc5 (ns.map W.int)).bind _=_;rw [zga ns];rfl
theorem zit:∀(ns:List Bool),zky (ns.map W.bl)=some ns
 | []=>rfl
 | n::ns=>by show (zky (ns.map W.bl)).bind _=_;rw [zit ns];rfl
noncomputable def oBl (f:List Bool->Bool):ON
 | [w]=>(seqL w).bind fun ws=>(zky ws).bind fun bs=>some (.bl (f bs),false)
 | _=>none
theorem zwj {f:List Bool->Bool}:OpSN K (fun xs H Q=>∃(a:Addr) (bs:List Bool),xs=[.ref a]/\SqL K H a (bs.map V.bl)/\Q (.bl (f bs)) H) (oBl f):=fun F H ws vs rv Q s r e q=>by
  match ws,e with
  | [w],e =>
    refine aG fun _ qG=>?_;obtain ⟨ws,hs,e⟩:=bS (show (seqL _).bind _=_ from e);obtain ⟨bs,hb,e⟩:=bS e;refine qG ?_;clear qG;obtain rfl:=sI e;refine aG fun _ qG=>?_;obtain ⟨v,e1,h⟩:=r.one;obtain ⟨a,us,e2,hq,p⟩:=h.seqL s hs;refine qG ?_;clear qG;subst e1 e2;rw [zmg hb] at p;rw [p.bls] at hq;exact ⟨a,bs,rfl,hq,q _ _ (.val (.bl _))⟩
noncomputable def mnW (w:W):Option (W × Bool):=(seqL w).bind fun ws=>(zc5 ws).bind fun ns=>match ns with
 | n::r=>some (.int (mn1 n r),false)
 | []=>none
noncomputable def oMin:ON
 | [.int i,.int j]=>some (.int (if j < i then j else i),false)
 | [w]=>mnW w
 | _=>none
noncomputable def mxW (w:W):Option (W × Bool):=(seqL w).bind fun ws=>(zc5 ws).bind fun ns=>match ns with
 | n::r=>some (.int (mx1 n r),false)
 | []=>none
noncomputable def mx2:W->W->Option (W × Bool)
 | .int i,.int j=>some (.int (if j > i then j else i),false)
 | _,_=>none
noncomputable def oMax:ON
 | [w]=>mxW w
 | [a,b]=>mx2 a b
 | _=>none
theorem zyf:OpSN K (fun xs H Q=>(∃i j,xs=[.int i,.int j]/\Q (.int (if j < i then j else i)) H)\/∃(a:Addr) (n:Int) (r:List Int),xs=[.ref a]/\SqL K H a ((n::r).map V.int)/\Q (.int (mn1 n r)) H) oMin:=fun F H ws vs rv Q s r e q=>by
  unfold oMin at e;split at e
  · obtain rfl := sI e
    obtain ⟨v,z,e1,h1,h2⟩:=r.two;subst e1;exact .inl ⟨_,_,by rw [h1.int,h2.int],q _ _ (.val (.int _))⟩
  · rename_i w
    refine aG fun _ qG=>?_;obtain ⟨ws,hs,e⟩:=bS (show (seqL w).bind _=some rv from e);obtain ⟨ns,hb,e⟩:=bS e;obtain ⟨v,e1,h⟩:=r.one;obtain ⟨a,us,e2,hq,p⟩:=h.seqL s hs;refine qG ?_;clear qG;subst e1 e2;rw [zdo hb] at p;rw [p.ints] at hq;cases ns with
    | nil=>exact noSome e
    | cons n ns =>
      obtain rfl:=sI e;exact .inr ⟨a,n,ns,rfl,hq,q _ _ (.val (.int _))⟩
  · exact noSome e
theorem zyn:OpSN K (fun xs H Q=>(∃i j,xs=[.int i,.int j]/\Q (.int (if j > i then j else i)) H)\/∃(a:Addr) (n:Int) (r:List Int),xs=[.ref a]/\SqL K H a ((n::r).map V.int)/\Q (.int (mx1 n r)) H) oMax:=fun F H ws vs rv Q s r e q=>by
  match ws,e with
  | [x,y],e =>
    have e:mx2 x y=some rv:=e;unfold mx2 at e;split at e
    · obtain rfl := sI e
      refine aG fun _ qG=>?_;obtain ⟨v,z,e1,h1,h2⟩:=r.two;refine qG ?_;clear qG;subst e1;exact .inl ⟨_,_,by rw [h1.int,h2.int],q _ _ (.val (.int _))⟩
    · exact noSome e
  | [w],e =>
    refine aG fun _ qG=>?_;obtain ⟨ws,hs,e⟩:=bS (show (seqL w).bind _=some rv from e);obtain ⟨ns,hb,e⟩:=bS e;obtain ⟨v,e1,h⟩:=r.one;obtain ⟨a,us,e2,hq,p⟩:=h.seqL s hs;refine qG ?_;clear qG;subst e1 e2;rw [zdo hb] at p;rw [p.ints] at hq;cases ns with
    | nil=>exact noSome e
    | cons n ns =>
      obtain rfl:=sI e;exact .inr ⟨a,n,ns,rfl,hq,q _ _ (.val (.int _))⟩
noncomputable def tyW:W->Option String
 | .non=>some "NoneType"
 | .bl _=>some "bool"
 | .int _=>some "int"
 | .str _=>some "str"
 | .tup _=>some "tuple"
 | .lst _=>some "list"
 | .frl _=>none
 | .dic=>none
 | .dct _ _=>none
 | .dcz _ _=>none
inductive Kd where
 | int | bool | str | tuple | list
 deriving DecidableEq
noncomputable def Kd.nm:Kd->String
 | .int => "int" | .bool => "bool" | .str => "str" | .tuple => "tuple" | .list => "list"
noncomputable def isiW (k:Kd):W->Option Bool
 | .non=>some false
 | .bl _=>some (k == .bool || k == .int)
 | .int _=>some (k == .int)
 | .str _=>some (k == .str)
 | .tup _=>some (k == .tuple)
 | .lst _=>some (k == .list)
 | .frl _=>none
 | .dic=>some false
 | .dct _ _=>some false
 | .dcz _ _=>none
noncomputable def oIsi (k:Kd) (w:W):Option (W × Bool):=(isiW k w).bind fun b=>some (.bl b,false)
theorem zzr {F H:Hp}{w:W}{v:V}{k:Kd}{b:Bool} (s:Same F H) (r:RepB K F H w v) (e:isiW k w=some b):∃t,TyOf K H v t/\PySem.W.kitOne K t (.type k.nm)=some b:=by
  cases w with
  | non=>rw [r.non];obtain rfl:=sI e;exact ⟨_,.non,by cases k<;>(with_unfolding_all rfl)⟩
  | bl x=>rw [r.bl];obtain rfl:=sI e;exact ⟨_,.bl x,by cases k<;>(with_unfolding_all rfl)⟩
  | int x=>rw [r.int];obtain rfl:=sI e;exact ⟨_,.int x,by cases k<;>(with_unfolding_all rfl)⟩
  | str x=>rw [r.str];obtain rfl:=sI e;exact ⟨_,.str x,by cases k<;>(with_unfolding_all rfl)⟩
  | tup x=>obtain ⟨a,vs,e1,h,_⟩:=r.tup s;subst e1;obtain rfl:=sI e;exact ⟨_,.tup h,by cases k<;>(with_unfolding_all rfl)⟩
  | lst x=>obtain ⟨a,vs,e1,h,_⟩:=r.lst s;subst e1;obtain rfl:=sI e;exact ⟨_,.lst h,by cases k<;>(with_unfolding_all rfl)⟩
  | frl x=>exact noSome e
  | dic =>
    rcases r with r | ⟨_,_,_,z,_,_,q⟩
    · cases r with
      | dic h=>obtain rfl:=sI e;exact ⟨_,.dK (s _ _ h),by cases k<;>(with_unfolding_all rfl)⟩
    · subst z;cases q
  | dct ks ws =>
    obtain rfl:=sI e;rcases r with r | ⟨_,_,_,z,e1,h,q⟩
    · cases r with
      | dct h _ _=>exact ⟨_,.dK (s _ _ h),by cases k<;>(with_unfolding_all rfl)⟩
      | dctT h _ _=>exact ⟨_,.dT (s _ _ h),by cases k<;>(with_unfolding_all rfl)⟩
    · subst z e1
      cases q with
      | dct _ _=>exact ⟨_,.dK h,by cases k<;>(with_unfolding_all rfl)⟩
      | dctT _ _=>exact ⟨_,.dT h,by cases k<;>(with_unfolding_all rfl)⟩
  | dcz ks ws=>exact noSome e
noncomputable def rIsi (K:PySem.W.Frag):List V->Hp->VK->Prop:=fun xs H Q=>∃x t c b,xs=[x,.ty c]/\TyOf K H x t/\PySem.W.kitOne K t (.type c)=some b/\Q (.bl b) H
theorem zs8 {k:Kd}{a:GA}{σ:St}{H:Hp}{Q:VK} (h:tE K (gOp1 (oIsi k) a) σ H Q):tCB (rIsi K) (zcp (tA K a) (zcp (tC (.ty k.nm)) tNil)) σ H Q:=by
 refine aG fun _ qG=>?_;obtain ⟨F,pr,en,en',rv,R,h,q⟩:=h;obtain ⟨⟨e1,x1⟩,h1,h⟩:=bS h;obtain ⟨w1,hw1,h⟩:=bS h;obtain ⟨r',hr,h⟩:=bS h;obtain ⟨b,hb,hr⟩:=bS hr;refine qG ?_;clear qG;obtain rfl:=sI hr;cases h;refine ⟨F,pr,en,e1,x1,R,h1,fun F1 H1 v1 s1 R1 a1=>?_⟩;obtain ⟨t,ty,ek⟩:=zzr R1.sub (a1.repB R1 hw1) hb;exact ⟨v1,t,_,b,rfl,ty,ek,q F1 H1 _ s1 R1 (.bl b)⟩
noncomputable abbrev GO:=En->Option (En × Option Int)
noncomputable def zbp:GO:=fun en=>some (en,none)
noncomputable def zdr (g:GE):GO:=fun en=>match g en with
 | some (en',(.int i,_))=>some (en',some i)
 | _=>none
noncomputable def tO (K:PySem.W.Frag) (g:GO):TO:=fun σ H Q=>∃F pr en en' o,Rel K F pr en σ H/\g en=some (en',o)/\∀F' H',Same F F'->Rel K F' pr en' σ H'->Q o H'
theorem Res.isInt {F H:Hp}{pr:Prt}{en:En}{σ:St}{i:Int}{fl:Bool}{v:V} (h:Res K F H pr en σ (.int i,fl) v):v=.int i:=by
 cases fl with
 | false=>cases (show Rep K F (.int i) v from h);rfl
 | true=>obtain ⟨_,_,_,e,_,_,_,q,_⟩:=h;subst e;cases q
theorem zkz {σ:St}{H:Hp}{Q:Option Int->Hp->Prop} (h:tO K zbp σ H Q):zo8 σ H Q:=by
 obtain ⟨F,pr,en,en',o,R,h,q⟩:=h;cases h;exact q F H (.refl F) R
theorem ziq {g:GE}{σ:St}{H:Hp}{Q:Option Int->Hp->Prop} (h:tO K (zdr g) σ H Q):z13 (tE K g) σ H Q:=by
  refine aG fun _ qG=>?_;obtain ⟨F,pr,en,en',o,R,h,q⟩:=h;refine qG ?_;clear qG;unfold zdr at h;cases e:g en with
  | none=>simp only [e] at h;exact noSome h
  | some p =>
    obtain ⟨e1,w,fl⟩:=p;cases w with
    | int c=>simp only [e] at h;cases h;exact ⟨F,pr,en,_,_,R,e,fun F' H' v s' R' z=>⟨c,z.isInt,q F' H' s' R'⟩⟩
    | _=>simp only [e] at h;exact noSome h
open HT in
theorem zno {prog:Program}{w:World}{A:Around}{E:Value->Shared->Prop}{s:Shared}{t sl:Addr}{items:Array Value}{vl vu:Value}{lo hi:Option Int}{Q:Value->Shared->Prop} (ht:IsTup s.heap t items) (hs:s.heap.IsSliceOf sl vl vu .none) (pl:IsPart vl lo) (pu:IsPart vu hi)
  (h0:sIx items.size 0 lo=0) (h1:sIx items.size items.size hi=items.size) (h:Q (.ref t) s):wpAny (model prog w) A (getItem (.ref t) (.ref sl)) Q E s:=by
 obtain ⟨os,g1,g2,_⟩:=id hs;have ty:s.TypeIs (.ref sl) "slice" := ⟨os,g1,g2⟩;unfold getItem
 try with_reducible refine wpAny_holding ?_
 first | refine wpAny_bind (wpAny_pure ?_) | skip
 refine wpAny_bind (wpAny_sequenceKey ht.typeIs (by decide) ?_);refine wpAny_bind (wpAny_callSpecial?_slot (name:=Str.ofString "__getitem__") ht.typeIs PyProof.Rows.slot_tuple_getitem (wpAny_call_entry PyProof.Rows.slot_tuple_getitem ht.typeIs entry_tuple_getitem ?_ (args_tuple_getitem _ _)));show wpAny _ _ (Builtin.Tuple.tupleItemsOf (.ref t) >>= _) _ _ s;refine wpAny_bind (tupleItemsOf_ ht ?_);refine wpAny_bind (wpAny_typeOf ty ?_);rw [if_pos (by decide)];refine wpAny_bind (zch hs pl pu ?_);rw [h0,h1];show wpAny _ _ (if ((((0:Nat):Int) == 0 && (1:Int) == 1 && (items.size - 0) == items.size)=true) then _ else _) _ _ s;rw [if_pos (by simp)];unfold Builtin.Tuple.tupleIsExact;refine wpAny_bind (wpAny_bind (wpAny_typeOf ht.typeIs (wpAny_pure ?_)));rw [if_pos (by decide)];refine wpAny_bind (wpAny_rule (wpAny_pure ⟨_,rfl,?_⟩));exact wpAny_pure h
noncomputable def rSlW (K:PySem.W.Frag):V->Option Int->Option Int->Hp->VK->Prop:=fun x lo hi H Q=>∃a xs,x=.ref a/\SqT K H a xs/\HT.sIx xs.length 0 lo=0/\HT.sIx xs.length xs.length hi=xs.length/\Q x H
theorem zz5 {X:Cx}:SlR X (rSlW X.K):=by
 intro pins s σ H x v vl vu lo hi sl Q I rx hs pl pu h;refine aG fun _ qG=>?_;obtain ⟨a,xs,rfl,hx,h0,h1,q⟩:=h;refine qG ?_;clear qG;cases rx;refine aG fun _ qG=>?_;obtain ⟨its,r,ht,hz⟩:=I.tuple hx;refine qG ?_;clear qG;have hlen:its.toArray.size=xs.length:=by rw [List.size_toArray];exact r.length.symm
 exact ⟨"tuple",_,PyProof.Rows.slot_tuple_getitem.lookup,ht.typeIs,zno ht hs pl pu (by rw [hlen];exact h0) (by rw [hlen];exact h1) ⟨.ref a,H,I,rfl,q⟩⟩
noncomputable def cutW (xs:List W) (lo hi:Option Int):List W:=(xs.drop (HT.sIx xs.length 0 lo)).take (HT.sIx xs.length xs.length hi - HT.sIx xs.length 0 lo)
noncomputable def oSl (w:W) (lo hi:Option Int):Option (W × Bool):=match w with
 | .lst ws=>some (.lst (cutW ws lo hi),true)
 | .frl ws=>some (.lst (cutW ws lo hi),true)
 | .tup ws=>some (.tup (cutW ws lo hi),false)
 | _=>none
noncomputable def rSlB (K:PySem.W.Frag):V->Option Int->Option Int->Hp->VK->Prop:=fun x lo hi H Q=>(rSlL K x lo hi H Q\/rSlT K x lo hi H Q)\/rSlW K x lo hi H Q
theorem z1g {F H:Hp}{w:W}{v:V}{lo hi:Option Int}{rv:W × Bool}{Q:VK} (s:Same F H) (r:RepB K F H w v) (e:oSl w lo hi=some rv) (q:∀u H',Out K F H rv u H'->Q u H'):rSlB K v lo hi H Q:=by
  have cut:∀{ws:List W}{vs:List V},Reps K F ws vs->Reps K F (cutW ws lo hi) (cutV vs lo hi):=fun {ws vs} p=>by
    unfold cutW cutV;rw [<-p.length];exact (p.drop _).take _
  cases w with
  | lst ws=>obtain rfl:=sI e;obtain ⟨a,vs,e1,h,p⟩:=r.lst s;exact .inl (.inl ⟨a,vs,e1,SqL.of' h,fun l hl=>q _ _ (.lst hl (cut p))⟩)
  | frl ws=>obtain rfl:=sI e;obtain ⟨a,vs,e1,h,p⟩:=r.frl s;exact .inl (.inl ⟨a,vs,e1,h,fun l hl=>q _ _ (.lst hl (cut p))⟩)
  | tup ws =>
    obtain rfl:=sI e;obtain ⟨a,vs,e1,h,hf,p⟩:=r.tup s;by_cases y:HT.sIx vs.length 0 lo=0/\HT.sIx vs.length vs.length hi=vs.length
    · refine .inr ⟨a, vs, e1, .inl (.inl h), y.1, y.2, ?_⟩
      have ew:cutW ws lo hi=ws:=by
        unfold cutW;rw [p.length,y.1,y.2,List.drop_zero,Nat.sub_zero,<-p.length,List.take_length]
      rw [ew] at q;subst e1;exact q _ _ (.val (.tup hf p))
    · exact .inl (.inr ⟨a,vs,e1,.inl (.inl h),y,fun l hl=>q _ _ (.tup hl (cut p))⟩)
  | _=>exact noSome e
noncomputable def gSl (a:GA) (lo hi:GO):GE:=fun en=>(a en).bind fun p=>(lo p.1).bind fun l=>(hi l.1).bind fun h=>(resA h.1 p.2).bind fun w=>(oSl w l.2 h.2).bind fun r=>some (h.1,r)
theorem zza {a:GA}{lo hi:GO}{σ:St}{H:Hp}{Q:VK} (h:tE K (gSl a lo hi) σ H Q):tSl (rSlB K) (tA K a) (tO K lo) (tO K hi) σ H Q:=by
 refine aG fun _ qG=>?_;obtain ⟨F,pr,en,en',rv,R,h,q⟩:=h;obtain ⟨⟨e1,x1⟩,h1,h⟩:=bS h;obtain ⟨⟨e2,l⟩,h2,h⟩:=bS h;obtain ⟨⟨e3,u⟩,h3,h⟩:=bS h;obtain ⟨w1,hw1,h⟩:=bS h;obtain ⟨r',hr,h⟩:=bS h;refine qG ?_;clear qG;cases h;refine ⟨F,pr,en,e1,x1,R,h1,fun F1 H1 v1 s1 R1 a1=>⟨F1,pr,e1,e2,l,R1,h2,fun F2 H2 s2 R2=>⟨F2,pr,e2,e3,u,R2,h3,fun F3 H3 s3 R3=>?_⟩⟩⟩;refine z1g R3.sub ((a1.mono (s2.trans s3)).repB R3 hw1) hr fun v H' z=>?_;refine aG fun _ qG=>?_;obtain ⟨F4,s4,R4,y⟩:=z.close R3;refine qG ?_;clear qG;exact q F4 H' v (s1.trans (s2.trans (s3.trans s4))) R4 y
end
end L2
namespace L2
open PySem PySem.Spec PyProof.Rows
structure ItOk (K:PySem.W.Frag) (F:Hp) (J:It) (ws:List W):Prop where
 go:∀i H,Same F H->i < ws.length->J.go i H
 stop:∀H,Same F H->J.stop ws.length H
 yld:∀i H x H',Same F H->i < ws.length->J.yld i H x H'->∃w,ws[i]?=some w/\Out K F H (w,false) x H'
noncomputable def tI (K:PySem.W.Frag) (g:GL):TI:=fun σ H R=>∃F pr en en' ws,Rel K F pr en σ H/\g en=some (en',ws)/\∀F' H' J,Same F F'->Rel K F' pr en' σ H'->ItOk K F' J ws->R J H'
section
variable {K:PySem.W.Frag}{F H:Hp}
theorem zao {F F' : Hp}{a:Addr}{vs:List V} (s:Same F F') (h:SqT K F a vs):SqT K F' a vs:=by
 rcases h with (h | ⟨o,h⟩) | h
 ·exact .inl (.inl (s _ _ h))
 ·exact .inl (.inr ⟨o,s _ _ h⟩)
 ·exact .inr h
theorem zhn {a:Addr}{vs:List V}{ws:List W} (h:SqL K F a vs) (r:Reps K F ws vs):ItOk K F (Itl K a) ws where
 go:=fun i H s hi=>⟨vs,vs[i]'(by rw [<-r.length];exact hi),s.seq h,by rw [List.getElem?_eq_getElem]⟩
 stop:=fun H s=>⟨vs,s.seq h,by rw [r.length];exact Nat.le_refl _⟩
 yld:=fun i H x H' s hi y=>by
  obtain ⟨e,y⟩:=y;subst e;obtain ⟨w,e,q⟩:=r.getV (y vs (s.seq h));exact ⟨w,e,.val q⟩
theorem zwg {a:Addr}{vs:List V}{ws:List W} (h:SqT K F a vs) (r:Reps K F ws vs):ItOk K F (Itt K a) ws where
 go:=fun i H s hi=>⟨vs,vs[i]'(by rw [<-r.length];exact hi),zao s h,by rw [List.getElem?_eq_getElem]⟩
 stop:=fun H s=>⟨vs,zao s h,by rw [r.length];exact Nat.le_refl _⟩
 yld:=fun i H x H' s hi y=>by
  obtain ⟨e,y⟩:=y;subst e;obtain ⟨w,e,q⟩:=r.getV (y vs (zao s h));exact ⟨w,e,.val q⟩
noncomputable def rngW (lo:Int) (n:Nat):List W:=(List.range n).map fun k=>W.int (lo+(k:Nat))
theorem zvu (lo:Int) (n:Nat):ItOk K F (Itr lo n) (rngW lo n) where
 go:=fun i H s hi=>by unfold rngW at hi;rw [List.length_map,List.length_range] at hi;exact hi
 stop:=fun H s=>by unfold rngW;rw [List.length_map,List.length_range];exact Nat.le_refl n
 yld:=fun i H x H' s hi y=>by
  obtain ⟨e,y⟩:=y;subst e y;unfold rngW at hi ⊢;rw [List.length_map,List.length_range] at hi;exact ⟨_,by rw [List.getElem?_map,List.getElem?_range hi];rfl,.val (.int _)⟩
noncomputable def zei (ws:List W) (k:Nat):List W:=match ws with
 | []=>[]
 | w::ws=>.tup [.int k,w]::zei ws (k+1)
theorem za8:∀(ws:List W) (k:Nat),(zei ws k).length=ws.length
 | [],_=>rfl
 | _::ws,k=>congrArg (· + 1) (za8 ws (k+1))
theorem zcn:∀{ws:List W}{k i:Nat}{w:W},ws[i]?=some w->(zei ws k)[i]?=some (.tup [.int (k+i:Nat),w])
  | [],_,_,_,e=>by simp at e
  | w::ws,k,0,_,e=>by simp at e;subst e;rfl
  | w::ws,k,i+1,u,e=>by
    have:=zcn (ws:=ws) (k:=k+1) (i:=i) (w:=u) (by simpa using e);show (zei ws (k+1))[i]?=_;rw [this];have:k+1+i=k+(i+1):=by omega
    rw [this]
theorem zyi {a:Addr}{vs:List V}{ws:List W} (h:SqL K F a vs) (r:Reps K F ws vs):ItOk K F (Ite K a) (zei ws 0) where
 go:=fun i H s hi=>by rw [za8] at hi;exact ⟨vs,vs[i]'(by rw [<-r.length];exact hi),s.seq h,by rw [List.getElem?_eq_getElem]⟩
 stop:=fun H s=>⟨vs,s.seq h,by rw [za8,r.length];exact Nat.le_refl _⟩
 yld:=fun i H x H' s hi y=>by
  refine aG fun _ qG=>?_;obtain ⟨p,v,e,hp,e2,y⟩:=y;refine qG ?_;clear qG;subst e e2;obtain ⟨w,e,q⟩:=r.getV (y vs (s.seq h));refine ⟨_,zcn e,?_⟩;rw [Nat.zero_add];exact .tup hp (.cons (.int _) (.cons q .nil))
theorem z1p {a:Addr}{vs:List V}{ws:List W} (h:SqL K F a vs) (r:Reps K F ws vs):ItOk K F (Itv K a vs.length) ws.reverse where
 go:=fun i H s hi=>by rw [List.length_reverse,r.length] at hi;exact ⟨hi,vs,s.seq h,rfl⟩
 stop:=fun H s=>by rw [List.length_reverse,r.length];rfl
 yld:=fun i H x H' s hi y=>by
  obtain ⟨e,y⟩:=y;subst e;obtain ⟨w,e,q⟩:=r.getV (y vs (s.seq h));refine ⟨w,?_,.val q⟩;rw [List.length_reverse] at hi;rw [List.getElem?_reverse hi,r.length];exact e
end
section
variable {X:Cx}{tg:Expr}
noncomputable def iSeq (K:PySem.W.Frag) (tl:TE):TI:=fun σ H R=>tl σ H fun x H1=>∃a,x=.ref a/\((∃xs,SqL K H1 a xs)/\R (Itl K a) H1\/(∃xs,SqT K H1 a xs)/\R (Itt K a) H1)
theorem zww {l:Expr}{tl:TE} (hl:PE X l tl):PI X tg l (iSeq X.K tl):=fun pins s σ H R I h =>
 thn (hl pins s σ H _ I h) fun v s1 ⟨x,H1,I1,r1,a,e,q1⟩=>by
  subst e;cases r1;have fp:∀b∈[s1.heap.objs.size],FpOk X pins H1 b:=fun b hb=>by
   rw [List.mem_singleton] at hb;subst hb;exact I1.fpOk (Nat.le_refl _) (I1.hok.fresh (Nat.le_refl _))
  rcases q1 with ⟨⟨xs,hq⟩,q⟩ | ⟨⟨xs,hq⟩,q⟩
  ·obtain ⟨its, _, p, _⟩ := I1.list hq;exact wpAny_pyIter_list p.isList ⟨_,_,_,_,H1,rfl,I1.kept (t':=s1.toks) fun b o e=>Heap.get?_push_of_some _ e,zi5 a _,⟨_,Heap.get?_push_size _ rfl,rfl,rfl⟩,fp,q⟩
  ·obtain ⟨its, _, p, _⟩ := I1.tuple hq;exact wpAny_pyIter_tuple (show s1.heap.IsTuple a its.toArray from p) ⟨_,_,_,_,H1,rfl,I1.kept (t':=s1.toks) fun b o e=>Heap.get?_push_of_some _ e,zf2 a _,⟨_,Heap.get?_push_size _ rfl,rfl,rfl⟩,fp,q⟩
end
noncomputable def zda (g:GE):GL:=fun en=>(g en).bind fun p=>(seqW p.2.1).bind fun ws=>some (p.1,ws)
noncomputable def zdq (i:Int):Bool:=decide (-(2 ^ 62)<=i) && decide (i < 2 ^ 62)
noncomputable def zc7 (as:GAs):GL:=fun en=>(as en).bind fun p=>match zat p.1 p.2 with
 | some [.int j]=>if zdq j then some (p.1,rngW 0 j.toNat) else none
 | _=>none
noncomputable def z4h (as:GAs):GL:=fun en=>(as en).bind fun p=>match zat p.1 p.2 with
 | some [.int i,.int j]=>if zdq i && zdq j then some (p.1,rngW i (j - i).toNat) else none
 | _=>none
noncomputable def gRev (g:GE):GL:=fun en=>(g en).bind fun p=>(seqL p.2.1).bind fun ws=>some (p.1,ws.reverse)
theorem zmy {i:Int} (h:zdq i=true):-(2 ^ 62)<=i/\i < 2 ^ 62:=by
 unfold zdq at h;rw [Bool.and_eq_true] at h;exact ⟨of_decide_eq_true h.1,of_decide_eq_true h.2⟩
section
variable {K:PySem.W.Frag}{σ:St}{H:Hp}
theorem zji {g:GE}{R:It->Hp->Prop} (h:tI K (zda g) σ H R):iSeq K (tE K g) σ H R:=by
  refine aG fun _ qG=>?_;obtain ⟨F,pr,en,en',ws,Re,h,q⟩:=h;obtain ⟨⟨e1,rv⟩,h1,h⟩:=bS h;obtain ⟨us,hs,h⟩:=bS h;refine qG ?_;clear qG;cases h;refine ⟨F,pr,en,e1,rv,Re,h1,fun F1 H1 v s1 R1 z=>?_⟩;refine aG fun _ qG=>?_;obtain ⟨F2,s2,R2,y⟩:=z.freeze R1;obtain ⟨w,fl⟩:=rv;refine qG ?_;clear qG;cases w with
  | lst xs=>obtain rfl:=sI hs;cases y with
    | lst y r=>exact ⟨_,rfl,.inl ⟨⟨_,SqL.of' (R2.sub _ _ y)⟩,q F2 H1 _ (s1.trans s2) R2 (zhn (SqL.of' y) r)⟩⟩
  | frl xs=>obtain rfl:=sI hs;cases y with
    | frl y r=>exact ⟨_,rfl,.inl ⟨⟨_,R2.sub.seq y⟩,q F2 H1 _ (s1.trans s2) R2 (zhn y r)⟩⟩
  | tup xs=>obtain rfl:=sI hs;cases y with
    | tup y r=>exact ⟨_,rfl,.inr ⟨⟨_,.inl (.inl (R2.sub _ _ y))⟩,q F2 H1 _ (s1.trans s2) R2 (zwg (.inl (.inl y)) r)⟩⟩
  | _=>cases hs
theorem zrn {as:GAs}{R:It->Hp->Prop} (h:tI K (zc7 as) σ H R):z2t (tAs K as) σ H R:=by
  refine aG fun _ qG=>?_;obtain ⟨F,pr,en,en',ws,Re,h,q⟩:=h;obtain ⟨⟨e1,xs⟩,h1,h⟩:=bS h;refine qG ?_;clear qG;refine ⟨F,pr,en,e1,xs,Re,h1,fun F1 H1 vs s1 R1 a1=>?_⟩;cases e:zat e1 xs with
  | none=>simp only [e] at h;exact noSome h
  | some us =>
    have rr:=a1.repBs R1 e
    match us,e,rr with
    | [.int j],e,rr =>
      simp only [e] at h;split at h
      · rename_i z
        cases h;obtain ⟨v,e1,hv⟩:=rr.one;subst e1;exact ⟨j,by rw [hv.int],(zmy z).1,(zmy z).2,q F1 H1 _ s1 R1 (zvu 0 j.toNat)⟩
      · exact noSome h
    | [],e,_=>simp only [e] at h;exact noSome h
    | .non::_,e,_=>simp only [e] at h;exact noSome h
    | .bl _::_,e,_=>simp only [e] at h;exact noSome h
    | .str _::_,e,_=>simp only [e] at h;exact noSome h
    | .tup _::_,e,_=>simp only [e] at h;exact noSome h
    | .lst _::_,e,_=>simp only [e] at h;exact noSome h
    | .frl _::_,e,_=>simp only [e] at h;exact noSome h
    | .dic::_,e,_=>simp only [e] at h;exact noSome h
    | .dct _ _::_,e,_=>simp only [e] at h;exact noSome h
    | .dcz _ _::_,e,_=>simp only [e] at h;exact noSome h
    | .int _::_::_,e,_=>simp only [e] at h;exact noSome h
theorem zkj {F:Hp}{w:W}{ws:List W}{v:V} (y:Rep K F w v) (hs:seqL w=some ws):∃a vs,v=.ref a/\SqL K F a vs/\Reps K F ws vs:=by
  cases w with
  | lst xs=>obtain rfl:=sI hs;cases y with
    | lst y r=>exact ⟨_,_,rfl,SqL.of' y,r⟩
  | frl xs=>obtain rfl:=sI hs;cases y with
    | frl y r=>exact ⟨_,_,rfl,y,r⟩
  | _=>cases hs
theorem ztd {g:GE}{R:It->Hp->Prop} (h:tI K (gRev g) σ H R):iRev K (zcp (tE K g) tNil) σ H R:=by
 refine aG fun _ qG=>?_;obtain ⟨F,pr,en,en',ws,Re,h,q⟩:=h;obtain ⟨⟨e1,rv⟩,h1,h⟩:=bS h;obtain ⟨us,hs,h⟩:=bS h;refine qG ?_;clear qG;cases h;refine ⟨F,pr,en,e1,rv,Re,h1,fun F1 H1 v s1 R1 z=>?_⟩;refine aG fun _ qG=>?_;obtain ⟨F2,s2,R2,y⟩:=z.freeze R1;obtain ⟨a,vs,e,hq,r⟩:=zkj y hs;refine qG ?_;clear qG;subst e;exact ⟨a,vs,rfl,R2.sub.seq hq,q F2 H1 _ (s1.trans s2) R2 (z1p hq r)⟩
end
inductive Tg where
 | nm (i:Nat)
 | tp (is:List Nat)
 | nt (i:Nat) (js:List Nat)
noncomputable def setAll (mp:List Nat):List Nat->List W->En->Option En
 | [],[],en=>some en
 | i::is,w::ws,en=>if mp.contains i || !decide (i < en.length) then none else setAll mp is ws (en.set i (some (w,false)))
 | _,_,_=>none
noncomputable def tgSet (mp:List Nat):Tg->W->En->Option En
 | .nm i,w,en=>if mp.contains i || !decide (i < en.length) then none else some (en.set i (some (w,false)))
 | .tp is,.tup ws,en=>setAll mp is ws en
 | .tp is,.lst ws,en=>setAll mp is ws en
 | .nt i js,.tup [w,.tup ws],en=>if mp.contains i || !decide (i < en.length) then none else setAll mp js ws (en.set i (some (w,false)))
 | _,_,_=>none
noncomputable def zf5:List Nat->TGs
 | []=>gNil
 | i::is=>zva (zlk i) (zf5 is)
noncomputable def zq5 (K:PySem.W.Frag) (n:Nat) (t:TGs):TG:=fun v σ H Q=>∃a xs,v=.ref a/\(SqT K H a xs\/SqL K H a xs)/\xs.length=n/\t xs σ H Q
theorem zxf {X:Cx}{es:List Expr}{k:Nat}{t:TGs}{n:Nat}{pos:Pos} (hc:X.calm=true) (h:PGs X es t) (hn:(assignEach es X.env).length=n) (hst:(assignEach es X.env).findIdx? (·.1)=none):PG X (.Tuple es k pos) (zq5 X.K n t):=by
 intro pins s σ H v u Q I r hw;refine aG fun _ qG=>?_;obtain ⟨a,xs,e1,hq,hl,hw⟩:=hw;refine qG ?_;clear qG;rcases hq with hq | hq
 ·exact z25 hc h hn hst pins s σ H v u Q I r ⟨a,xs,e1,hq,hl,hw⟩
 ·subst e1;cases r;refine aG fun _ qG=>?_;obtain ⟨its,rv,⟨o,m,q1,q2,_,q3⟩,hz⟩:=I.list hq;refine qG ?_;clear qG;rw [assign_Tuple];refine wpAny_bind (wpAny_standAt ?_);unfold unpack;have hs:(assignEach es X.env).length=its.toArray.size:=by rw [List.size_toArray,hn,<-hl,rv.length]
  rw [hs,hst];refine wpAny_bind (wpAny_holding (PySem.W.kun_itemsOf (I.ok.hd hc) ⟨o,q1,q2,m,q3⟩ fun h' hx=>?_));have I1:Inv X pins σ H { s with heap:=h' }:=I.kept (t':=s.toks) fun b o e=>hx b o (Nat.ne_of_lt (Heap.lt_size e)) e;exact h pins _ σ H xs _ Q I1 (by simpa using rv) hw
noncomputable def TGof (K:PySem.W.Frag):Tg->TG
 | .nm i=>zlk i
 | .tp is=>zq5 K is.length (zf5 is)
 | .nt i js=>zq5 K 2 (zva (zlk i) (zva (zq5 K js.length (zf5 js)) gNil))
noncomputable def Keep (mp:List Nat) (σ σ' : St):Prop:=∀i∈mp,σ'[i]?=σ[i]?
theorem Keep.refl (mp:List Nat) (σ:St):Keep mp σ σ:=fun _ _=>rfl
theorem Keep.trans {mp:List Nat}{σ σ1 σ2:St} (a:Keep mp σ σ1) (b:Keep mp σ1 σ2):Keep mp σ σ2:=fun i h=>(b i h).trans (a i h)
theorem Keep.set {mp:List Nat}{σ:St}{i:Nat} (h:mp.contains i=false) (v:Option V):Keep mp σ (σ.set i v):=fun j hj=>by
 have:i≠j:=fun e=>by subst e;rw [List.contains_iff_mem.mpr hj] at h;cases h
 exact List.getElem?_set_ne this
section
variable {K:PySem.W.Frag}{F H:Hp}{pr:Prt}
theorem zdb {mp:List Nat}{Q:St->Hp->Prop}:∀{is:List Nat}{ws:List W}{vs:List V}{en en' : En}{σ:St},Rel K F pr en σ H->Reps K F ws vs->setAll mp is ws en=some en'->(∀σ',Rel K F pr en' σ' H->Keep mp σ σ'->Q σ' H)->zf5 is vs σ H Q
  | [],[],_,en,en',σ,R,.nil,h,q=>by obtain rfl:=sI h;exact ⟨rfl,q σ R (.refl _ _)⟩
  | i::is,w::ws,_,en,en',σ,R,.cons (v:=v) (vs:=vs) h0 r,h,q=>by
    unfold setAll at h;split at h
    · exact noSome h
    · rename_i z
      rw [Bool.or_eq_true,not_or,Bool.not_eq_true,Bool.not_eq_true,Bool.not_eq_false'] at z;refine ⟨v,vs,rfl,?_⟩;exact zdb (R.store (r:=(w,false)) (i:=i) h0 (of_decide_eq_true z.2)) r h fun σ' R' k=>q σ' R' ((Keep.set z.1 _).trans k)
  | [],_::_,_,_,_,_,_,_,h,_=>by exact noSome h
  | _::_,[],_,_,_,_,_,_,h,_=>by exact noSome h
theorem zpc {mp:List Nat}:∀(is:List Nat) (ws:List W) (en en' : En),setAll mp is ws en=some en'->is.length=ws.length:=by
  intro is
  induction is with
  | nil=>intro ws en en' h;cases ws with
    | nil=>rfl
    | cons _ _=>exact noSome h
  | cons i is ih=>intro ws en en' h;cases ws with
    | nil=>exact noSome h
    | cons w ws =>
      unfold setAll at h;split at h
      · exact noSome h
      · exact congrArg (· + 1) (ih _ _ _ h)
theorem zoq {mp is:List Nat}{ws:List W}{v:V}{en en' : En}{σ:St}{Q:St->Hp->Prop} (R:Rel K F pr en σ H) (h0:Rep K F (.tup ws) v) (h:setAll mp is ws en=some en') (q:∀σ',Rel K F pr en' σ' H->Keep mp σ σ'->Q σ' H):zq5 K is.length (zf5 is) v σ H Q:=by
 cases h0 with
 | tup hf r=>exact ⟨_,_,rfl,.inl (.inl (.inl (R.sub _ _ hf))),by rw [zpc is ws en en' h,r.length],zdb R r h q⟩
theorem zrd {mp:List Nat}{T:Tg}{w:W}{v:V}{en en' : En}{σ:St}{Q:St->Hp->Prop} (R:Rel K F pr en σ H) (h0:Rep K F w v) (h:tgSet mp T w en=some en') (q:∀σ',Rel K F pr en' σ' H->Keep mp σ σ'->Q σ' H):TGof K T v σ H Q:=by
  cases T with
  | nm i =>
    unfold tgSet at h;simp only at h;split at h
    · exact noSome h
    · rename_i z
      rw [Bool.or_eq_true,not_or,Bool.not_eq_true,Bool.not_eq_true,Bool.not_eq_false'] at z;obtain rfl:=sI h;exact q _ (R.store (r:=(w,false)) h0 (of_decide_eq_true z.2)) (Keep.set z.1 _)
  | tp is =>
    cases w with
    | tup ws=>exact zoq R h0 h q
    | lst ws =>
      cases h0 with
      | lst hf r =>
        exact ⟨_,_,rfl,.inr (SqL.of' (R.sub _ _ hf)),by rw [zpc is ws en en' h,r.length],zdb R r h q⟩
    | _=>exact noSome h
  | nt i js =>
    unfold tgSet at h;split at h
    · rename_i e;cases e
    · rename_i e;cases e
    · rename_i e;cases e
    · rename_i i2 js2 u us e3
      cases e3;cases h0 with
      | tup hf r =>
        cases r with
        | cons r1 r =>
          cases r with
          | cons r2 r =>
            cases r;split at h
            · exact noSome h
            · rename_i z
              rw [Bool.or_eq_true,not_or,Bool.not_eq_true,Bool.not_eq_true,Bool.not_eq_false'] at z;exact ⟨_,_,rfl,.inl (.inl (.inl (R.sub _ _ hf))),rfl,_,_,rfl,_,_,rfl,zoq (R.store (r:=(u,false)) (i:=i) r1 (of_decide_eq_true z.2)) r2 h fun σ' R' k=>⟨rfl,q σ' R' ((Keep.set z.1 _).trans k)⟩⟩
    · exact noSome h
end
inductive Fl where
 | nx | ret (r:W × Bool) | brk | cnt
noncomputable abbrev GS:=En->Option (En × Fl)
noncomputable def zup (K:PySem.W.Frag) (mp:List Nat) (F:Hp) (pr:Prt) (σ:St) (D:Ends) (en' : En):Fl->Prop
 | .nx=>∀F' σ' H',Same F F'->Rel K F' pr en' σ' H'->Keep mp σ σ'->D.nx σ' H'
 | .brk=>∀F' σ' H',Same F F'->Rel K F' pr en' σ' H'->Keep mp σ σ'->D.bk σ' H'
 | .cnt=>∀F' σ' H',Same F F'->Rel K F' pr en' σ' H'->Keep mp σ σ'->D.ct σ' H'
 | .ret r=>∀F' σ' H' v,Same F F'->Rel K F' pr en' σ' H'->Keep mp σ σ'->Res K F' H' pr en' σ' r v->D.rt v H'
noncomputable def tS (K:PySem.W.Frag) (mp:List Nat) (g:GS):TS:=fun D σ H=>∃F pr en en' fl,Rel K F pr en σ H/\g en=some (en',fl)/\zup K mp F pr σ D en' fl
theorem zup.step {K:PySem.W.Frag}{mp:List Nat}{F F1:Hp}{pr:Prt}{σ σ1:St}{D:Ends}{en' : En}{fl:Fl} (s:Same F F1) (k:Keep mp σ σ1) (h:zup K mp F pr σ D en' fl):zup K mp F1 pr σ1 D en' fl:=by
 cases fl with
 | nx=>exact fun F' σ' H' s' R' k'=>h F' σ' H' (s.trans s') R' (k.trans k')
 | brk=>exact fun F' σ' H' s' R' k'=>h F' σ' H' (s.trans s') R' (k.trans k')
 | cnt=>exact fun F' σ' H' s' R' k'=>h F' σ' H' (s.trans s') R' (k.trans k')
 | ret r=>exact fun F' σ' H' v s' R' k' z=>h F' σ' H' v (s.trans s') R' (k.trans k') z
noncomputable def zci:GS:=fun en=>some (en,.nx)
noncomputable def gBrk:GS:=fun en=>some (en,.brk)
noncomputable def gCnt:GS:=fun en=>some (en,.cnt)
noncomputable def gSeq (a b:GS):GS:=fun en=>match a en with
 | some (en',.nx)=>b en'
 | some (en',f)=>some (en',f)
 | none=>none
noncomputable def gRet (g:GE):GS:=fun en=>(g en).bind fun p=>some (p.1,.ret p.2)
noncomputable def z42:GS:=fun en=>some (en,.ret (.non,false))
noncomputable def gIfS (c:GT) (a b:GS):GS:=fun en=>match c en with
 | some (en',true)=>a en'
 | some (en',false)=>b en'
 | none=>none
noncomputable def ze7 (g:GE):GS:=fun en=>(g en).bind fun p=>some (p.1,.nx)
noncomputable def gSet (mp:List Nat) (i:Nat) (g:GE):GS:=fun en=>(g en).bind fun p=>if mp.contains i || !decide (i < p.1.length) then none else some (p.1.set i (some p.2),.nx)
noncomputable def gAsg (mp:List Nat) (T:Tg) (g:GE):GS:=fun en=>(g en).bind fun p=>(tgSet mp T p.2.1 p.1).bind fun e=>some (e,.nx)
section
variable {K:PySem.W.Frag}{mp:List Nat}{D:Ends}{σ:St}{H:Hp}
theorem zjy (h:tS K mp zci D σ H):zzf D σ H:=by
 obtain ⟨F,pr,en,en',fl,R,h,q⟩:=h;cases h;exact q F σ H (.refl F) R (.refl _ _)
theorem zu7 {a b:GS} (h:tS K mp (gSeq a b) D σ H):tSeq (tS K mp a) (tS K mp b) D σ H:=by
  refine aG fun _ qG=>?_;obtain ⟨F,pr,en,en',fl,R,h,q⟩:=h;refine qG ?_;clear qG;unfold gSeq at h;cases e:a en with
  | none=>simp only [e] at h;exact noSome h
  | some p =>
    obtain ⟨e1,f1⟩:=p;refine ⟨F,pr,en,e1,f1,R,e,?_⟩;cases f1 with
    | nx =>
      simp only [e] at h;exact fun F1 σ1 H1 s1 R1 k1=>⟨F1,pr,e1,en',fl,R1,h,q.step s1 k1⟩
    | brk=>simp only [e] at h;cases h;exact q
    | cnt=>simp only [e] at h;cases h;exact q
    | ret r=>simp only [e] at h;cases h;exact q
theorem zm2 {g:GE} (h:tS K mp (gRet g) D σ H):tRet (tE K g) D σ H:=by
 refine aG fun _ qG=>?_;obtain ⟨F,pr,en,en',fl,R,h,q⟩:=h;obtain ⟨⟨e1,r⟩,h1,h⟩:=bS h;refine qG ?_;clear qG;cases h;exact ⟨F,pr,en,e1,r,R,h1,fun F' H' v s' R' z=>q F' σ H' v s' R' (.refl _ _) z⟩
theorem zty {c:GT}{a b:GS} (h:tS K mp (gIfS c a b) D σ H):tIfS (tT K c) (tS K mp a) (tS K mp b) D σ H:=by
  refine aG fun _ qG=>?_;obtain ⟨F,pr,en,en',fl,R,h,q⟩:=h;refine qG ?_;clear qG;unfold gIfS at h;cases e:c en with
  | none=>simp only [e] at h;exact noSome h
  | some p =>
    obtain ⟨e1,d⟩:=p;refine ⟨F,pr,en,e1,d,R,e,fun F1 H1 s1 R1=>?_⟩;cases d with
    | true=>simp only [e] at h;exact iteT ⟨F1,pr,e1,en',fl,R1,h,q.step s1 (.refl _ _)⟩
    | false=>simp only [e] at h;exact iteF ⟨F1,pr,e1,en',fl,R1,h,q.step s1 (.refl _ _)⟩
theorem zrh {g:GE} (h:tS K mp (ze7 g) D σ H):z0t (tE K g) D σ H:=by
 refine aG fun _ qG=>?_;obtain ⟨F,pr,en,en',fl,R,h,q⟩:=h;obtain ⟨⟨e1,r⟩,h1,h⟩:=bS h;refine qG ?_;clear qG;cases h;exact ⟨F,pr,en,e1,r,R,h1,fun F' H' v s' R' z=>q F' σ H' s' R' (.refl _ _)⟩
theorem zg8 {i:Nat}{g:GE} (h:tS K mp (gSet mp i g) D σ H):tAsg (tE K g) (zlk i) D σ H:=by
 refine aG fun _ qG=>?_;obtain ⟨F,pr,en,en',fl,R,h,q⟩:=h;obtain ⟨⟨e1,r⟩,h1,h⟩:=bS h;refine qG ?_;clear qG;split at h
 ·exact noSome h
 ·rename_i z;rw [Bool.or_eq_true,not_or,Bool.not_eq_true,Bool.not_eq_true,Bool.not_eq_false'] at z;cases h;exact ⟨F,pr,en,e1,r,R,h1,fun F' H' v s' R' y=>q F' _ H' s' (R'.store y (of_decide_eq_true z.2)) (Keep.set z.1 _)⟩
noncomputable def gPar (mp:List Nat) (i j:Nat) (a b:GE):GS:=fun en=>(a en).bind fun p=>(b p.1).bind fun q=>if mp.contains i || mp.contains j || !decide (i < q.1.length) || !decide (j < q.1.length) then none else some ((q.1.set i (some (p.2.1,false))).set j (some q.2),.nx)
noncomputable def zay (i:Nat) (k:GE) (g:GE):GS:=fun en=>(g en).bind fun p=>match p.1[i]? with
  | some (some _)=>(k p.1).bind fun q=>match q.2,q.1[i]? with
    | (.int n,_),some (some (.lst ws,true))=>(ixN ws.length n).bind fun j=>some (q.1.set i (some (.lst (ws.set j p.2.1),true)),.nx)
    | _,_=>none
  | _=>none
theorem zok {i:Nat}{k g:GE} (h:tS K mp (zay i k g) D σ H):tAsg (tE K g) (gSub (tVar i) (tE K k) z1f) D σ H:=by
 obtain ⟨F,pr,en,en',fl,R,h,q⟩:=h;obtain ⟨⟨e1,r1⟩,h1,h⟩:=bS h;refine ⟨F,pr,en,e1,r1,R,h1,fun F1 H1 v1 s1 R1 y1=>?_⟩;obtain ⟨F2,s2,R2,x1⟩:=y1.freeze R1;split at h
 ·rename_i x0 hx0;obtain ⟨⟨e2,r2⟩,h2,h⟩:=bS h;obtain ⟨w0,f0⟩:=x0;obtain ⟨v0,hv0⟩:=R2.has hx0;refine ⟨v0,hv0,F2,pr,e1,e2,r2,R2,h2,fun F3 H3 v2 s3 R3 y2=>?_⟩;split at h
  ·rename_i n fl2 ws eq1 eq2;simp only at eq1;subst eq1;obtain ⟨j,hj,h⟩:=bS h;cases h;obtain ⟨a,vs,ws',q1,q2,q3,q4,q5⟩:=R3.ownL eq2;cases q1;rw [hv0] at q2;cases q2;refine ⟨a,vs,n,j,rfl,y2.isInt,q3,by rw [<-q5.length];exact hj,?_⟩;exact q F3 σ _ (s1.trans (s2.trans s3)) (R3.change eq2 hv0 (q5.set (x1.mono s3) j)) (.refl _ _)
  ·exact noSome h
 ·exact noSome h
noncomputable def gApp (i:Nat) (g:GE):GE:=fun en=>match en[i]? with
  | some (some (.lst _,true))=>(g en).bind fun p=>match p.1[i]? with
    | some (some (.lst ws,true))=>if ws.length < sizeLine then some (p.1.set i (some (.lst (ws++[p.2.1]),true)),(.non,false)) else none
    | _=>none
  | _=>none
theorem zux {i:Nat}{g:GE}{Q:VK} (h:tE K (gApp i g) σ H Q):tBM K "list" zsb (tVar i) (zcp (tE K g) tNil) σ H Q:=by
 refine aG fun _ qG=>?_;obtain ⟨F,pr,en,en',r,R,h,q⟩:=h;refine qG ?_;clear qG;unfold gApp at h;split at h
 ·rename_i w0 hx0;refine aG fun _ qG=>?_;obtain ⟨a,vs,ws0,q1,q2,q3,q4,q5⟩:=R.ownL hx0;obtain ⟨⟨e1,r1⟩,h1,h⟩:=bS h;refine qG ?_;clear qG;refine ⟨.ref a,q2,.inl ⟨rfl,vs,SqL.of' q3⟩,F,pr,en,e1,r1,R,h1,fun F1 H1 v1 s1 R1 y1=>?_⟩;refine aG fun _ qG=>?_;obtain ⟨F2,s2,R2,x1⟩:=y1.freeze R1;refine qG ?_;clear qG;split at h
  ·rename_i ws hx1;split at h
   ·rename_i hz;cases h;refine aG fun _ qG=>?_;obtain ⟨a',vs',ws',p1,p2,p3,p4,p5⟩:=R2.ownL hx1;refine qG ?_;clear qG;cases p1;rw [q2] at p2;cases p2;refine ⟨a,vs',v1,rfl,rfl,p3,by rw [<-p5.length];exact hz,?_⟩;exact q F2 _ _ (s1.trans s2) (R2.change hx1 q2 (p5.append (.cons x1 .nil))) .non
   ·exact noSome h
  ·exact noSome h
 ·exact noSome h
noncomputable def gExt (i:Nat) (g:GE):GE:=fun en=>match en[i]? with
  | some (some (.lst _,true))=>(g en).bind fun p=>match p.2.1,p.1[i]? with
    | .lst us,some (some (.lst ws,true))=>if ws.length+us.length<=sizeLine then some (p.1.set i (some (.lst (ws++us),true)),(.non,false)) else none
    | _,_=>none
  | _=>none
noncomputable def gAug (mp:List Nat) (o:O2) (i:Nat) (g:GA):GS:=fun en=>match en[i]? with
 | some (some (w,false))=>(g en).bind fun p=>(resA p.1 p.2).bind fun u=>(o w u).bind fun r=>if mp.contains i || !decide (i < p.1.length) then none else some (p.1.set i (some r),.nx)
 | _=>none
noncomputable def zja (mp:List Nat) (T:Tg) (body:GS):List W->En->Option (En × Fl)
  | [],en=>some (en,.nx)
  | w::ws,en=>(tgSet mp T w en).bind fun e1=>match body e1 with
    | some (e2,.nx)=>zja mp T body ws e2
    | some (e2,.cnt)=>zja mp T body ws e2
    | some (e2,.brk)=>some (e2,.nx)
    | some (e2,.ret r)=>some (e2,.ret r)
    | none=>none
noncomputable def gFor (mp:List Nat) (T:Tg) (it:GL) (body:GS):GS:=fun en=>(it en).bind fun p=>zja mp T body p.2 p.1
theorem zuf {T:Tg}{it:GL}{body:GS} (h:tS K mp (gFor mp T it body) D σ H):tFor (tI K it) (TGof K T) (tS K mp body) D σ H:=by
  refine aG fun _ qG=>?_;obtain ⟨F,pr,en,en',fl,R,h,q⟩:=h;obtain ⟨⟨e1,ws⟩,h1,h⟩:=bS h;refine qG ?_;clear qG;refine ⟨F,pr,en,e1,ws,R,h1,fun F1 H1 J s1 R1 ok=>?_⟩;refine ⟨fun i m σ' H'=>m=ws.length - i/\i<=ws.length/\∃F' e',Same F1 F'/\Rel K F' pr e' σ' H'/\Keep mp σ σ'/\zja mp T body (ws.drop i) e'=some (en',fl),⟨_,rfl,Nat.zero_le _,F1,e1,.refl _,R1,.refl _ _,by simpa using h⟩,?_⟩;rintro i m σ' H' ⟨rfl,hi,F',e',s',R',k',hl⟩;by_cases hlt:i < ws.length
  · refine .inr ⟨ok.go i H' (s'.trans R'.sub) hlt, ?_⟩
    have hd:ws.drop i=ws[i]::ws.drop (i+1):=(List.drop_eq_getElem_cons hlt);rw [hd] at hl;obtain ⟨e2,h2,hl⟩:=bS (show (tgSet mp T ws[i] e').bind _=_ from hl);refine ⟨fun σ2 H2=>∃F2 e3,Same F1 F2/\Rel K F2 pr e3 σ2 H2/\Keep mp σ σ2/\zja mp T body (ws.drop (i+1)) e3=some (en',fl),?_,?_⟩
    · rintro σ2 H2 ⟨F2, e3, s2, R2, k2, hl2⟩
      exact ⟨ws.length - (i+1),by omega,rfl,hlt,F2,e3,s2,R2,k2,hl2⟩
    · intro x H2 y
      obtain ⟨w,ew,out⟩:=ok.yld i H' x H2 (s'.trans R'.sub) hlt y;rw [List.getElem?_eq_getElem hlt] at ew;obtain rfl:=sI ew;refine aG fun _ qG=>?_;obtain ⟨F3,s3,R3,z⟩:=(out.mono s').close R';refine qG ?_;clear qG;refine zrd (w:=ws[i]) R3 z h2 fun σ3 R4 k4=>?_;cases eb:body e2 with
      | none=>simp only [eb] at hl;exact noSome hl
      | some p =>
        obtain ⟨e5,f5⟩:=p;refine ⟨F3,pr,e2,e5,f5,R4,eb,?_⟩;have sF:Same F1 F3:=s'.trans s3;cases f5 with
        | nx =>
          simp only [eb] at hl;exact fun F6 σ6 H6 s6 R6 k6=>⟨F6,e5,sF.trans s6,R6,(k'.trans k4).trans k6,hl⟩
        | cnt =>
          simp only [eb] at hl;exact fun F6 σ6 H6 s6 R6 k6=>⟨F6,e5,sF.trans s6,R6,(k'.trans k4).trans k6,hl⟩
        | brk =>
          simp only [eb] at hl;cases hl;exact fun F6 σ6 H6 s6 R6 k6=>q F6 σ6 H6 (s1.trans (sF.trans s6)) R6 ((k'.trans k4).trans k6)
        | ret r =>
          simp only [eb] at hl;cases hl;exact fun F6 σ6 H6 v s6 R6 k6 z=>q F6 σ6 H6 v (s1.trans (sF.trans s6)) R6 ((k'.trans k4).trans k6) z
  · have e : i = ws.length := by omega
    subst e;rw [List.drop_length] at hl;cases hl;exact .inl ⟨ok.stop H' (s'.trans R'.sub),q F' σ' H' (s1.trans s') R' k'⟩
end
section
variable {X:Cx}
end
section
variable {K:PySem.W.Frag}{σ:St}{H:Hp}
end
end L2
namespace L2
open PySem PySem.Spec PyProof.Rows
section
variable {prog:Program}{w:World}{A:Around}{E:Value->Shared->Prop}{s:Shared}{it d:Addr}{o:Obj}{es:Array DictEntry}{i ep:Nat}
end
section
variable {X:Cx}{tg:Expr}
end
section
variable {K:PySem.W.Frag}{F F' H:Hp}{pr:Prt}{en:En}{σ:St}
end
theorem Rel.drop {K:PySem.W.Frag}{F H:Hp}{pr:Prt}{en:En}{σ:St} (R:Rel K F pr en σ H) {i:Nat}{w:W} (e:en[i]?=some (some (w,true))):∃v,σ[i]?=some (some v)/\Rel K F pr (en.set i none) σ H/\Res K F H pr (en.set i none) σ (w,true) v:=by
 have hi:i < en.length:=(List.getElem?_eq_some_iff.mp e).1;refine aG fun _ qG=>?_;obtain ⟨a,vs,ws,h1,h2,h3,h4,h5⟩:=R.own i w e;refine qG ?_;clear qG;have g:∀(j:Nat) (x:W × Bool),(en.set i none)[j]?=some (some x)->j≠i/\en[j]?=some (some x):=fun j x h=>by
  rcases zdd hi h with ⟨_,q⟩ | z
  ·cases q
  ·exact z
 refine ⟨_,h2,⟨by rw [List.length_set];exact R.len,R.sub,fun j u q=>R.val j u (g j _ q).2,fun j u q=>R.own j u (g j _ q).2,fun j k b u u' q q'=>R.inj j k b u u' (g j _ q).2 (g k _ q').2,fun b o q=>⟨(R.prt b o q).1,(R.prt b o q).2.1,fun j u z=>(R.prt b o q).2.2 j u (g j _ z).2⟩,R.tb⟩,a,vs,ws,h1,rfl,h3,h4,h5,fun j u q z=>?_,fun b o q z=>?_⟩
 ·exact (g j _ q).1 (R.inj j i a _ _ (g j _ q).2 e z h2)
 ·subst z;exact (R.prt b o q).2.2 i w e h2
section
variable {prog:Program}{w:World}{A:Around}{E:Value->Shared->Prop}{s:Shared}{d:Addr}{o:Obj}{es:Array DictEntry}{ep:Nat}
end
end L2
namespace L2
open PySem PySem.Spec PyProof.Rows
noncomputable abbrev Cap:=List (Option Nat)
noncomputable def zej (cap:Cap) (en:En):En:=cap.map fun o=>match o with
 | some i=>(en[i]?).getD none
 | none=>none
noncomputable def zak (cap:Cap) (i:Nat):Option Nat:=cap.findIdx? (· == some i)
noncomputable def zbr (cap:Cap):Bool:=(List.range cap.length).all fun j=>match cap[j]? with
 | some (some i)=>zak cap i == some j
 | _=>true
noncomputable def capKeep (cap:Cap):List Nat:=(List.range cap.length).filter fun j=>match cap[j]? with
 | some (some _)=>true
 | _=>false
noncomputable def zaq (cap:Cap) (en ce:En):En:=en.mapIdx fun i x=>match zak cap i with
 | some j=>(ce[j]?).getD none
 | none=>x
theorem za4 {cap:Cap}{i j:Nat} (h:zak cap i=some j):cap[j]?=some (some i):=by
 unfold zak at h;obtain ⟨hl,h1,_⟩:=List.findIdx?_eq_some_iff_getElem.mp h;rw [List.getElem?_eq_getElem hl];have:cap[j]=some i:=by simpa using h1
 rw [this]
theorem zcb {cap:Cap}{i:Nat} (h:zak cap i=none) (j:Nat):cap[j]?≠some (some i):=fun e=>by
 unfold zak at h;have:=List.findIdx?_eq_none_iff.mp h (some i) (List.mem_of_getElem? e);simp at this
theorem zel {cap:Cap} (h:zbr cap=true) {i j:Nat} (e:cap[j]?=some (some i)):zak cap i=some j:=by
 unfold zbr at h;have hj:j < cap.length:=(List.getElem?_eq_some_iff.mp e).1;have:=List.all_eq_true.mp h j (List.mem_range.mpr hj);simp only [e] at this;simpa using this
theorem zku {cap:Cap}{i j:Nat} (e:cap[j]?=some (some i)):j∈capKeep cap:=by
 unfold capKeep;exact List.mem_filter.mpr ⟨List.mem_range.mpr (List.getElem?_eq_some_iff.mp e).1,by simp only [e]⟩
theorem zct {cap:Cap}{en:En}{j:Nat}{x:W × Bool} (h:(zej cap en)[j]?=some (some x)):∃i,cap[j]?=some (some i)/\en[i]?=some (some x):=by
  unfold zej at h;rw [List.getElem?_map] at h;cases e:cap[j]? with
  | none=>rw [e] at h;exact noSome h
  | some o =>
    rw [e] at h;cases o with
    | none=>cases h
    | some i =>
      refine ⟨i,rfl,?_⟩;have h' : (en[i]?).getD none=some x:=sI h;cases e2:en[i]? with
      | none=>rw [e2] at h';exact noSome h'
      | some z=>rw [e2] at h';exact congrArg some h'
theorem zne {cap:Cap}{σ:St}{i j:Nat} (h:cap[j]?=some (some i)):(capSt cap σ)[j]?=some ((σ[i]?).getD none):=by
 unfold capSt;rw [List.getElem?_map,h]
 rfl
theorem zdu {cap:Cap}{σ:St}{i j:Nat}{v:V} (h:cap[j]?=some (some i)) (hv:σ[i]?=some (some v)):(capSt cap σ)[j]?=some (some v):=by
 rw [zne h,hv];rfl
theorem backEn_get {cap:Cap}{en ce:En}{i:Nat}{x:W × Bool} (h:(zaq cap en ce)[i]?=some (some x)):(∃j,zak cap i=some j/\ce[j]?=some (some x))\/(zak cap i=none/\en[i]?=some (some x)):=by
  unfold zaq at h;rw [List.getElem?_mapIdx] at h;cases e:en[i]? with
  | none=>rw [e] at h;exact noSome h
  | some o =>
    rw [e] at h;cases c:zak cap i with
    | none=>simp only [c,Option.map_some] at h;exact .inr ⟨rfl,h⟩
    | some j =>
      simp only [c,Option.map_some] at h;have h' : (ce[j]?).getD none=some x:=sI h;refine .inl ⟨j,rfl,?_⟩;cases e2:ce[j]? with
      | none=>rw [e2] at h';exact noSome h'
      | some z=>rw [e2] at h';exact congrArg some h'
noncomputable def zba (pr:Prt) (cap:Cap) (en:En) (σ:St) (H:Hp):Prt:=fun b o=>pr b o\/∃(j:Nat) (w:W),en[j]?=some (some (w,true))/\zak cap j=none/\σ[j]?=some (some (V.ref b))/\H b=some o
noncomputable def zfs (pb:Prt) (acc:Addr) (vs:List V):Prt:=fun b o=>pb b o\/(b=acc/\o=.lst vs)
section
variable {K:PySem.W.Frag}{F H:Hp}{pr pb:Prt}{en:En}{σ:St}
theorem Rel.ownT (R:Rel K F pr en σ H) {j:Nat}{w:W}{b:Addr}{ps:Array Value} (e:en[j]?=some (some (w,true))) (s:σ[j]?=some (some (V.ref b))):H b≠some (.tbl ps):=fun z=>by
 obtain ⟨a,o,w',_,h2,h3,_,h5⟩:=R.own j w e;rw [s] at h2;cases h2;rw [z] at h3;obtain rfl:=sI h3;cases h5
theorem zf6 {cap:Cap}{b:Addr}{ps:Array Value} (R:Rel K F pr en σ H) (e:H b=some (.tbl ps)) (hh:∀o,¬ pr b o):∀o,¬ zba pr cap en σ H b o:=fun o z=>by
 rcases z with z | ⟨j,w,q1,_,q2,_⟩
 ·exact hh o z
 ·exact R.ownT q1 q2 e
theorem zf7 {cap:Cap}{b:Addr}{xs:List V} (R:Rel K F pr en σ H) (z:zba pr cap en σ H b (.tup xs)):pr b (.tup xs):=by
 rcases z with z | ⟨j,w,q1,_,q2,q3⟩
 ·exact z
 ·obtain ⟨a, o, w', _, h2, h3, _, h5⟩ := R.own j w q1;rw [q2] at h2;cases h2;rw [q3] at h3;obtain rfl:=sI h3;cases h5
theorem Rel.accUpd {acc:Addr}{vs us:List V} (R:Rel K F (zfs pb acc vs) en σ H) (hb:∀b o,pb b o->b≠acc):Rel K F (zfs pb acc us) en σ (upd H acc (.lst us)):=by
 obtain ⟨a1,a2,a3⟩:=R.prt acc (.lst vs) (.inr ⟨rfl,rfl⟩);have nt:∀b ps,H b=some (.tbl ps)->b≠acc:=fun b ps e z=>by subst z;rw [a1] at e;cases e
 have nx:∀b φ,H b=some (.ext φ)->b≠acc:=fun b φ e z=>by subst z;rw [a1] at e;cases e
 refine ⟨R.len,fun b o e=>?_,R.val,fun i w e=>?_,R.inj,fun b o q=>?_,R.tb.go (fun b xs z=>z.elim .inl fun z=>nomatch z.2) (fun b ps e f=>⟨by rw [upd_ne (nt b ps e)];exact e,f⟩) (.refl F) fun b ps e hh o z=>z.elim (fun z=>hh o (.inl z)) fun z=>nt b ps e z.1⟩
 ·have : b ≠ acc := fun z => by subst z; rw [a2] at e; exact noSome e
  rw [upd_ne this];exact R.sub _ _ e
 ·refine aG fun Gg qG => ?_;obtain ⟨a,vs',ws,h1,h2,h3,h4,h5⟩:=R.own i w e;refine qG ?_;clear qG;have:a≠acc:=fun z=>by subst z;exact a3 i w e h2
  exact ⟨a,vs',ws,h1,h2,by rw [upd_ne this];exact h3,h4,h5⟩
 ·rcases q with q | ⟨rfl, rfl⟩
  ·obtain ⟨b1, b2, b3⟩ := R.prt b o (.inl q);exact ⟨by rw [upd_ne (hb b o q)];exact b1,b2,b3⟩
  ·exact ⟨upd_same,a2,a3⟩
theorem zpz {cap:Cap}{acc:Addr} (R:Rel K F pr en σ H) (hn:H acc=none):∀b o,zba pr cap en σ H b o->b≠acc:=fun b o q=>by
 rcases q with q | ⟨j,w,_,_,_,q⟩
 ·exact zab (R.prt b o q).1 hn
 ·exact zab q hn
theorem Rel.block {cap:Cap}{acc:Addr} (R:Rel K F pr en σ H) (hn:H acc=none) (nd:zbr cap=true):Rel K F (zfs (zba pr cap en σ H) acc []) (zej cap en) (capSt cap σ) (upd H acc (.lst [])):=by
 have fa:F acc=none:=R.sub.free hn;have R2:=R.lay hn (.lst []);refine ⟨by unfold zej capSt;rw [List.length_map,List.length_map],R2.sub,fun j w e=>?_,fun j w e=>?_,fun j l a w w' e1 e2 q1 q2=>?_,fun b o q=>?_,R.tb.go (fun b xs z=>z.elim (zf7 R) fun z=>nomatch z.2) (fun b ps e f=>⟨by rw [upd_ne (zab e hn)];exact e,f⟩) (.refl F) fun b ps e hh o z=>z.elim (zf6 R e hh o) fun z=>zab e hn z.1⟩
 ·refine aG fun Gg qG => ?_;obtain ⟨i,c,e⟩:=zct e;obtain ⟨v,h1,h2⟩:=R.val i w e;refine qG ?_;clear qG;exact ⟨v,zdu c h1,h2⟩
 ·refine aG fun Gg qG => ?_;obtain ⟨i,c,e⟩:=zct e;obtain ⟨a,vs,ws,h1,h2,h3,h4,h5⟩:=R2.own i w e;refine qG ?_;clear qG;exact ⟨a,vs,ws,h1,zdu c h2,h3,h4,h5⟩
 ·refine aG fun Gg qG => ?_;obtain ⟨i,c1,e1⟩:=zct e1;obtain ⟨k,c2,e2⟩:=zct e2;obtain ⟨i',c1',q1⟩:=capSt_get q1;obtain ⟨k',c2',q2⟩:=capSt_get q2;refine qG ?_;clear qG;rw [c1] at c1';cases c1';rw [c2] at c2';cases c2';have:=R.inj i k a _ _ e1 e2 q1 q2;subst this;have x:=zel nd c1;rw [zel nd c2] at x;exact (sI x).symm
 ·have own2:∀(j:Nat) (w:W),(zej cap en)[j]?=some (some (w,true))->∃(i:Nat) (a:Addr),cap[j]?=some (some i)/\en[i]?=some (some (w,true))/\σ[i]?=some (some (V.ref a))/\(capSt cap σ)[j]?=some (some (V.ref a))/\∃o,H a=some o:=fun j w e=>by
   refine aG fun _ qG=>?_;obtain ⟨i,c,e⟩:=zct e;obtain ⟨a,vs,ws,h1,h2,h3,h4,h5⟩:=R.own i w e;refine qG ?_;clear qG;exact ⟨i,a,c,e,h2,zdu c h2,_,h3⟩
  rcases q with (q | ⟨j0,w0,e0,c0,s0,h0⟩) | ⟨rfl,rfl⟩
  ·obtain ⟨b1, b2, b3⟩ := R2.prt b o q;refine ⟨b1,b2,fun j w e=>?_⟩;refine aG fun _ qG=>?_;obtain ⟨i,a,_,e,h2,h3,_⟩:=own2 j w e;refine qG ?_;clear qG;rw [h3];intro z;cases z;exact b3 i w e h2
  ·refine aG fun Gg qG => ?_;obtain ⟨a,vs,ws,h1,h2,h3,h4,h5⟩:=R.own j0 w0 e0;refine qG ?_;clear qG;rw [s0] at h2;cases h2;refine ⟨by rw [upd_ne (zab h0 hn)];exact h0,h4,fun j w e=>?_⟩;refine aG fun _ qG=>?_;obtain ⟨i,a,c,e,h2,h3,_⟩:=own2 j w e;refine qG ?_;clear qG;rw [h3];intro z;cases z;have:=R.inj i j0 _ _ _ e e0 h2 s0;subst this;exact zcb c0 j c
  ·refine ⟨upd_same, fa, fun j w e => ?_⟩;refine aG fun _ qG=>?_;obtain ⟨i,a,c,e,h2,h3,o,h4⟩:=own2 j w e;refine qG ?_;clear qG;rw [h3];intro z;cases z;rw [hn] at h4;exact noSome h4
theorem Rel.unblock {cap:Cap}{acc:Addr}{F' H' : Hp}{ce:En}{σc:St}{vs:List V}{ws:List W} (R:Rel K F pr en σ H) (hn:H acc=none) (s:Same F F') (Rc:Rel K F' (zfs (zba pr cap en σ H) acc vs) ce σc H') (kp:Keep (capKeep cap) (capSt cap σ) σc) (rs:Reps K F' ws vs) :
  Rel K F' pr (zaq cap en ce) σ H'/\Res K F' H' pr (zaq cap en ce) σ (.lst ws,true) (.ref acc):=by
 have slot:∀(i j:Nat) (v:V),zak cap i=some j->σc[j]?=some (some v)->σ[i]?=some (some v):=fun i j v c e=>by
  have c':=za4 c;rw [kp j (zku c'),zne c'] at e;have e' : (σ[i]?).getD none=some v:=sI e;cases q:σ[i]? with
  | none=>rw [q] at e';exact noSome e'
  | some z=>rw [q] at e';exact congrArg some e'
 obtain ⟨a1,a2,a3⟩:=Rc.prt acc (.lst vs) (.inr ⟨rfl,rfl⟩);have un:∀(i:Nat) (w:W),zak cap i=none->en[i]?=some (some (w,true))->∃(a:Addr) (vs:HO) (ws:W),w=ws/\σ[i]?=some (some (V.ref a))/\H a=some vs/\H' a=some vs/\F' a=none/\OwnR K F ws vs/\∀(j:Nat) (w' : W),ce[j]?=some (some (w',true))->σc[j]?≠some (some (V.ref a)):=fun i w c e=>by
  refine aG fun _ qG=>?_;obtain ⟨a,vs,ws,h1,h2,h3,h4,h5⟩:=R.own i w e;obtain ⟨b1,b2,b3⟩:=Rc.prt a vs (.inl (.inr ⟨i,w,e,c,h2,h3⟩));refine qG ?_;clear qG;exact ⟨a,vs,ws,h1,h2,h3,b1,b2,h5,b3⟩
 have capt:∀(i j:Nat) (w:W),zak cap i=some j->ce[j]?=some (some (w,true))->∃(a:Addr) (vs:HO) (ws:W),w=ws/\σ[i]?=some (some (V.ref a))/\σc[j]?=some (some (V.ref a))/\H' a=some vs/\F' a=none/\OwnR K F' ws vs:=fun i j w c e=>by
  refine aG fun _ qG=>?_;obtain ⟨a,vs,ws,h1,h2,h3,h4,h5⟩:=Rc.own j w e;refine qG ?_;clear qG;exact ⟨a,vs,ws,h1,slot i j _ c h2,h2,h3,h4,h5⟩
 refine ⟨⟨by unfold zaq;rw [List.length_mapIdx];exact R.len,Rc.sub,fun i w e=>?_,fun i w e=>?_,fun i k a w w' e1 e2 q1 q2=>?_,fun b o q=>?_,Rc.tb.go (fun b xs z=>.inl (.inl z)) (fun b ps e f=>⟨e,f⟩) (.refl F') fun b ps e hh o z=>hh o (.inl (.inl z))⟩,acc,_,_,rfl,rfl,a1,a2,.lst rs,fun i w e=>?_,fun b o q=>zab (R.prt b o q).1 hn⟩
 ·rcases backEn_get e with ⟨j, c, e⟩ | ⟨c, e⟩
  ·obtain ⟨v, h1, h2⟩ := Rc.val j w e;exact ⟨v,slot i j v c h1,h2⟩
  ·obtain ⟨v, h1, h2⟩ := R.val i w e;exact ⟨v,h1,h2.mono s⟩
 ·rcases backEn_get e with ⟨j, c, e⟩ | ⟨c, e⟩
  ·refine aG fun Gg qG => ?_;obtain ⟨a,vs,ws,h1,h2,_,h3,h4,h5⟩:=capt i j w c e;refine qG ?_;clear qG;exact ⟨a,vs,ws,h1,h2,h3,h4,h5⟩
  ·refine aG fun Gg qG => ?_;obtain ⟨a,vs,ws,h1,h2,_,h3,h4,h5,_⟩:=un i w c e;refine qG ?_;clear qG;exact ⟨a,vs,ws,h1,h2,h3,h4,h5.mono s⟩
 ·rcases backEn_get e1 with ⟨j, c, e1⟩ | ⟨c, e1⟩
  ·refine aG fun Gg qG => ?_;obtain ⟨a',_,_,_,h2,h3,_⟩:=capt i j w c e1;refine qG ?_;clear qG;rw [q1] at h2;cases h2;rcases backEn_get e2 with ⟨l,c2,e2⟩ | ⟨c2,e2⟩
   ·refine aG fun Gg qG => ?_;obtain ⟨a',_,_,_,g2,g3,_⟩:=capt k l w' c2 e2;refine qG ?_;clear qG;rw [q2] at g2;cases g2;have:=Rc.inj j l a _ _ e1 e2 h3 g3;subst this;have x:=za4 c;rw [za4 c2] at x;cases x;rfl
   ·refine aG fun Gg qG => ?_;obtain ⟨a',_,_,_,g2,_,_,_,_,g3⟩:=un k w' c2 e2;refine qG ?_;clear qG;rw [q2] at g2;cases g2;exact absurd h3 (g3 j w e1)
  ·refine aG fun Gg qG => ?_;obtain ⟨a',_,_,_,h2,_,_,_,_,h3⟩:=un i w c e1;refine qG ?_;clear qG;rw [q1] at h2;cases h2;rcases backEn_get e2 with ⟨l,c2,e2⟩ | ⟨c2,e2⟩
   ·refine aG fun Gg qG => ?_;obtain ⟨a',_,_,_,g2,g3,_⟩:=capt k l w' c2 e2;refine qG ?_;clear qG;rw [q2] at g2;cases g2;exact absurd g3 (h3 l w' e2)
   ·exact R.inj i k a _ _ e1 e2 q1 q2
 ·obtain ⟨b1, b2, b3⟩ := Rc.prt b o (.inl (.inl q));refine ⟨b1,b2,fun i w e=>?_⟩;rcases backEn_get e with ⟨j,c,e⟩ | ⟨c,e⟩
  ·refine aG fun Gg qG => ?_;obtain ⟨a,_,_,_,h2,h3,_⟩:=capt i j w c e;refine qG ?_;clear qG;rw [h2];intro z;cases z;exact b3 j w e h3
  ·exact (R.prt b o q).2.2 i w e
 ·rcases backEn_get e with ⟨j, c, e⟩ | ⟨c, e⟩
  ·refine aG fun Gg qG => ?_;obtain ⟨a,_,_,_,h2,h3,_⟩:=capt i j w c e;refine qG ?_;clear qG;rw [h2];intro z;cases z;exact a3 j w e h3
  ·refine aG fun Gg qG => ?_;obtain ⟨a,_,_,_,h2,h3,_⟩:=un i w c e;refine qG ?_;clear qG;rw [h2];intro z;cases z;rw [hn] at h3;exact noSome h3
end
noncomputable def zfj (mp:List Nat) (T:Tg) (tc:GT) (te:GE):List W->En->Option (En × List W)
  | [],ce=>some (ce,[])
  | w::ws,ce=>(tgSet mp T w ce).bind fun c1=>match tc c1 with
    | some (c2,true)=>(te c2).bind fun p=>(zfj mp T tc te ws p.1).bind fun q=>some (q.1,p.2.1::q.2)
    | some (c2,false)=>zfj mp T tc te ws c2
    | none=>none
noncomputable def zbe (cap:Cap) (T:Tg) (it:GL) (tc:GT) (te:GE):GE:=fun en=>(it en).bind fun p=>if zbr cap && decide (p.2.length<=sizeLine) then (zfj (capKeep cap) T tc te p.2 (zej cap p.1)).bind fun q=>some (zaq cap p.1 q.1,(.lst q.2,true)) else none
noncomputable def gYes:GT:=fun en=>some (en,true)
noncomputable def zd1 (mp:List Nat) (T:Tg) (tc:GT) (em:GL):List W->En->Option (En × List W)
  | [],ce=>some (ce,[])
  | w::ws,ce=>(tgSet mp T w ce).bind fun c1=>match tc c1 with
    | some (c2,true)=>(em c2).bind fun p=>(zd1 mp T tc em ws p.1).bind fun q=>some (q.1,p.2++q.2)
    | some (c2,false)=>zd1 mp T tc em ws c2
    | none=>none
noncomputable def gOne (te:GE):GL:=fun en=>(te en).bind fun p=>some (p.1,[p.2.1])
noncomputable def zwx (cap:Cap) (T:Tg) (it:GL) (tc:GT) (em:GL):GE:=fun en=>(it en).bind fun p=>if zbr cap then (zd1 (capKeep cap) T tc em p.2 (zej cap p.1)).bind fun q=>if q.2.length<=sizeLine then some (zaq cap p.1 q.1,(.lst q.2,true)) else none else none
theorem zfn {mp:List Nat}{T:Tg}{tc:GT}{te:GE}:∀{ws:List W}{ce ce' : En}{out:List W},zfj mp T tc te ws ce=some (ce',out)->zd1 mp T tc (gOne te) ws ce=some (ce',out)/\out.length<=ws.length
  | [],_,_,_,h=>by cases h;exact ⟨rfl,Nat.le_refl _⟩
  | w::ws,ce,ce',out,h=>by
    obtain ⟨c1,h1,h⟩:=bS (show (tgSet mp T w ce).bind _=_ from h);have e:zd1 mp T tc (gOne te) (w::ws) ce=match tc c1 with
      | some (c2,true)=>(gOne te c2).bind fun p=>(zd1 mp T tc (gOne te) ws p.1).bind fun q=>some (q.1,p.2++q.2)
      | some (c2,false)=>zd1 mp T tc (gOne te) ws c2
      | none=>none:=by rw [zd1,h1];rfl
    rw [e];cases et:tc c1 with
    | none=>simp only [et] at h;exact noSome h
    | some p =>
      obtain ⟨c2,b⟩:=p;cases b with
      | false=>simp only [et] at h;exact ⟨(zfn h).1,Nat.le_succ_of_le (zfn h).2⟩
      | true =>
        simp only [et] at h;obtain ⟨⟨c3,rv⟩,h5,h⟩:=bS h;obtain ⟨⟨c4,rest⟩,h6,h⟩:=bS h;cases h;refine ⟨?_,Nat.succ_le_succ (zfn h6).2⟩;show (gOne te c2).bind _=_;rw [gOne,h5];show (zd1 mp T tc (gOne te) ws c3).bind _=_;rw [(zfn h6).1]
        rfl
noncomputable def MOk (K:PySem.W.Frag) (mp:List Nat) (pb:Prt) (acc:Addr) (em:GL) (tm:TM):Prop:=∀(F:Hp) (ce:En) (σ:St) (H:Hp) (vs:List V) (ce' : En) (out:List W) (N:St->Hp->Prop),Rel K F (zfs pb acc vs) ce σ H->em ce=some (ce',out)->vs.length+out.length<=sizeLine ->
 (∀F' σ' H' us,Same F F'->Rel K F' (zfs pb acc (vs++us)) ce' σ' H'->Keep mp σ σ'->Reps K F' out us->N σ' H')->tm σ H N
section
variable {K:PySem.W.Frag}{mp:List Nat}{pb:Prt}{acc:Addr}
theorem z4d {te:GE} (hb:∀b o,pb b o->b≠acc):MOk K mp pb acc (gOne te) (ztj acc (tE K te)):=by
 intro F ce σ H vs ce' out N R h hz q;refine aG fun _ qG=>?_;obtain ⟨⟨c3,rv⟩,h5,h⟩:=bS h;refine qG ?_;clear qG;cases h;refine ⟨F,_,ce,c3,rv,R,h5,fun F6 H6 v s6 R6 y6=>?_⟩;refine aG fun _ qG=>?_;obtain ⟨F7,s7,R7,y7⟩:=y6.freeze R6;obtain ⟨a1,_,_⟩:=R7.prt acc (.lst vs) (.inr ⟨rfl,rfl⟩);refine qG ?_;clear qG;exact ⟨vs,a1,hz,q F7 σ _ [v] (s6.trans s7) (R7.accUpd hb) (.refl _ _) (.cons y7 .nil)⟩
theorem z0i {em:GL}{tm:TM}{T:Tg}{tc:GT}{F1:Hp}{vs0:List V}{ce0 ce' : En}{σ0:St}{H0:Hp}{J:It}{ws out:List W}{N0:St->Hp->Prop} (M:MOk K mp pb acc em tm) (R:Rel K F1 (zfs pb acc vs0) ce0 σ0 H0) (ok:ItOk K F1 J ws) (h:zd1 mp T tc em ws ce0=some (ce',out)) (hz:vs0.length+out.length<=sizeLine)
    (q:∀F' σ' H' us,Same F1 F'->Rel K F' (zfs pb acc (vs0++us)) ce' σ' H'->Keep mp σ0 σ'->Reps K F' out us->N0 σ' H'):zmf J (TGof K T) (tT K tc) tm σ0 H0 N0:=by
  refine ⟨fun i m σc Hc=>m=ws.length - i/\i<=ws.length/\∃F' ce dn us rest,Same F1 F'/\Rel K F' (zfs pb acc (vs0++us)) ce σc Hc/\Keep mp σ0 σc/\Reps K F' dn us/\zd1 mp T tc em (ws.drop i) ce=some (ce',rest)/\dn++rest=out,
    ⟨_,rfl,Nat.zero_le _,F1,ce0,[],[],out,.refl _,by rw [List.append_nil];exact R,.refl _ _,.nil,h,rfl⟩,?_⟩
  rintro i m σc Hc ⟨rfl,hi,F',ce,dn,us,rest,s',R',k',rd,hl,ho⟩;by_cases hlt:i < ws.length
  · refine .inr ⟨ok.go i Hc (s'.trans R'.sub) hlt, ?_⟩
    have hd:ws.drop i=ws[i]::ws.drop (i+1):=(List.drop_eq_getElem_cons hlt);rw [hd] at hl;obtain ⟨c1,h3,hl⟩:=bS (show (tgSet mp T ws[i] ce).bind _=_ from hl);refine ⟨fun σ2 H2=>∃F' ce dn us rest,Same F1 F'/\Rel K F' (zfs pb acc (vs0++us)) ce σ2 H2/\Keep mp σ0 σ2/\Reps K F' dn us/\zd1 mp T tc em (ws.drop (i+1)) ce=some (ce',rest)/\dn++rest=out,fun σ2 H2 z=>⟨ws.length - (i+1),by omega,rfl,hlt,z⟩,?_⟩;intro x H2 y;obtain ⟨w,ew,o⟩:=ok.yld i Hc x H2 (s'.trans R'.sub) hlt y;rw [List.getElem?_eq_getElem hlt] at ew;obtain rfl:=sI ew;refine aG fun _ qG=>?_;obtain ⟨F3,s3,R3,z3⟩:=(o.mono s').close R';refine qG ?_;clear qG;refine zrd (w:=ws[i]) R3 z3 h3 fun σ3 R4 k4=>?_;cases et:tc c1 with
    | none=>simp only [et] at hl;exact noSome hl
    | some p =>
      obtain ⟨c2,b⟩:=p;refine ⟨F3,_,c1,c2,b,R4,et,fun F5 H5 s5 R5=>?_⟩;cases b with
      | false =>
        simp only [et] at hl;exact iteF ⟨F5,c2,dn,us,rest,s'.trans (s3.trans s5),R5,k'.trans k4,rd.mono (s3.trans s5),hl,ho⟩
      | true =>
        simp only [et] at hl;refine aG fun _ qG=>?_;obtain ⟨⟨c3,o1⟩,h5,hl⟩:=bS hl;obtain ⟨⟨c4,rest'⟩,h6,hl⟩:=bS hl;refine qG ?_;clear qG;cases hl;refine iteT (M F5 c2 σ3 H5 (vs0++us) c3 o1 _ R5 h5 ?_ fun F6 σ6 H6 us2 s6 R6 k6 r6=>?_)
        · dsimp only at ho
          rw [<-ho,List.length_append,List.length_append,rd.length] at hz;rw [List.length_append];omega
        · have sAll : Same F' F6 := s3.trans (s5.trans s6)
          exact ⟨F6,c3,dn++o1,us++us2,rest',s'.trans sAll,by rw [<-List.append_assoc];exact R6,k'.trans (k4.trans k6),(rd.mono sAll).append r6,h6,by rw [List.append_assoc];exact ho⟩
  · have e : i = ws.length := by omega
    subst e;rw [List.drop_length] at hl;cases hl;rw [List.append_nil] at ho;subst ho;exact .inl ⟨ok.stop Hc (s'.trans R'.sub),q F' σc Hc us s' R' k' rd⟩
end
theorem zny {K:PySem.W.Frag}{cap:Cap}{T:Tg}{it:GL}{tc:GT}{em:GL}{tm:Addr->TM}{σ:St}{H:Hp}{Q:VK} (M:∀(pb:Prt) (acc:Addr),(∀b o,pb b o->b≠acc)->MOk K (capKeep cap) pb acc em (tm acc)) (h:tE K (zwx cap T it tc em) σ H Q):zo1 (tI K it) cap (TGof K T) (tT K tc) tm σ H Q:=by
 refine aG fun _ qG=>?_;obtain ⟨F,pr,en,en',r,R,h,q⟩:=h;obtain ⟨⟨e1,ws⟩,h1,h⟩:=bS h;refine qG ?_;clear qG;refine ⟨F,pr,en,e1,ws,R,h1,fun F1 H1 J s1 R1 ok acc hacc=>?_⟩;split at h
 ·rename_i nd;refine aG fun _ qG=>?_;obtain ⟨⟨ce',out⟩,h2,h⟩:=bS h;refine qG ?_;clear qG;split at h
  ·rename_i hz;cases h;refine z0i (M _ acc (zpz (cap:=cap) R1 hacc)) (R1.block hacc nd) ok h2 (by rw [List.length_nil,Nat.zero_add];exact hz) fun F' σ' H' us s' R' k' rd=>?_;obtain ⟨Ro,rz⟩:=R1.unblock hacc s' R' k' rd;exact q F' H' _ (s1.trans s') Ro rz
  ·exact noSome h
 ·exact noSome h
theorem zqc {K:PySem.W.Frag}{cap:Cap}{T:Tg}{it:GL}{tc:GT}{te:GE}{σ:St}{H:Hp}{Q:VK} (h:tE K (zbe cap T it tc te) σ H Q):zo1 (tI K it) cap (TGof K T) (tT K tc) (fun acc=>ztj acc (tE K te)) σ H Q:=by
 refine zny (fun pb acc hb=>z4d hb) ?_;obtain ⟨F,pr,en,en',r,R,h,q⟩:=h;refine ⟨F,pr,en,en',r,R,?_,q⟩;refine aG fun _ qG=>?_;obtain ⟨⟨e1,ws⟩,h1,h⟩:=bS h;refine qG ?_;clear qG;split at h
 ·rename_i z;rw [Bool.and_eq_true] at z;refine aG fun _ qG=>?_;obtain ⟨⟨ce',out⟩,h2,h⟩:=bS h;refine qG ?_;clear qG;obtain ⟨h3,h4⟩:=zfn h2;rw [zwx,h1];show (if zbr cap=true then (zd1 (capKeep cap) T tc (gOne te) ws (zej cap e1)).bind _ else none)=_;rw [if_pos z.1,h3];show (if out.length<=sizeLine then _ else none)=_;rw [if_pos (Nat.le_trans h4 (of_decide_eq_true z.2))];exact h
 ·exact noSome h
noncomputable def z4j:GE:=fun en=>some (en,(.dic,false))
noncomputable def keyW:W->Bool
 | .int _=>true
 | .str _=>true
 | _=>false
noncomputable def z45 (k v:GE):GE:=fun en=>(k en).bind fun p=>if keyW p.2.1 then (v p.1).bind fun q=>some (q.1,(.dic,false)) else none
end L2
namespace L2
open PySem PySem.Spec PyProof.Rows
noncomputable def Src (h:Heap) (it l:Addr) (k:Nat) (xs:Array Value):Prop:=(h.IsListIter it l k/\h.IsList l xs)\/(h.IsTupleIter it l k/\h.IsTuple l xs)
theorem Src.at {h h' : Heap}{it l:Addr}{k:Nat}{xs:Array Value} (c:Src h it l k xs) (a:∀o,h.get? it=some o->h'.get? it=some o) (b:∀o,h.get? l=some o->h'.get? l=some o):Src h' it l k xs:=by
 rcases c with ⟨p,q⟩ | ⟨p,q⟩
 ·exact .inl ⟨p.at a,q.at b⟩
 ·obtain ⟨o, e, r⟩ := q;exact .inr ⟨p.at a,o,b o e,r⟩
theorem Src.src {h:Heap}{it l:Addr}{k:Nat}{xs:Array Value} (c:Src h it l k xs):∃o,h.get? l=some o:=by
 rcases c with ⟨_,⟨o,e,_⟩⟩ | ⟨_,⟨o,e,_⟩⟩<;>exact ⟨o,e⟩
section
variable {prog:Program}{w:World}{A:Around}{E:Value->Shared->Prop}{s:Shared}
theorem zes {it l:Addr}{k:Nat}{xs:Array Value}{x:Value}{Q:Value->Shared->Prop} (c:Src s.heap it l k xs) (hx:xs[k]?=some x) (ne:l≠it)
  (q:∀h',Src h' it l (k+1) xs->Heap.SameBut it s.heap h'->Q x { s with heap:=h' }):wpAny (model prog w) A (Builtin.SmallTypes.nextOf (.ref it)) Q E s:=by
 rcases c with ⟨c1,c2⟩ | ⟨c1,c2⟩
 ·exact wpAny_nextOf_list_item c1 c2 hx fun h' a b=>q h' (.inl ⟨a,c2.at fun o e=>(b.2 l ne).trans e⟩) b
 ·refine aG fun Gg qG => ?_;obtain ⟨oi,ei,ci,di⟩:=id c1;obtain ⟨os,es,cs,ns,ds⟩:=id c2;refine qG ?_;clear qG;unfold Builtin.SmallTypes.nextOf;refine wpAny_bind (wpAny_callSpecial?_slot (name:=Str.ofString "__next__") c1.typeIs F.slot_tuple_iterator_next (wpAny_call_entry F.slot_tuple_iterator_next c1.typeIs F.entry_tuple_iterator_next ?_ (F.args_tuple_iterator_next_1 _)));refine (show wpAny _ _ (field (.ref it) 0 >>= _) _ _ s from wpAny_bind (wpAny_field ei di (x:=.ref l) rfl ?_));refine (show wpAny _ _ (if (Value.ref l == Value.none)=true then _ else _) _ _ s from ?_);rw [if_neg (by intro z;cases z)];refine (show wpAny _ _ (field (.ref it) 1 >>= _) _ _ s from wpAny_bind (wpAny_field ei di (x:=.int k 0) rfl ?_));refine (show wpAny _ _ (seqItems? (.ref l) >>= _) _ _ s from wpAny_bind (wpAny_seqItems es ds ?_));simp only [Int.toNat_natCast,hx];refine wpAny_bind (wpAny_setField ei di (by simp) (wpAny_pure ⟨x,rfl,wpAny_pure ?_⟩));refine q _ (.inr ⟨⟨_,Heap.get?_update_self _ ei (Obj.isFreed_of_fields (Obj.data_mapFields di _)),(Obj.cls_mapFields ..).trans ci,by rw [Obj.data_mapFields di];simp [rawInt]⟩,os,?_,cs,ns,ds⟩) (Heap.SameBut.update ..);exact ((Heap.SameBut.update ..).2 l ne).trans es
theorem zg6 {it l:Addr}{k:Nat}{xs:Array Value}{Q:Value->Shared->Prop} (hn:A.handled=none) (c:Src s.heap it l k xs) (hx:xs[k]?=none)
  (q:∀h' e,Heap.ExtBut it s.heap h'->(∃o,h'.get? e=some o/\o.cls=.type "StopIteration")->E (.ref e) { s with heap:=h' }):wpAny (model prog w) A (Builtin.SmallTypes.nextOf (.ref it)) Q E s:=by
 rcases c with ⟨c1,c2⟩ | ⟨c1,c2⟩
 ·exact wpAny_nextOf_list_end hn c1 c2 hx q
 ·obtain ⟨oi, ei, ci, di⟩ := id c1;obtain ⟨os,es,cs,ns,ds⟩:=id c2;unfold Builtin.SmallTypes.nextOf;refine wpAny_bind (wpAny_callSpecial?_slot (name:=Str.ofString "__next__") c1.typeIs F.slot_tuple_iterator_next (wpAny_call_entry F.slot_tuple_iterator_next c1.typeIs F.entry_tuple_iterator_next ?_ (F.args_tuple_iterator_next_1 _)));refine (show wpAny _ _ (field (.ref it) 0 >>= _) _ _ s from wpAny_bind (wpAny_field ei di (x:=.ref l) rfl ?_));refine (show wpAny _ _ (if (Value.ref l == Value.none)=true then _ else _) _ _ s from ?_);rw [if_neg (by intro z;cases z)];refine (show wpAny _ _ (field (.ref it) 1 >>= _) _ _ s from wpAny_bind (wpAny_field ei di (x:=.int k 0) rfl ?_));refine (show wpAny _ _ (seqItems? (.ref l) >>= _) _ _ s from wpAny_bind (wpAny_seqItems es ds ?_));simp only [Int.toNat_natCast,hx];refine wpAny_bind (wpAny_rule (wpAny_bind (wpAny_setField ei di (by simp) (show wpAny _ _ (newExc (.type "StopIteration") [] >>= _) _ _ _ from wpAny_bind ?_))));simp only [newExc,newTuple];refine wpAny_bind (wpAny_newObj_type (wpAny_bind (m:=firstArgMember _ _) (wpAny_of_eq (a:=Value.none) (by first | rfl | (simp only [firstArgMember];rfl)) (wpAny_newObj_type ?_ (by size_fits)))) (by size_fits));simp only [raiseNew];refine wpAny_bind (wpAny_handled ?_);rw [show A.in1.handled=none from hn];exact wpAny_bind (wpAny_pure (wpAny_throw (q _ _ (((Heap.SameBut.update ..).extBut.push _).push _) ⟨_,Heap.get?_push_size _ rfl,rfl⟩)))
theorem zym {z TI TO i1 i2 l1 l2:Addr}{k1 k2:Nat}{xs ys:Array Value}{x y a b:Value}{Q:Value->Shared->Prop} (D:ZipApart z TI TO i1 i2 l1 l2) (gz:IsZip s.heap z TI TO .none) (gi:IsPair s.heap TI (.ref i1) (.ref i2)) (go:IsPair s.heap TO a b)
  (c1:Src s.heap i1 l1 k1 xs) (c2:Src s.heap i2 l2 k2 ys) (ex:xs[k1]?=some x) (ey:ys[k2]?=some y)
  (q:∀h',IsZip h' z TI TO (rawInt s.heap.objs.size)->IsPair h' TO x y->Src h' i1 l1 (k1+1) xs->Src h' i2 l2 (k2+1) ys->IsPair h' s.heap.objs.size x y ->
   (∀c o,c≠z->c≠TO->c≠i1->c≠i2->s.heap.get? c=some o->h'.get? c=some o)->Q (.ref s.heap.objs.size) { s with heap:=h' }) :
  wpAny (model prog w) A (Builtin.«zip.__next__» ⟨[.ref z],[]⟩) (fun fin s'=>∃v,fin=.done (.ret v)/\Q v s') E s:=by
 refine (show wpAny _ _ (field (.ref z) 2 >>= _) _ _ _ from wpAny_bind (wpAny_field gz rfl (x:=.bool false) rfl ?_));refine (show wpAny _ _ (field (.ref z) 3 >>= _) _ _ _ from wpAny_bind (wpAny_field gz rfl (x:=.ref TI) rfl (wpAny_bind (wpAny_seqItems gi rfl ?_))));refine (show wpAny _ _ (Builtin.SmallTypes.ownedTupleIsFree (.ref z) >>= _) _ _ _ from wpAny_bind ?_);unfold Builtin.SmallTypes.ownedTupleIsFree;refine wpAny_bind (wpAny_field gz rfl (x:=.none) rfl (wpAny_pure ?_));simp only [if_true];refine wpAny_bind (wpAny_rule (wpAny_bind (wpAny_field gz rfl (x:=.ref TO) rfl (wpAny_bind (wpAny_setField_rec gz (by simp) fun g1 z1 u1=>?_)))));have z1' : IsZip g1 z TI TO .ellipsis:=z1;refine wpAny_bind ?_;simp only [List.zipIdx_cons,List.zipIdx_nil,List.forIn_cons,List.forIn_nil];have k1' : ∀c o,c≠z->s.heap.get? c=some o->g1.get? c=some o:=fun c o n e=>u1.extBut _ _ n e;refine wpAny_bind (wpAny_bind (wpAny_onRaise (show wpAny _ _ (Builtin.SmallTypes.nextOf (.ref i1) >>= _) _ _ _ from wpAny_bind (zes (c1.at (fun o=>k1' _ o D.i1z) fun o=>k1' _ o D.l1z) ex D.l1i1 fun g2 d2 u2=>wpAny_pure ?_))));have k2' : ∀c o,c≠z->c≠i1->s.heap.get? c=some o->g2.get? c=some o:=fun c o n m e=>u2.extBut _ _ m (k1' c o n e);refine wpAny_bind (wpAny_seqItems (k2' _ _ D.TOz D.TOi1 go) rfl (wpAny_bind (wpAny_updateSeq_pair (k2' _ _ D.TOz D.TOi1 go) fun g3 t3 u3=>wpAny_bind (wpAny_letGo (wpAny_pure ?_)))));have t3' : IsPair g3 TO x b:=t3;have k3' : ∀c o,c≠z->c≠i1->c≠TO->s.heap.get? c=some o->g3.get? c=some o:=fun c o n m r e=>u3.extBut _ _ r (k2' c o n m e);refine wpAny_bind (wpAny_bind (wpAny_onRaise (show wpAny _ _ (Builtin.SmallTypes.nextOf (.ref i2) >>= _) _ _ _ from wpAny_bind (zes (c2.at (fun o=>k3' _ o D.i2z D.i12.symm D.TOi2.symm) fun o=>k3' _ o D.l2z D.l2i1 D.l2TO) ey D.l2i2 fun g4 d4 u4=>wpAny_pure ?_))));have t4:IsPair g4 TO x b:=u4.extBut _ _ D.TOi2 t3';refine wpAny_bind (wpAny_seqItems t4 rfl (wpAny_bind (wpAny_updateSeq_pair t4 fun g5 t5 u5=>wpAny_bind (wpAny_letGo (wpAny_pure (wpAny_pure ?_))))));have t5' : IsPair g5 TO x y:=t5;refine wpAny_bind (wpAny_seqItems t5' rfl (wpAny_bind (wpAny_newTuple ?_)));have n5:g5.objs.size=s.heap.objs.size:=by rw [u5.1,u4.1,u3.1,u2.1,u1.1]
 have z5:IsZip g5 z TI TO .ellipsis:=u5.extBut _ _ D.TOz.symm (u4.extBut _ _ D.i2z.symm (u3.extBut _ _ D.TOz.symm (u2.extBut _ _ D.i1z.symm z1')));have k5:∀c o,c≠z->c≠TO->c≠i1->c≠i2->s.heap.get? c=some o->g5.get? c=some o:=fun c o n r m p e=>u5.extBut _ _ r (u4.extBut _ _ p (k3' c o n m r e));have d2' : Src g5 i1 l1 (k1+1) xs:=d2.at (fun o e=>u5.extBut _ _ D.TOi1.symm (u4.extBut _ _ D.i12 (u3.extBut _ _ D.TOi1.symm e))) fun o e=>u5.extBut _ _ D.l1TO (u4.extBut _ _ D.l1i2 (u3.extBut _ _ D.l1TO e));have d4' : Src g5 i2 l2 (k2+1) ys:=d4.at (fun o e=>u5.extBut _ _ D.TOi2.symm e) fun o e=>u5.extBut _ _ D.l2TO e;refine (show wpAny _ _ (Builtin.SmallTypes.ownedTupleHandOut (.ref z) (.ref g5.objs.size) >>= _) _ _ _ from wpAny_bind ?_);unfold Builtin.SmallTypes.ownedTupleHandOut;have z6:IsZip (g5.push { cls:=.type "tuple",data:=.seq #[x,y] }) z TI TO .ellipsis:=Heap.get?_push_of_some _ z5;refine wpAny_bind (wpAny_setField_rec z6 (by simp) fun g7 z7 u7=>wpAny_setField_rec (show IsZip g7 z TI TO (rawInt g5.objs.size) from z7) (by simp) fun g8 z8 u8=>wpAny_pure ⟨_,rfl,?_⟩);have up:∀c o,c≠z->g5.get? c=some o->g8.get? c=some o:=fun c o n e=>u8.extBut _ _ n (u7.extBut _ _ n (Heap.get?_push_of_some _ e));have lz:g5.objs.size≠z:=Nat.ne_of_gt (Heap.lt_size z5);have t8:IsPair g8 g5.objs.size x y:=u8.extBut _ _ lz (u7.extBut _ _ lz (Heap.get?_push_size _ rfl));have z8' : IsZip g8 z TI TO (rawInt g5.objs.size):=z8;rw [n5] at t8 z8';show Q (.ref g5.objs.size) _;rw [n5];exact q g8 z8' (up _ _ D.TOz t5') (d2'.at (fun o=>up _ o D.i1z) fun o=>up _ o D.l1z) (d4'.at (fun o=>up _ o D.i2z) fun o=>up _ o D.l2z) t8 fun c o n r m p e=>up c o n (k5 c o n r m p e)
theorem z1w {z TI TO i1 i2 l1 l2:Addr}{k1 k2:Nat}{xs ys:Array Value}{a b:Value}{Q:Fin->Shared->Prop} (hn:A.handled=none) (D:ZipApart z TI TO i1 i2 l1 l2) (gz:IsZip s.heap z TI TO .none) (gi:IsPair s.heap TI (.ref i1) (.ref i2)) (go:IsPair s.heap TO a b)
    (c1:Src s.heap i1 l1 k1 xs) (c2:Src s.heap i2 l2 k2 ys) (he:xs[k1]?=none\/ys[k2]?=none)
    (q:∀h' e,(∀c o,c≠z->c≠TO->c≠i1->c≠i2->s.heap.get? c=some o->h'.get? c=some o)->(∃o,h'.get? e=some o/\o.cls=.type "StopIteration")->E (.ref e) { s with heap:=h' }) :
    wpAny (model prog w) A (Builtin.«zip.__next__» ⟨[.ref z],[]⟩) Q E s:=by
  refine (show wpAny _ _ (field (.ref z) 2 >>= _) _ _ _ from wpAny_bind (wpAny_field gz rfl (x:=.bool false) rfl ?_));refine (show wpAny _ _ (field (.ref z) 3 >>= _) _ _ _ from wpAny_bind (wpAny_field gz rfl (x:=.ref TI) rfl (wpAny_bind (wpAny_seqItems gi rfl ?_))));refine (show wpAny _ _ (Builtin.SmallTypes.ownedTupleIsFree (.ref z) >>= _) _ _ _ from wpAny_bind ?_);unfold Builtin.SmallTypes.ownedTupleIsFree;refine wpAny_bind (wpAny_field gz rfl (x:=.none) rfl (wpAny_pure ?_));simp only [if_true];refine wpAny_bind (wpAny_rule (wpAny_bind (wpAny_field gz rfl (x:=.ref TO) rfl (wpAny_bind (wpAny_setField_rec gz (by simp) fun g1 z1 u1=>?_)))));have z1' : IsZip g1 z TI TO .ellipsis:=z1;refine wpAny_bind ?_;simp only [List.zipIdx_cons,List.zipIdx_nil,List.forIn_cons,List.forIn_nil];have k1' : ∀c o,c≠z->s.heap.get? c=some o->g1.get? c=some o:=fun c o n e=>u1.extBut _ _ n e;refine wpAny_bind (wpAny_bind (wpAny_onRaise (show wpAny _ _ (Builtin.SmallTypes.nextOf (.ref i1) >>= _) _ _ _ from wpAny_bind ?_)));have d1:Src g1 i1 l1 k1 xs:=c1.at (fun o=>k1' _ o D.i1z) fun o=>k1' _ o D.l1z;cases hx:xs[k1]? with
  | none =>
    refine zg6 hn d1 hx fun g2 e u2 so=>?_;obtain ⟨oe,ge,ce⟩:=so;have z2:IsZip g2 z TI TO .ellipsis:=u2 _ _ D.i1z.symm z1';have ne:e≠z:=fun r=>by subst r;rw [z2] at ge;obtain rfl:=sI ge;simp at ce
    exact wpAny_setField_rec z2 (by simp) fun g3 _ u3=>q g3 e (fun c o n _ m _ x=>u3.extBut _ _ n (u2 _ _ m (k1' c o n x))) ⟨oe,u3.extBut _ _ ne ge,ce⟩
  | some x =>
    have hy:ys[k2]?=none:=he.resolve_left (by rw [hx];simp);refine zes d1 hx D.l1i1 fun g2 d2 u2=>wpAny_pure ?_;have k2' : ∀c o,c≠z->c≠i1->s.heap.get? c=some o->g2.get? c=some o:=fun c o n m e=>u2.extBut _ _ m (k1' c o n e);refine wpAny_bind (wpAny_seqItems (k2' _ _ D.TOz D.TOi1 go) rfl (wpAny_bind (wpAny_updateSeq_pair (k2' _ _ D.TOz D.TOi1 go) fun g3 t3 u3=>wpAny_bind (wpAny_letGo (wpAny_pure ?_)))));have k3' : ∀c o,c≠z->c≠i1->c≠TO->s.heap.get? c=some o->g3.get? c=some o:=fun c o n m r e=>u3.extBut _ _ r (k2' c o n m e);refine wpAny_bind (wpAny_bind (wpAny_onRaise (show wpAny _ _ (Builtin.SmallTypes.nextOf (.ref i2) >>= _) _ _ _ from wpAny_bind (zg6 hn (c2.at (fun o=>k3' _ o D.i2z D.i12.symm D.TOi2.symm) fun o=>k3' _ o D.l2z D.l2i1 D.l2TO) hy fun g4 e u4 so=>?_))));obtain ⟨oe,ge,ce⟩:=so;have z4:IsZip g4 z TI TO .ellipsis:=u4 _ _ D.i2z.symm (u3.extBut _ _ D.TOz.symm (u2.extBut _ _ D.i1z.symm z1'));have ne:e≠z:=fun r=>by subst r;rw [z4] at ge;obtain rfl:=sI ge;simp at ce
    exact wpAny_setField_rec z4 (by simp) fun g5 _ u5=>q g5 e (fun c o n r m p x=>u5.extBut _ _ n (u4 _ _ p (k3' c o n m r x))) ⟨oe,u5.extBut _ _ ne ge,ce⟩
theorem zx2 {z TI TO i1 i2 l1 l2:Addr}{k1 k2:Nat}{xs ys:Array Value}{x y a b:Value}{Q:Option Value->Shared->Prop} (D:ZipApart z TI TO i1 i2 l1 l2) (gz:IsZip s.heap z TI TO .none) (gi:IsPair s.heap TI (.ref i1) (.ref i2)) (go:IsPair s.heap TO a b)
  (c1:Src s.heap i1 l1 k1 xs) (c2:Src s.heap i2 l2 k2 ys) (ex:xs[k1]?=some x) (ey:ys[k2]?=some y)
  (q:∀h',IsZip h' z TI TO (rawInt s.heap.objs.size)->IsPair h' TO x y->Src h' i1 l1 (k1+1) xs->Src h' i2 l2 (k2+1) ys->IsPair h' s.heap.objs.size x y ->
   (∀c o,c≠z->c≠TO->c≠i1->c≠i2->s.heap.get? c=some o->h'.get? c=some o)->Q (some (.ref s.heap.objs.size)) { s with heap:=h' }):wpAny (model prog w) A (pyNext (.ref z)) Q E s:=by
 have ty:s.TypeIs (.ref z) "zip" := ⟨_,gz,rfl⟩;unfold pyNext;exact wpAny_bind (wpAny_attempt (wpAny_callSpecial?_slot (name:=Str.ofString "__next__") ty F.slot_zip_next (wpAny_call_entry F.slot_zip_next ty F.entry_zip_next (zym D gz gi go c1 c2 ex ey fun h' a1 a2 a3 a4 a5 a6=>wpAny_pure (q h' a1 a2 a3 a4 a5 a6)) (F.args_zip_next_1 _))))
theorem z3c {z TI TO i1 i2 l1 l2:Addr}{k1 k2:Nat}{xs ys:Array Value}{a b:Value}{Q:Option Value->Shared->Prop} (hn:A.handled=none) (D:ZipApart z TI TO i1 i2 l1 l2) (gz:IsZip s.heap z TI TO .none) (gi:IsPair s.heap TI (.ref i1) (.ref i2)) (go:IsPair s.heap TO a b)
  (c1:Src s.heap i1 l1 k1 xs) (c2:Src s.heap i2 l2 k2 ys) (he:xs[k1]?=none\/ys[k2]?=none)
  (q:∀h',(∀c o,c≠z->c≠TO->c≠i1->c≠i2->s.heap.get? c=some o->h'.get? c=some o)->Q none { s with heap:=h' }):wpAny (model prog w) A (pyNext (.ref z)) Q E s:=by
 have ty:s.TypeIs (.ref z) "zip" := ⟨_,gz,rfl⟩;unfold pyNext;refine wpAny_bind (wpAny_attempt (wpAny_callSpecial?_slot (name:=Str.ofString "__next__") ty F.slot_zip_next (wpAny_call_entry F.slot_zip_next ty F.entry_zip_next (z1w hn D gz gi go c1 c2 he fun h' e k so=>?_) (F.args_zip_next_1 _))));obtain ⟨o,go',co⟩:=so;exact wpAny_bind (wpAny_isInstance (T := "StopIteration") (b:=true) ⟨o,go',co⟩ isSubtype_stop (wpAny_pure (q _ k)))
end
end L2
namespace L2
open PySem PySem.Spec PyProof.Rows
noncomputable def SrcO (h:Heap) (b:Bool) (l:Addr) (xs:Array Value):Prop:=match b with
 | true=>h.IsList l xs
 | false=>h.IsTuple l xs
noncomputable def itO (b:Bool) (l:Addr):Obj:={ cls:=.type (if b then "list_iterator" else "tuple_iterator"),data:=.fields #[.ref l,.int 0 0] }
theorem SrcO.push {h:Heap}{b:Bool}{l:Addr}{xs:Array Value} (c:SrcO h b l xs) (o:Obj):SrcO (h.push o) b l xs:=by
  cases b with
  | true=>exact Heap.IsList.push c o
  | false =>
    obtain ⟨q,e,r⟩:=c;exact ⟨q,Heap.get?_push_of_some _ e,r⟩
section
variable {prog:Program}{w:World}{A:Around}{E:Value->Shared->Prop}{s:Shared}
theorem zih {b:Bool}{l:Addr}{xs:Array Value}{Q:Value->Shared->Prop} (c:SrcO s.heap b l xs) (q:Q (.ref s.heap.objs.size) { s with heap:=s.heap.push (itO b l) }):wpAny (model prog w) A (pyIter (.ref l)) Q E s:=by
 cases b with
 | true=>exact wpAny_pyIter_list c q
 | false=>exact wpAny_pyIter_tuple c q
end
noncomputable abbrev zA (h:Heap) (b:Bool) (l:Addr):Heap:=h.push (itO b l)
noncomputable abbrev zB (h:Heap) (b c:Bool) (l m:Addr):Heap:=(zA h b l).push (itO c m)
noncomputable abbrev zC (h:Heap) (b c:Bool) (l m:Addr):Heap:=(zB h b c l m).push { cls:=.type "tuple",data:=.seq #[.ref h.objs.size,.ref (zA h b l).objs.size] }
noncomputable abbrev zD (h:Heap) (b c:Bool) (l m:Addr):Heap:=(zC h b c l m).push { cls:=.type "tuple",data:=.seq #[.none,.none] }
noncomputable abbrev zE (h:Heap) (b c:Bool) (l m:Addr):Heap:=(zD h b c l m).push { cls:=.type "zip",data:=.fields #[.none,.bool false,.bool false,.ref (zB h b c l m).objs.size,.ref (zC h b c l m).objs.size] }
theorem zp6 (b c:Bool) (l m:Addr) (xs ys:Array Value):Meets (Builtin.«zip.__new__» ⟨[.type "zip",.ref l,.ref m],[]⟩) (fun _ R s=>SrcO s.heap b l xs/\SrcO s.heap c m ys/\R (.ok (.ret (.ref (zD s.heap b c l m).objs.size))) { s with heap:=zE s.heap b c l m }) :=
 .of_wp fun prog w A R s h=>by
  obtain ⟨hp,g,d,tk,os⟩:=s;obtain ⟨x1,x2,h⟩:=h;have hsub:=sub_zip;have y1:SrcO (Shared.heap ⟨hp,g,d,tk,os⟩) b l xs:=x1;have y2:SrcO (Shared.heap ⟨hp.push (itO b l),g,d,tk,os⟩) c m ys:=SrcO.push x2 _
  wp_walk using zih y1,zih y2
  exact ⟨_,rfl,h⟩
section
variable {prog:Program}{w:World}{A:Around}{E:Value->Shared->Prop}{s:Shared}
theorem zt1 {b c:Bool}{l m:Addr}{xs ys:Array Value}{Q:Value->Shared->Prop} (x1:SrcO s.heap b l xs) (x2:SrcO s.heap c m ys)
  (h:∀h',IsZip h' (s.heap.objs.size+4) (s.heap.objs.size+2) (s.heap.objs.size+3) .none->IsPair h' (s.heap.objs.size+2) (.ref s.heap.objs.size) (.ref (s.heap.objs.size+1))->IsPair h' (s.heap.objs.size+3) .none .none ->
   h'.get? s.heap.objs.size=some (itO b l)->h'.get? (s.heap.objs.size+1)=some (itO c m)->(∀c o,s.heap.get? c=some o->h'.get? c=some o)->Q (.ref (s.heap.objs.size+4)) { s with heap:=h' }) :
  wpAny (model prog w) A (call (.type "zip") [.ref l,.ref m]) Q E s:=by
 refine callType_new F.called_zip (by decide) (F.typeCall_zip_2 _ _) (F.newCall_zip_2 _ _) (fun obj=>F.args_object_init_3 obj _ _) F.entry_zip_new (zp6 b c l m xs ys) ⟨x1,x2,?_⟩;have n1:(zA s.heap b l).objs.size=s.heap.objs.size+1:=Heap.size_push ..;have n2:(zB s.heap b c l m).objs.size=s.heap.objs.size+2:=by rw [Heap.size_push,n1]
 have n3:(zC s.heap b c l m).objs.size=s.heap.objs.size+3:=by rw [Heap.size_push,n2]
 have n4:(zD s.heap b c l m).objs.size=s.heap.objs.size+4:=by rw [Heap.size_push,n3]
 have up:∀r o,s.heap.get? r=some o->(zE s.heap b c l m).get? r=some o:=fun r o x=>Heap.get?_push_of_some _ (Heap.get?_push_of_some _ (Heap.get?_push_of_some _ (Heap.get?_push_of_some _ (Heap.get?_push_of_some _ x))));have e5:(zE s.heap b c l m).get? (zD s.heap b c l m).objs.size=some _:=Heap.get?_push_size _ rfl;have e4:(zE s.heap b c l m).get? (zC s.heap b c l m).objs.size=some _:=Heap.get?_push_of_some _ (Heap.get?_push_size _ rfl);have e3:(zE s.heap b c l m).get? (zB s.heap b c l m).objs.size=some _:=Heap.get?_push_of_some _ (Heap.get?_push_of_some _ (Heap.get?_push_size _ rfl));have e2:(zE s.heap b c l m).get? (zA s.heap b l).objs.size=some (itO c m):=Heap.get?_push_of_some _ (Heap.get?_push_of_some _ (Heap.get?_push_of_some _ (Heap.get?_push_size _ rfl)));have e1:(zE s.heap b c l m).get? s.heap.objs.size=some (itO b l):=Heap.get?_push_of_some _ (Heap.get?_push_of_some _ (Heap.get?_push_of_some _ (Heap.get?_push_of_some _ (Heap.get?_push_size _ rfl))));show _/\_;rw [n2,n3,n4] at e5;rw [n1,n2] at e3;rw [n3] at e4;rw [n1] at e2;rw [n4];exact ⟨⟨_,e5,rfl⟩,h _ e5 e3 e4 e1 e2 up⟩
end
noncomputable def SqK (K:PySem.W.Frag) (k:Bool) (H:Hp) (a:Addr) (xs:List V):Prop:=match k with
 | true=>SqL K H a xs
 | false=>SqT K H a xs
noncomputable def ItI (h:Heap) (k:Bool) (it l:Addr) (i:Nat):Prop:=match k with
 | true=>h.IsListIter it l i
 | false=>h.IsTupleIter it l i
theorem SqK.mono {K:PySem.W.Frag}{k:Bool}{F H:Hp}{a:Addr}{xs:List V} (s:Same F H) (h:SqK K k F a xs):SqK K k H a xs:=by
 cases k with
 | true=>exact s.seq h
 | false=>exact zao s h
theorem Inv.sqK {X:Cx}{pins:List (Addr × Obj)}{σ:St}{H:Hp}{s:Shared}{k:Bool}{a:Addr}{xs:List V} (I:Inv X pins σ H s) (h:SqK X.K k H a xs):∃its:List Value,Vals xs its/\SrcO s.heap k a its.toArray:=by
 cases k with
 | true=>obtain ⟨its,r,p,_⟩:=I.list h;exact ⟨its,r,p.isList⟩
 | false=>obtain ⟨its,r,p,_⟩:=I.tuple h;exact ⟨its,r,p⟩
theorem Inv.sqK_inj {X:Cx}{pins:List (Addr × Obj)}{σ:St}{H:Hp}{s:Shared}{k:Bool}{a:Addr}{xs ys:List V} (I:Inv X pins σ H s) (h:SqK X.K k H a xs) (h' : SqK X.K k H a ys):xs=ys:=by
 cases k with
 | true=>exact I.list_inj h h'
 | false=>exact I.tuple_inj h h'
theorem ItI.src {h:Heap}{k:Bool}{it l:Addr}{i:Nat}{xs:Array Value} (a:ItI h k it l i) (b:SrcO h k l xs):Src h it l i xs:=by
 cases k with
 | true=>exact .inl ⟨a,b⟩
 | false=>exact .inr ⟨a,b⟩
theorem Src.itI {h:Heap}{k:Bool}{it l:Addr}{i:Nat}{xs:Array Value} (c:Src h it l i xs) (b:SrcO h k l xs):ItI h k it l i:=by
  cases k with
  | true =>
    rcases c with ⟨c,_⟩ | ⟨_,⟨o,e,q,_⟩⟩
    · exact c
    · obtain ⟨o', e', q', _⟩ := b
      rw [e] at e';obtain rfl:=sI e';rw [q] at q';simp at q'
  | false =>
    rcases c with ⟨_,⟨o,e,q,_⟩⟩ | ⟨c,_⟩
    · obtain ⟨o', e', q', _⟩ := b
      rw [e] at e';obtain rfl:=sI e';rw [q] at q';simp at q'
    · exact c
theorem ItI.at {h h' : Heap}{k:Bool}{it l:Addr}{i:Nat} (a:ItI h k it l i) (q:∀o,h.get? it=some o->h'.get? it=some o):ItI h' k it l i:=by
 cases k with
 | true=>exact Heap.IsListIter.at a q
 | false=>exact Heap.IsTupleIter.at a q
theorem ItI.obj {h:Heap}{k:Bool}{it l:Addr}{i:Nat} (a:ItI h k it l i):∃o,h.get? it=some o/\∀v,o.data≠.cell v:=by
 cases k with
 | true=>obtain ⟨o,e,_,d⟩:=a;exact ⟨o,e,fun v z=>by rw [d] at z;cases z⟩
 | false=>obtain ⟨o,e,_,d⟩:=a;exact ⟨o,e,fun v z=>by rw [d] at z;cases z⟩
noncomputable def Itz (K:PySem.W.Frag) (ka kb:Bool) (a b:Addr):It :=
 ⟨fun i H=>∃xs ys x y,SqK K ka H a xs/\SqK K kb H b ys/\xs[i]?=some x/\ys[i]?=some y,
  fun i H x H'=>∃p v u,x=.ref p/\H p=none/\H'=upd H p (.tup [v,u])/\(∀xs,SqK K ka H a xs->xs[i]?=some v)/\(∀ys,SqK K kb H b ys->ys[i]?=some u),
  fun i H=>∃xs ys,SqK K ka H a xs/\SqK K kb H b ys/\(xs.length<=i\/ys.length<=i)⟩
noncomputable def zSt (ka kb:Bool) (z TI TO i1 i2 a b:Addr) (i:Nat) (h:Heap):Prop:=IsZip h z TI TO .none/\IsPair h TI (.ref i1) (.ref i2)/\(∃u v,IsPair h TO u v)/\ItI h ka i1 a i/\ItI h kb i2 b i
theorem zvj {P:Program}{w:World}{K:PySem.W.Frag}{es:List Expr}{x1}{px:Pos} (ka kb:Bool) (z TI TO i1 i2 a b:Addr) (D:ZipApart z TI TO i1 i2 a b):Turn P w K (.Tuple es x1 px) (Itz K ka kb a b) [z,TI,TO,i1,i2] z (zSt ka kb z TI TO i1 i2 a b) where
 mem:=by simp
 obj:=fun i h st c hc=>by
  refine aG fun _ qG=>?_;obtain ⟨gz,gi,⟨u,v,go⟩,t1,t2⟩:=st;refine qG ?_;clear qG;simp only [List.mem_cons,List.mem_singleton,List.not_mem_nil,or_false] at hc;rcases hc with rfl | rfl | rfl | rfl | rfl
  ·exact ⟨_,gz,fun v q=>by cases q⟩
  ·exact ⟨_,gi,fun v q=>by cases q⟩
  ·exact ⟨_,go,fun v q=>by cases q⟩
  ·exact t1.obj
  ·exact t2.obj
 keep:=fun i h h' st k=>by
  refine aG fun _ qG=>?_;obtain ⟨gz,gi,⟨u,v,go⟩,t1,t2⟩:=st;refine qG ?_;clear qG;exact ⟨k z (by simp) _ gz,k TI (by simp) _ gi,⟨u,v,k TO (by simp) _ go⟩,t1.at fun o e=>k i1 (by simp) o e,t2.at fun o e=>k i2 (by simp) o e⟩
 item:=by
  intro X hP hw hK hc i pins s σ H E I hf st hg;subst hP hw hK;refine aG fun _ qG=>?_;obtain ⟨xs,ys,x,y,q1,q2,e1,e2⟩:=hg;obtain ⟨gz,gi,⟨u0,v0,go⟩,t1,t2⟩:=st;obtain ⟨its,r1,so1⟩:=I.sqK q1;obtain ⟨its',r2,so2⟩:=I.sqK q2;obtain ⟨u,hu,ru⟩:=r1.get e1;obtain ⟨v,hv,rv⟩:=r2.get e2;refine qG ?_;clear qG;refine zx2 D gz gi go (t1.src so1) (t2.src so2) (x:=u) (y:=v) (by simpa using hu) (by simpa using hv) fun h' g1 g2 g3 g4 g5 g6=>⟨_,rfl,?_⟩;refine wpAny_letOwnedTupleGo_zip g1 fun h'' k1 k2=>?_;have lt:∀c o,s.heap.get? c=some o->c≠s.heap.objs.size:=fun c o e=>Nat.ne_of_lt (Heap.lt_size e);have kk:∀c o,c ∉ [z,TI,TO,i1,i2]->s.heap.get? c=some o->h''.get? c=some o:=fun c o hb e=>by
   simp only [List.mem_cons,List.mem_singleton,List.not_mem_nil,or_false,not_or] at hb;exact (k2.2 c hb.1).trans (g6 c o hb.1 hb.2.2.1 hb.2.2.2.1 hb.2.2.2.2 e)
  obtain ⟨o1,eo1⟩:=(t1.src so1).src;obtain ⟨o2,eo2⟩:=(t2.src so2).src;have so1' : SrcO h' ka a its.toArray:=by
   cases ka with
   | true=>exact so1.at fun o e=>g6 a o D.l1z D.l1TO D.l1i1 D.l1i2 e
   | false=>obtain ⟨o,e,r⟩:=so1;exact ⟨o,g6 a o D.l1z D.l1TO D.l1i1 D.l1i2 e,r⟩
  have so2' : SrcO h' kb b its'.toArray:=by
   cases kb with
   | true=>exact so2.at fun o e=>g6 b o D.l2z D.l2TO D.l2i1 D.l2i2 e
   | false=>obtain ⟨o,e,r⟩:=so2;exact ⟨o,g6 b o D.l2z D.l2TO D.l2i1 D.l2i2 e,r⟩
  have t1' : ItI h'' ka i1 a (i+1):=(g3.itI so1').at fun o e=>(k2.2 i1 D.i1z).trans e;have t2' : ItI h'' kb i2 b (i+1):=(g4.itI so2').at fun o e=>(k2.2 i2 D.i2z).trans e;have gi' : IsPair h'' TI (.ref i1) (.ref i2):=(k2.2 TI D.TIz).trans (g6 TI _ D.TIz D.TITO D.TIi1 D.TIi2 gi);have go' : IsPair h'' TO u v:=(k2.2 TO D.TOz).trans g2;have Tz:s.heap.objs.size≠z:=(lt z _ gz).symm;refine ⟨.ref s.heap.objs.size,upd H s.heap.objs.size (.tup [x,y]),I.turnLay kk (fun c hb=>?_) hf (Nat.le_refl _) ⟨by show 2<=sizeLine;decide,[u,v],.cons ru (.cons rv .nil),?_⟩,rfl,⟨_,x,y,rfl,I.hok.fresh (Nat.le_refl _),rfl,fun zs hz=>by rw [I.sqK_inj hz q1];exact e1,fun zs hz=>by rw [I.sqK_inj hz q2];exact e2⟩,⟨k1,gi',⟨u,v,go'⟩,t1',t2'⟩,fun c hb=>?_⟩
  ·simp only [List.mem_cons, List.mem_singleton, List.not_mem_nil, or_false] at hb;rcases hb with rfl | rfl | rfl | rfl | rfl
   ·exact ⟨_,k1⟩
   ·exact ⟨_,gi'⟩
   ·exact ⟨_,go'⟩
   ·obtain ⟨o,e,_⟩:=t1'.obj;exact ⟨o,e⟩
   ·obtain ⟨o,e,_⟩:=t2'.obj;exact ⟨o,e⟩
  ·exact ⟨_,(k2.2 _ Tz).trans g5,⟨rfl,_,rfl⟩,rfl⟩
  ·have ne:c≠s.heap.objs.size:=by
    simp only [List.mem_cons,List.mem_singleton,List.not_mem_nil,or_false] at hb;rcases hb with rfl | rfl | rfl | rfl | rfl
    ·exact lt _ _ gz
    ·exact lt _ _ gi
    ·exact lt _ _ go
    ·obtain ⟨o,e,_⟩:=t1.obj;exact lt _ _ e
    ·obtain ⟨o,e,_⟩:=t2.obj;exact lt _ _ e
   rw [upd_ne ne];exact (hf c hb).1
 done:=by
  intro X hP hw hK hc i pins s σ H E I hf st hg;subst hP hw hK;refine aG fun _ qG=>?_;obtain ⟨xs,ys,q1,q2,he⟩:=hg;obtain ⟨gz,gi,⟨u0,v0,go⟩,t1,t2⟩:=st;obtain ⟨its,r1,so1⟩:=I.sqK q1;obtain ⟨its',r2,so2⟩:=I.sqK q2;refine qG ?_;clear qG;have l1:=r1.length;have l2:=r2.length;refine z3c (I.ok.hd hc) D gz gi go (t1.src so1) (t2.src so2) ?_ fun h' k=>⟨rfl,I.turnL (t':=s.toks) (ch:=[z,TI,TO,i1,i2]) (fun c o hb e=>?_) hf⟩
  ·rcases he with he | he
   ·exact .inl (Array.getElem?_eq_none (by simp;omega))
   ·exact .inr (Array.getElem?_eq_none (by simp;omega))
  ·simp only [List.mem_cons, List.mem_singleton, List.not_mem_nil, or_false, not_or] at hb;exact k c o hb.1 hb.2.2.1 hb.2.2.2.1 hb.2.2.2.2 e
 self:=fun _ _ _ _ _ st h=>wpAny_pyIter_zip st.1 h
theorem zs6:bootBuiltins "zip" = some (.type "zip"):=by decide +kernel
section
variable {X:Cx}
noncomputable def iZip (K:PySem.W.Frag) (ta:TA):TI:=fun σ H R=>ta σ H fun vs H1=>∃a b ka kb xs ys,vs=[.ref a,.ref b]/\SqK K ka H1 a xs/\SqK K kb H1 b ys/\R (Itz K ka kb a b) H1
theorem z2e {es:List Expr}{x1}{px:Pos}{l m:Expr}{tl:TA}{p pos:Pos} (hg:Gl X "zip") (hm:X.mg "zip" = none) (hl:PA X [l,m] tl) (hs:starEach [l,m] X.env=[(false,eval l X.env),(false,eval m X.env)]) (hs2:starEach [m] X.env=[(false,eval m X.env)]) :
    PI X (.Tuple es x1 px) (.Call (.Name "zip" p) [l,m] [] pos) (iZip X.K tl):=by
  intro pins s σ H R I h;refine Call_ (zc4 I hg hm zs6 (PyProof.Rows.callWith_type1 (thn (hl pos pins s σ H _ I h) fun us s1 ⟨vs,H1,I1,r1,q1⟩=>?_) (by rw [hs,hs2]) (by rw [hs2];rfl)));refine aG fun _ qG=>?_;obtain ⟨a,b,ka,kb,xs,ys,e,q2,q3,q⟩:=q1;refine qG ?_;clear qG;subst e;cases r1 with
  | cons r rr =>
    cases rr with
    | cons r' rr =>
      cases rr;cases r;cases r';refine aG fun _ qG=>?_;obtain ⟨its,rv1,so1⟩:=I1.sqK q2;obtain ⟨its',rv2,so2⟩:=I1.sqK q3;refine qG ?_;clear qG;refine zt1 so1 so2 fun h' g1 g2 g3 g4 g5 up=>wpAny_pyIter_zip g1 ?_;have la:a < s1.heap.objs.size:=by
        cases ka with
        | true=>obtain ⟨o,e,_⟩:=so1;exact Heap.lt_size e
        | false=>obtain ⟨o,e,_⟩:=so1;exact Heap.lt_size e
      have lb:b < s1.heap.objs.size:=by
        cases kb with
        | true=>obtain ⟨o,e,_⟩:=so2;exact Heap.lt_size e
        | false=>obtain ⟨o,e,_⟩:=so2;exact Heap.lt_size e
      have D:ZipApart (s1.heap.objs.size+4) (s1.heap.objs.size+2) (s1.heap.objs.size+3) s1.heap.objs.size (s1.heap.objs.size+1) a b:=by
        have up:∀{c:Addr} (k:Nat),c < s1.heap.objs.size->c≠s1.heap.objs.size+k:=fun k h=>Nat.ne_of_lt (Nat.lt_of_lt_of_le h (Nat.le_add_right _ k));refine ⟨?_,?_,?_,?_,?_,?_,?_,?_,?_,?_,up 4 la,up 3 la,up 0 la,up 1 la,up 4 lb,up 3 lb,up 0 lb,up 1 lb⟩<;>(intro z;have z' : (_:Nat)=_:=z;omega)
      have t1:ItI h' ka s1.heap.objs.size a 0:=by cases ka<;>exact ⟨_,g4,rfl,rfl⟩
      have t2:ItI h' kb (s1.heap.objs.size+1) b 0:=by cases kb<;>exact ⟨_,g5,rfl,rfl⟩
      refine ⟨_,_,_,_,H1,rfl,I1.kept (t':=s1.toks) up,zvj ka kb _ _ _ _ _ a b D,⟨g1,g2,⟨_,_,g3⟩,t1,t2⟩,fun c hb=>?_,q⟩;have le:s1.heap.objs.size<=c:=by
        simp only [List.mem_cons,List.mem_singleton,List.not_mem_nil,or_false] at hb;rcases hb with rfl | rfl | rfl | rfl | rfl
        · exact Nat.le_add_right _ _
        · exact Nat.le_add_right _ _
        · exact Nat.le_add_right _ _
        · exact Nat.le_refl _
        · exact Nat.le_add_right _ _
      exact I1.fpOk le (I1.hok.fresh le)
end
noncomputable def zipW:List W->List W->List W
 | x::xs,y::ys=>.tup [x,y]::zipW xs ys
 | _,_=>[]
theorem zdh:∀(xs ys:List W),(zipW xs ys).length=min xs.length ys.length
 | [],_=>by simp [zipW]
 | _::_,[]=>by simp [zipW]
 | _::xs,_::ys=>by simp only [zipW,List.length_cons,zdh xs ys];omega
theorem zgf:∀{xs ys:List W}{i:Nat}{x y:W},xs[i]?=some x->ys[i]?=some y->(zipW xs ys)[i]?=some (.tup [x,y])
  | [],_,_,_,_,e,_=>by simp at e
  | _::_,[],_,_,_,_,e=>by simp at e
  | _::xs,_::ys,0,_,_,e,e'=>by simp at e e';subst e e';rfl
  | _::xs,_::ys,i+1,x,y,e,e'=>by
    show (zipW xs ys)[i]?=_;exact zgf (by simpa using e) (by simpa using e')
noncomputable def gZip (g g' : GE):GL:=fun en=>(g en).bind fun p=>(g' p.1).bind fun q=>(seqW p.2.1).bind fun ws=>(seqW q.2.1).bind fun us=>some (q.1,zipW ws us)
section
variable {K:PySem.W.Frag}{F H:Hp}{σ:St}
theorem zbc {w:W}{ws:List W}{v:V} (y:Rep K F w v) (hs:seqW w=some ws):∃a k vs,v=.ref a/\SqK K k F a vs/\Reps K F ws vs:=by
  cases w with
  | lst xs=>obtain rfl:=sI hs;cases y with
    | lst y r=>exact ⟨_,true,_,rfl,SqL.of' y,r⟩
  | frl xs=>obtain rfl:=sI hs;cases y with
    | frl y r=>exact ⟨_,true,_,rfl,y,r⟩
  | tup xs=>obtain rfl:=sI hs;cases y with
    | tup y r=>exact ⟨_,false,_,rfl,.inl (.inl y),r⟩
  | _=>exact noSome hs
theorem z2v {a b:Addr}{ka kb:Bool}{vs us:List V}{ws zs:List W} (h:SqK K ka F a vs) (h' : SqK K kb F b us) (r:Reps K F ws vs) (r' : Reps K F zs us):ItOk K F (Itz K ka kb a b) (zipW ws zs) where
 go:=fun i H s hi=>by
  rw [zdh] at hi;have l1:i < vs.length:=by rw [<-r.length];omega
  have l2:i < us.length:=by rw [<-r'.length];omega
  exact ⟨vs,us,vs[i],us[i],h.mono s,h'.mono s,List.getElem?_eq_getElem l1,List.getElem?_eq_getElem l2⟩
 stop:=fun H s=>⟨vs,us,h.mono s,h'.mono s,by rw [zdh,r.length,r'.length];omega⟩
 yld:=fun i H x H' s hi y=>by
  refine aG fun _ qG=>?_;obtain ⟨p,v,u,e1,hp,e2,y1,y2⟩:=y;refine qG ?_;clear qG;subst e1 e2;refine aG fun _ qG=>?_;obtain ⟨w1,g1,q1⟩:=r.getV (y1 vs (h.mono s));obtain ⟨w2,g2,q2⟩:=r'.getV (y2 us (h'.mono s));refine qG ?_;clear qG;exact ⟨_,zgf g1 g2,.tup hp (.cons q1 (.cons q2 .nil))⟩
theorem zum {g g' : GE}{R:It->Hp->Prop} (h:tI K (gZip g g') σ H R):iZip K (zcp (tE K g) (zcp (tE K g') tNil)) σ H R:=by
 refine aG fun _ qG=>?_;obtain ⟨F,pr,en,en',ws,Re,h,q⟩:=h;obtain ⟨⟨e1,r1⟩,h1,h⟩:=bS h;obtain ⟨⟨e2,r2⟩,h2,h⟩:=bS h;obtain ⟨us,hs,h⟩:=bS h;obtain ⟨zs,hs',h⟩:=bS h;refine qG ?_;clear qG;cases h;refine ⟨F,pr,en,e1,r1,Re,h1,fun F1 H1 v s1 R1 z=>?_⟩;refine aG fun _ qG=>?_;obtain ⟨F2,s2,R2,y⟩:=z.freeze R1;refine qG ?_;clear qG;refine ⟨F2,pr,e1,e2,r2,R2,h2,fun F3 H3 v' s3 R3 z'=>?_⟩;refine aG fun _ qG=>?_;obtain ⟨F4,s4,R4,y'⟩:=z'.freeze R3;obtain ⟨a,ka,vs,ea,qa,ra⟩:=zbc (y.mono (s3.trans s4)) hs;obtain ⟨b,kb,vs',eb,qb,rb⟩:=zbc y' hs';refine qG ?_;clear qG;subst ea eb;exact ⟨a,b,ka,kb,vs,vs',rfl,qa.mono R4.sub,qb.mono R4.sub,q F4 H3 _ (s1.trans (s2.trans (s3.trans s4))) R4 (z2v qa qb ra rb)⟩
end
end L2
namespace L2
open PySem PySem.Spec PyProof.Rows
open AutoSeq1 (wpAny_loadPart')
section
variable {prog:Program}{w:World}{A:Around}{E:Value->Shared->Prop}{s:Shared}
theorem zpm {it l:Addr}{xs:Array Value} (ne:l≠it) (hn:A.handled=none):Draws prog w A.in1 it [it,l] xs.size (fun i x=>xs[i]?=some x) (fun k h=>h.IsTupleIter it l k/\h.IsTuple l xs) where
 live:=fun i h st=>let ⟨⟨o,e,_⟩,_⟩:=st;⟨o,e⟩
 frame:=fun i h h' st k=>⟨st.1.at fun o e=>k it (by simp) o e,let ⟨o,e,r⟩:=st.2;⟨o,k l (by simp) o e,r⟩⟩
 item:=fun i s Q E hi st q=>zes (k:=i) (xs:=xs) (x:=xs[i]) (.inr st) (Array.getElem?_eq_getElem hi) ne fun h' c sb=>by
  rcases c with ⟨⟨o,e,c1,_⟩,c2⟩ | c
  ·obtain ⟨o', e', c1', _⟩ := st.1;have:=st.2;exact absurd c2 (fun c2=>by
    obtain ⟨o2,e2,c3,_⟩:=c2;obtain ⟨o3,e3,c4,_⟩:=st.2;rw [(sb.2 l ne).trans e3] at e2;obtain rfl:=sI e2;rw [c4] at c3;exact absurd (Value.type.inj c3) (by decide))
  ·exact q xs[i] h' s.toks (Array.getElem?_eq_getElem hi) c sb
 done:=fun s Q E st q=>zg6 (k:=xs.size) (xs:=xs) (show A.in1.handled=none from hn) (.inr st) (Array.getElem?_eq_none (Nat.le_refl _)) q
theorem zlo (l:Addr) (items:Array Value) (n:Nat) (dct:Option Addr) (sl:Array (Option Value)) :
  Meets (Builtin.«enumerate.__new__» ⟨[.type "enumerate",.ref l],[]⟩) (fun _ R s=>s.heap.get? l=some { cls:=.type "tuple",dict:=dct,data:=.seq items n,slots:=sl } /\
   R (.ok (.ret (.ref (s.heap.push { cls:=.type "tuple_iterator",data:=.fields #[.ref l,.int 0 0] }).objs.size)))
    { s with heap:=(s.heap.push { cls:=.type "tuple_iterator",data:=.fields #[.ref l,.int 0 0] }).push { cls:=.type "enumerate",data:=.fields #[.none,.bool false,.ref s.heap.objs.size,rawInt 0,.none,.none] } }) :=
 .of_wp fun prog w A R s h=>by
  obtain ⟨hp,g,d,tk,os⟩:=s;obtain ⟨hl,h⟩:=h;have hsub:=sub_enumerate;have hL:Heap.IsTuple (Shared.heap ⟨hp,g,d,tk,os⟩) l items:=⟨_,hl,rfl,n,rfl⟩
  wp_walk using wpAny_loadPart' hl
  refine wpAny_stack_any fun st=>wpAny_pure ?_;split
  ·rename_i c _ _ _ _ _;cases (c == Value.type "enumerate")<;>(wp_walk using wpAny_loadPart' hl,wpAny_pyIter_tuple hL)<;>exact ⟨_,rfl,h⟩
  ·wp_walk using wpAny_loadPart' hl, wpAny_pyIter_tuple hL
   exact ⟨_,rfl,h⟩
theorem znt {l:Addr}{items:Array Value}{Q:Value->Shared->Prop} (hL:s.heap.IsTuple l items)
  (h:∀h',IsEnum h' (s.heap.objs.size+1) s.heap.objs.size 0 .none->h'.IsTupleIter s.heap.objs.size l 0->(∀b o,s.heap.get? b=some o->h'.get? b=some o)->Q (.ref (s.heap.objs.size+1)) { s with heap:=h' }) :
  wpAny (model prog w) A (call (.type "enumerate") [.ref l]) Q E s:=by
 refine aG fun _ qG=>?_;obtain ⟨⟨c,dct,dt,sl⟩,hl,hc,n,hd⟩:=hL;refine qG ?_;clear qG;cases (show c=.type "tuple" from hc);cases (show dt=.seq items n from hd);refine callType_new F.called_enumerate (by decide) (F.typeCall_enumerate_1 _) (F.newCall_enumerate_1 _) (fun obj=>F.args_object_init_2 obj _) F.entry_enumerate_new (zlo l items n dct sl) ⟨hl,?_⟩;have hz:(s.heap.push { cls:=.type "tuple_iterator",data:=.fields #[.ref l,.int 0 0] }).objs.size=s.heap.objs.size+1:=Heap.size_push ..;show _/\_;rw [hz];have he:=Heap.get?_push_size (s.heap.push { cls:=.type "tuple_iterator",data:=.fields #[.ref l,.int 0 0] }) (o:={ cls:=.type "enumerate",data:=.fields #[.none,.bool false,.ref s.heap.objs.size,rawInt 0,.none,.none] }) rfl;rw [hz] at he;exact ⟨⟨_,he,rfl⟩,h _ he ⟨_,Heap.get?_push_of_some _ (Heap.get?_push_size _ rfl),rfl,rfl⟩ fun b o x=>Heap.get?_push_of_some _ (Heap.get?_push_of_some _ x)⟩
end
noncomputable def IteT (K:PySem.W.Frag) (a:Addr):It :=
 ⟨fun i H=>∃xs x,SqT K H a xs/\xs[i]?=some x,fun i H x H'=>∃p v,x=.ref p/\H p=none/\H'=upd H p (.tup [.int i,v])/\∀xs,SqT K H a xs->xs[i]?=some v,fun i H=>∃xs,SqT K H a xs/\xs.length<=i⟩
theorem zns {P:Program}{w:World}{K:PySem.W.Frag}{es:List Expr}{x1}{px:Pos} (a e it:Addr) (hei:e≠it) (hea:e≠a) (hai:a≠it):Turn P w K (.Tuple es x1 px) (IteT K a) [e,it] e (fun i h=>(∃old,IsEnum h e it i old)/\h.IsTupleIter it a i) where
 mem:=by simp
 obj:=fun i h st b hb=>by
  refine aG fun _ qG=>?_;obtain ⟨⟨old,he⟩,o,hi,c,d⟩:=st;refine qG ?_;clear qG;rcases List.mem_cons.mp hb with rfl | hb
  ·exact ⟨_,he,fun v z=>by cases z⟩
  ·have : b = it := by simpa using hb
   subst this;exact ⟨o,hi,fun v z=>by rw [d] at z;cases z⟩
 keep:=fun i h h' st k=>⟨let ⟨old,he⟩:=st.1;⟨old,k e (by simp) _ he⟩,st.2.at fun o z=>k it (by simp) o z⟩
 item:=by
  intro X hP hw hK hc i pins s σ H E I hf st hg;subst hP hw hK;refine aG fun _ qG=>?_;obtain ⟨xs,x,hq,hx⟩:=hg;obtain ⟨its,rv,p,hz⟩:=I.tuple hq;obtain ⟨u,hu,ru⟩:=rv.get hx;obtain ⟨⟨old,he⟩,hit⟩:=st;refine qG ?_;clear qG;have hT:s.heap.IsTuple a its.toArray:=p;have lt:i < its.toArray.size:=by
   rw [List.size_toArray];exact (List.getElem?_eq_some_iff.mp hu).1
  refine wpAny_pyNext_enum_itemD (zpm hai (I.ok.hd hc)) he ⟨hit,hT⟩ lt hei (by simp [hei,hea]) fun y h' tk hy ho hst hT' hsz hk=>⟨_,rfl,?_⟩;have eu:y=u:=by
   have:its[i]?=some y:=by simpa using hy
   rw [hu] at this;exact (sI this).symm
  subst eu;refine wpAny_letOwnedTupleGo_enum ho fun h'' he'' hs''=>?_;have kk:∀b o,b ∉ [e,it]->s.heap.get? b=some o->h''.get? b=some o:=fun b o hb q=>by
   have h1:b≠e:=fun z=>hb (by simp [z]);have h2:b≠it:=fun z=>hb (by simp [z]);exact (hs''.2 b h1).trans (hk b o h1 h2 q)
  have hTe:s.heap.objs.size≠e:=fun z=>absurd (Heap.lt_size he) (by rw [z];exact Nat.lt_irrefl _);have hit'' : h''.IsTupleIter it a (i+1):=hst.1.at fun o y=>(hs''.2 it hei.symm).trans y;refine ⟨.ref s.heap.objs.size,upd H s.heap.objs.size (.tup [.int i,x]),I.turnLay kk (fun b hb=>?_) hf (Nat.le_refl _) ⟨by show 2<=sizeLine;decide,[.int i tk,y],.cons ⟨_,rfl⟩ (.cons ru .nil),?_⟩,rfl,⟨_,x,rfl,I.hok.fresh (Nat.le_refl _),rfl,fun ys hy=>by rw [I.tuple_inj hy hq];exact hx⟩,⟨⟨_,by simpa using he''⟩,hit''⟩,fun b hb=>?_⟩
  ·rcases List.mem_cons.mp hb with rfl | hb
   ·exact ⟨_,he''⟩
   ·have : b = it := by simpa using hb
    subst this;obtain ⟨o,z,_⟩:=hit'';exact ⟨o,z⟩
  ·exact ⟨_,(hs''.2 _ hTe).trans hT',⟨rfl,_,rfl⟩,rfl⟩
  ·have:b≠s.heap.objs.size:=by
    rcases List.mem_cons.mp hb with rfl | hb
    ·exact hTe.symm
    ·have e2 : b = it := by simpa using hb
     subst e2;obtain ⟨o,z,_⟩:=hit;exact Nat.ne_of_lt (Heap.lt_size z)
   rw [upd_ne this];exact (hf b hb).1
 done:=by
  intro X hP hw hK hc i pins s σ H E I hf st hg;subst hP hw hK;refine aG fun _ qG=>?_;obtain ⟨xs,hq,hx⟩:=hg;obtain ⟨its,rv,p,hz⟩:=I.tuple hq;obtain ⟨⟨old,he⟩,hit⟩:=st;obtain ⟨f0,f1,f2,f3,f4,f5⟩:=hf it (by simp);refine qG ?_;clear qG;have hl:=rv.length;have hT:s.heap.IsTuple a its.toArray:=p;have hTy:s.TypeIs (.ref e) "enumerate" := ⟨_,he,rfl⟩;unfold pyNext;refine wpAny_bind (wpAny_attempt (wpAny_callSpecial?_slot (name:=Str.ofString "__next__") hTy F.slot_enumerate_next (wpAny_call_entry F.slot_enumerate_next hTy F.entry_enumerate_next ?_ (F.args_enumerate_next_1 _))));show wpAny _ _ (field (.ref e) 2 >>= _) _ _ _;refine wpAny_bind (wpAny_field he rfl (x:=.ref it) rfl ?_);refine wpAny_bind (zg6 (show _=none from I.ok.hd hc) (.inr ⟨hit,hT⟩) (Array.getElem?_eq_none (by simp;omega)) fun h' x eb hx'=>?_);obtain ⟨o,ho,hc'⟩:=hx';refine wpAny_bind (wpAny_isInstance (T := "StopIteration") (b:=true) ⟨o,ho,hc'⟩ isSubtype_stop ?_);exact wpAny_pure ⟨rfl,I.turned (t':=s.toks) (fun b o hb e=>eb b o hb e) f0 f1 f3 f4 f5⟩
 self:=fun _ _ _ _ _ st h=>let ⟨_,he⟩:=st.1;wpAny_pyIter_enum he h
section
variable {X:Cx}
noncomputable def zv7 (K:PySem.W.Frag) (ta:TA):TI:=fun σ H R=>ta σ H fun vs H1=>∃a xs,vs=[.ref a]/\(SqL K H1 a xs/\R (Ite K a) H1\/SqT K H1 a xs/\R (IteT K a) H1)
theorem zs1 {es:List Expr}{x1}{px:Pos}{l:Expr}{tl:TA}{p pos:Pos} (hg:Gl X "enumerate") (hm:X.mg "enumerate" = none) (hl:PA X [l] tl) (hs:starEach [l] X.env=[(false,eval l X.env)]:=by rfl) :
    PI X (.Tuple es x1 px) (.Call (.Name "enumerate" p) [l] [] pos) (zv7 X.K tl):=by
  intro pins s σ H R I h;refine Call_ (zc4 I hg hm boot_enumerate (PyProof.Rows.callWith_type1 (thn (hl pos pins s σ H _ I h) fun us s1 ⟨vs,H1,I1,r1,q1⟩=>?_) hs rfl));obtain ⟨a,xs,e,q⟩:=q1;subst e;cases r1 with
  | cons r rr =>
    cases rr;cases r;have fp:∀b∈[s1.heap.objs.size+1,s1.heap.objs.size],FpOk X pins H1 b:=fun b hb=>by
      have e:s1.heap.objs.size<=b:=by
        rcases List.mem_cons.mp hb with rfl | hb
        · exact Nat.le_succ _
        · have e2 : b = s1.heap.objs.size := by simpa using hb
          rw [e2];exact Nat.le_refl _
      exact I1.fpOk e (I1.hok.fresh e)
    rcases q with ⟨hq,q⟩ | ⟨hq,q⟩
    · obtain ⟨its, rv, p', hz⟩ := I1.list hq
      refine call_enumerate_list p'.isList fun h' he hit hsz hk=>wpAny_pyIter_enum he ?_;exact ⟨s1.heap.objs.size+1,[s1.heap.objs.size+1,s1.heap.objs.size],_,_,H1,rfl,I1.kept (t':=s1.toks) hk,zsq a _ _ (Nat.succ_ne_self _),⟨⟨_,by simpa using he⟩,hit⟩,fp,q⟩
    · obtain ⟨its, rv, p', hz⟩ := I1.tuple hq
      have hT:s1.heap.IsTuple a its.toArray:=p';have al:a < s1.heap.objs.size:=let ⟨o,e,_⟩:=hT;Heap.lt_size e;refine znt hT fun h' he hit hk=>wpAny_pyIter_enum he ?_;exact ⟨s1.heap.objs.size+1,[s1.heap.objs.size+1,s1.heap.objs.size],_,_,H1,rfl,I1.kept (t':=s1.toks) hk,zns a _ _ (Nat.succ_ne_self _) (Nat.ne_of_gt (Nat.lt_succ_of_lt al)) (Nat.ne_of_lt al),⟨⟨_,by simpa using he⟩,hit⟩,fp,q⟩
end
section
variable {K:PySem.W.Frag}{F H:Hp}{σ:St}
theorem zui {a:Addr}{vs:List V}{ws:List W} (h:SqT K F a vs) (r:Reps K F ws vs):ItOk K F (IteT K a) (zei ws 0) where
 go:=fun i H s hi=>by rw [za8] at hi;exact ⟨vs,vs[i]'(by rw [<-r.length];exact hi),zao s h,by rw [List.getElem?_eq_getElem]⟩
 stop:=fun H s=>⟨vs,zao s h,by rw [za8,r.length];exact Nat.le_refl _⟩
 yld:=fun i H x H' s hi y=>by
  refine aG fun _ qG=>?_;obtain ⟨p,v,e,hp,e2,y⟩:=y;refine qG ?_;clear qG;subst e e2;obtain ⟨w,e,q⟩:=r.getV (y vs (zao s h));refine ⟨_,zcn e,?_⟩;rw [Nat.zero_add];exact .tup hp (.cons (.int _) (.cons q .nil))
noncomputable def zn9 (g:GE):GL:=fun en=>(g en).bind fun p=>(seqW p.2.1).bind fun ws=>some (p.1,zei ws 0)
theorem zsp {g:GE}{R:It->Hp->Prop} (h:tI K (zn9 g) σ H R):zv7 K (zcp (tE K g) tNil) σ H R:=by
 refine aG fun _ qG=>?_;obtain ⟨F,pr,en,en',ws,Re,h,q⟩:=h;obtain ⟨⟨e1,rv⟩,h1,h⟩:=bS h;obtain ⟨us,hs,h⟩:=bS h;refine qG ?_;clear qG;cases h;refine ⟨F,pr,en,e1,rv,Re,h1,fun F1 H1 v s1 R1 z=>?_⟩;refine aG fun _ qG=>?_;obtain ⟨F2,s2,R2,y⟩:=z.freeze R1;obtain ⟨a,k,vs,e,hq,r⟩:=zbc y hs;refine qG ?_;clear qG;subst e;cases k with
 | true=>exact ⟨a,vs,rfl,.inl ⟨R2.sub.seq hq,q F2 H1 _ (s1.trans s2) R2 (zyi hq r)⟩⟩
 | false=>exact ⟨a,vs,rfl,.inr ⟨zao R2.sub hq,q F2 H1 _ (s1.trans s2) R2 (zui hq r)⟩⟩
end
end L2
namespace L2
open PySem PySem.Spec PyProof.Rows
section
variable {X:Cx}{pins:List (Addr × Obj)}{σ:St}{H:Hp}{s:Shared}
noncomputable def okD (d:PyData):Bool:=d.showable && !d.hasDict && decide (d.depth<=100) && decide (d.shown.length<=sizeLine)
noncomputable def z5e:List V->Hp->VK->Prop:=fun xs H Q=>∃a d,xs=[.ref a]/\DV H (.ref a) d/\okD d=true/\Q (.str d.shown) H
theorem zzm {d:PyData} (h:okD d=true):d.showable=true/\d.hasDict=false/\d.depth<=100/\d.shown.length<=sizeLine:=by
 unfold okD at h;rw [Bool.and_eq_true,Bool.and_eq_true,Bool.and_eq_true] at h;exact ⟨h.1.1.1,by simpa using h.1.1.2,of_decide_eq_true h.1.2,of_decide_eq_true h.2⟩
noncomputable def zqr:List V->Hp->VK->Prop:=fun xs H Q=>(∃i,xs=[.int i]/\i.natAbs.log2 < 1920/\Q (.str (toString i)) H)\/(xs=[.non]/\Q (.str "None") H)\/(∃b:Bool,xs=[.bl b]/\Q (.str (if b then "True" else "False")) H)\/z5e xs H Q
theorem zju {k:Nat} (hr:Room k X.A):zbu X (.builtin "repr") zqr:=by
 intro pins s σ H xs us Q I r h;rcases h with h | h | h | h
 ·refine aG fun Gg qG => ?_;obtain ⟨i,rfl,hi,q⟩:=h;obtain ⟨u,rfl,ru⟩:=r.one;obtain ⟨t,rfl⟩:=(show ∃t,u=Value.int i t from ru);refine qG ?_;clear qG;exact PySem.P.repr_of_int hi ⟨.str _,H,I.tok _,⟨_,rfl⟩,q⟩
 ·obtain ⟨rfl, q⟩ := h;obtain ⟨u,rfl,ru⟩:=r.one;obtain rfl:=(show u=Value.none from ru);exact PySem.P.repr_of_none ⟨.str _,H,I.tok _,⟨_,rfl⟩,q⟩
 ·obtain ⟨b, rfl, q⟩ := h;obtain ⟨u,rfl,ru⟩:=r.one;obtain rfl:=(show u=Value.bool b from ru);exact PySem.P.repr_of_bool ⟨.str _,H,I.tok _,⟨_,rfl⟩,q⟩
 ·refine aG fun Gg qG => ?_;obtain ⟨a,d,rfl,dv,ok,q⟩:=h;obtain ⟨u,rfl,ru⟩:=r.one;refine qG ?_;clear qG;cases ru;refine aG fun _ qG=>?_;obtain ⟨as,rd⟩:=dv.reads I rfl;obtain ⟨o1,o2,o3,o4⟩:=zzm ok;refine qG ?_;clear qG;exact repr_of_reads' rd o1 (fun z=>by rw [o2] at z;cases z) hr.gd (by have:=hr.un;omega) (fun _ _ e=>e) (fun h' u tk hk=>⟨.str _,H,I.kept (t':=tk) hk,⟨_,rfl⟩,q⟩) o4
end
section
variable {K:PySem.W.Frag}{F H:Hp}
noncomputable def zxh (w:W):Option (W × Bool):=(seqW w).bind fun _=>(dW w).bind fun d=>if okD d then some (.str d.shown,false) else none
noncomputable def zlg:ON
 | [.int i]=>if i.natAbs.log2 < 1920 then some (.str (toString i),false) else none
 | [.non]=>some (.str "None",false)
 | [.bl b]=>some (.str (if b then "True" else "False"),false)
 | [w]=>zxh w
 | _=>none
theorem zx6 {w:W}{v:V}{rv:W × Bool} (s:Same F H) (r:RepB K F H w v) (e:zxh w=some rv):∃a d,v=.ref a/\DV H (.ref a) d/\okD d=true/\rv=(.str d.shown,false):=by
  unfold zxh at e;refine aG fun _ qG=>?_;obtain ⟨ws,hs,e⟩:=bS e;obtain ⟨d,hd,e⟩:=bS e;refine qG ?_;clear qG;split at e
  · rename_i ok
    obtain rfl:=sI e;rcases r with r | ⟨a,o,us,z,rfl,h,q⟩
    · have dv := rep_dv s r hd
      cases r with
      | tup h _=>exact ⟨_,d,rfl,dv,ok,rfl⟩
      | lst h _=>exact ⟨_,d,rfl,dv,ok,rfl⟩
      | frl h _=>exact ⟨_,d,rfl,dv,ok,rfl⟩
      | _=>exact noSome hs
    · subst z
      cases q with
      | dct hl q=>exact noSome hs
      | dctT hl q=>exact noSome hs
      | lst q =>
        rw [dW] at hd;obtain ⟨ds,e1,e2⟩:=bS hd;obtain rfl:=sI e2;exact ⟨a,_,rfl,.lst h (zey s q e1),ok,rfl⟩
  · exact noSome e
theorem oRepr_ok:OpSN K zqr zlg:=fun F H ws vs rv Q s r e q=>by
  match ws,e with
  | [w],e =>
    obtain ⟨v,e1,hv⟩:=r.one;subst e1;cases w with
    | int i =>
      have e' : (if i.natAbs.log2 < 1920 then some (W.str (toString i),false) else none)=some rv:=e;by_cases z:i.natAbs.log2 < 1920
      · rw [if_pos z] at e'
        obtain rfl:=sI e';exact .inl ⟨i,by rw [hv.int],z,q _ _ (.val (.str _))⟩
      · rw [if_neg z] at e'
        exact noSome e'
    | non =>
      obtain rfl:=sI e;exact .inr (.inl ⟨by rw [hv.non],q _ _ (.val (.str _))⟩)
    | bl b =>
      obtain rfl:=sI e;exact .inr (.inr (.inl ⟨b,by rw [hv.bl],q _ _ (.val (.str _))⟩))
    | _ =>
      obtain ⟨a,d,rfl,dv,ok,rfl⟩:=zx6 s hv e;exact .inr (.inr (.inr ⟨a,d,rfl,dv,ok,q _ _ (.val (.str _))⟩))
  | [],e=>exact noSome e
  | a::b::l,e=>cases a<;>exact noSome e
end
end L2
namespace L2
open PySem PySem.Spec PyProof.Rows
noncomputable abbrev Fn:=List W->Option (List W × (W × Bool))
noncomputable def zav (m:List Bool) (ws:List W):En:=List.zipWith (fun w b=>some (w,b)) ws m
noncomputable def spF (K:PySem.W.Frag) (m:List Bool) (Φ:Fn):Sp:=fun vs H Q _=>∃F pr ws ws' r,ws.length=m.length/\ws'.length=m.length/\Rel K F pr (zav m ws) (vs.map some) H/\Φ ws=some (ws',r) /\
 ∀F' H' v,Same F F'->Rel K F' pr (zav m ws') (vs.map some) H'->Res K F' H' pr (zav m ws') (vs.map some) r v->Q v H'
theorem zdl {m:List Bool}{ws:List W}{k:Nat}{w:W}{b:Bool}:(zav m ws)[k]?=some (some (w,b))↔ws[k]?=some w/\m[k]?=some b:=by
 unfold zav;rw [List.getElem?_zipWith];cases ws[k]?<;>cases m[k]?<;>simp
theorem zdg {m:List Bool}{ws:List W} (h:ws.length=m.length):(zav m ws).length=m.length:=by
 unfold zav;rw [List.length_zipWith,h,Nat.min_self]
theorem zoz {K:PySem.W.Frag}{m:List Bool}{Φ:Fn}{vs:List V}{H:Hp}{Q:VK}{E:XK} (h:spF K m Φ vs H Q E):vs.length=m.length:=by
 obtain ⟨F,pr,ws,ws',r,h1,_,R,_⟩:=h;have:=R.len;rw [zdg h1,List.length_map] at this;exact this.symm
noncomputable def isR:W ⊕ Nat->Bool
 | .inr _=>true
 | .inl _=>false
noncomputable def zau (xs:List (W ⊕ Nat)):Cap:=xs.map fun x=>match x with
 | .inr i=>some i
 | .inl _=>none
noncomputable def zam (en:En) (xs:List (W ⊕ Nat)):Bool:=xs.all fun x=>match x with
  | .inr i=>match en[i]? with
    | some (some (_,true))=>true
    | _=>false
  | .inl _=>true
noncomputable def zae (m:List Bool) (Φ:Fn) (as:GAs):GE:=fun en=>(as en).bind fun p=>if decide (p.2.map isR=m) && zam p.1 p.2 && zbr (zau p.2) then (zat p.1 p.2).bind fun ws=>(Φ ws).bind fun q=>if q.1.length=m.length then some (zaq (zau p.2) p.1 (zav m q.1),q.2) else none else none
theorem ArgRs.get {K:PySem.W.Frag}{F:Hp}{σ:St}:∀{xs:List (W ⊕ Nat)}{vs:List V}{k:Nat}{x:W ⊕ Nat},ArgRs K F σ xs vs->xs[k]?=some x->∃v,vs[k]?=some v/\ArgR K F σ x v
  | _,_,_,_,.nil,e=>by simp at e
  | _,_,0,_,.cons h _,e=>by simp at e;subst e;exact ⟨_,rfl,h⟩
  | _,_,k+1,x,.cons _ r,e=>by
    obtain ⟨v,h1,h2⟩:=ArgRs.get (k:=k) (x:=x) r (by simpa using e);exact ⟨v,by simpa using h1,h2⟩
theorem ArgRs.length {K:PySem.W.Frag}{F:Hp}{σ:St}:∀{xs:List (W ⊕ Nat)}{vs:List V},ArgRs K F σ xs vs->xs.length=vs.length
 | _,_,.nil=>rfl
 | _,_,.cons _ r=>congrArg (· + 1) (ArgRs.length r)
theorem zik {en:En}:∀{xs:List (W ⊕ Nat)}{ws:List W},zat en xs=some ws->ws.length=xs.length
  | [],_,e=>by obtain rfl:=sI e;rfl
  | x::xs,_,e=>by
    obtain ⟨w,_,e⟩:=bS e;obtain ⟨ws,h,e⟩:=bS e;obtain rfl:=sI e;exact congrArg (· + 1) (zik h)
theorem zh9 {en:En}:∀{xs:List (W ⊕ Nat)}{ws:List W}{k:Nat}{w:W},zat en xs=some ws->ws[k]?=some w->∃x,xs[k]?=some x/\resA en x=some w
  | [],_,_,_,e,h=>by obtain rfl:=sI e;simp at h
  | x::xs,_,k,w,e,h=>by
    obtain ⟨u,hu,e⟩:=bS e;obtain ⟨us,h2,e⟩:=bS e;obtain rfl:=sI e;cases k with
    | zero=>simp at h;subst h;exact ⟨x,rfl,hu⟩
    | succ k=>obtain ⟨y,h3,h4⟩:=zh9 (k:=k) h2 (by simpa using h);exact ⟨y,by simpa using h3,h4⟩
theorem zdt {xs:List (W ⊕ Nat)}{k i:Nat}:(zau xs)[k]?=some (some i)↔xs[k]?=some (.inr i):=by
 unfold zau;rw [List.getElem?_map];cases e:xs[k]? with
 | none=>simp
 | some x=>cases x<;>simp
section
variable {K:PySem.W.Frag}{F H:Hp}{pr:Prt}{en:En}{σ:St}
theorem Rel.back {cap:Cap}{F' H' : Hp}{ce:En}{σc:St} (R:Rel K F pr en σ H) (s:Same F F') (Rc:Rel K F' (zba pr cap en σ H) ce σc H') (slot:∀(i j:Nat) (v:V),zak cap i=some j->σc[j]?=some (some v)->σ[i]?=some (some v)) :
    Rel K F' pr (zaq cap en ce) σ H'/\∀r v,Res K F' H' (zba pr cap en σ H) ce σc r v->Res K F' H' pr (zaq cap en ce) σ r v:=by
  have un:∀(i:Nat) (w:W),zak cap i=none->en[i]?=some (some (w,true))->∃(a:Addr) (vs:HO) (ws:W),w=ws/\σ[i]?=some (some (V.ref a))/\H a=some vs/\H' a=some vs/\F' a=none/\OwnR K F ws vs/\∀(j:Nat) (w' : W),ce[j]?=some (some (w',true))->σc[j]?≠some (some (V.ref a)):=fun i w c e=>by
    obtain ⟨a,vs,ws,h1,h2,h3,h4,h5⟩:=R.own i w e;obtain ⟨b1,b2,b3⟩:=Rc.prt a vs (.inr ⟨i,w,e,c,h2,h3⟩);exact ⟨a,vs,ws,h1,h2,h3,b1,b2,h5,b3⟩
  have capt:∀(i j:Nat) (w:W),zak cap i=some j->ce[j]?=some (some (w,true))->∃(a:Addr) (vs:HO) (ws:W),w=ws/\σ[i]?=some (some (V.ref a))/\σc[j]?=some (some (V.ref a))/\H' a=some vs/\F' a=none/\OwnR K F' ws vs:=fun i j w c e=>by
    obtain ⟨a,vs,ws,h1,h2,h3,h4,h5⟩:=Rc.own j w e;exact ⟨a,vs,ws,h1,slot i j _ c h2,h2,h3,h4,h5⟩
  refine ⟨⟨by unfold zaq;rw [List.length_mapIdx];exact R.len,Rc.sub,fun i w e=>?_,fun i w e=>?_,fun i k a w w' e1 e2 q1 q2=>?_,fun b o q=>?_,Rc.tb.go (fun b xs z=>.inl z) (fun b ps e f=>⟨e,f⟩) (.refl F') fun b ps e hh o z=>hh o (.inl z)⟩,fun r v z=>?_⟩
  · rcases backEn_get e with ⟨j, c, e⟩ | ⟨c, e⟩
    · obtain ⟨v, h1, h2⟩ := Rc.val j w e
      exact ⟨v,slot i j v c h1,h2⟩
    · obtain ⟨v, h1, h2⟩ := R.val i w e
      exact ⟨v,h1,h2.mono s⟩
  · rcases backEn_get e with ⟨j, c, e⟩ | ⟨c, e⟩
    · obtain ⟨a, vs, ws, h1, h2, _, h3, h4, h5⟩ := capt i j w c e
      exact ⟨a,vs,ws,h1,h2,h3,h4,h5⟩
    · obtain ⟨a, vs, ws, h1, h2, _, h3, h4, h5, _⟩ := un i w c e
      exact ⟨a,vs,ws,h1,h2,h3,h4,h5.mono s⟩
  · rcases backEn_get e1 with ⟨j, c, e1⟩ | ⟨c, e1⟩
    · obtain ⟨a', _, _, _, h2, h3, _⟩ := capt i j w c e1
      rw [q1] at h2;cases h2;rcases backEn_get e2 with ⟨l,c2,e2⟩ | ⟨c2,e2⟩
      · obtain ⟨a', _, _, _, g2, g3, _⟩ := capt k l w' c2 e2
        rw [q2] at g2;cases g2;have:=Rc.inj j l a _ _ e1 e2 h3 g3;subst this;have x:=za4 c;rw [za4 c2] at x;cases x;rfl
      · obtain ⟨a', _, _, _, g2, _, _, _, _, g3⟩ := un k w' c2 e2
        rw [q2] at g2;cases g2;exact absurd h3 (g3 j w e1)
    · obtain ⟨a', _, _, _, h2, _, _, _, _, h3⟩ := un i w c e1
      rw [q1] at h2;cases h2;rcases backEn_get e2 with ⟨l,c2,e2⟩ | ⟨c2,e2⟩
      · obtain ⟨a', _, _, _, g2, g3, _⟩ := capt k l w' c2 e2
        rw [q2] at g2;cases g2;exact absurd g3 (h3 l w' e2)
      · exact R.inj i k a _ _ e1 e2 q1 q2
  · obtain ⟨b1, b2, b3⟩ := Rc.prt b o (.inl q)
    refine ⟨b1,b2,fun i w e=>?_⟩;rcases backEn_get e with ⟨j,c,e⟩ | ⟨c,e⟩
    · obtain ⟨a, _, _, _, h2, h3, _⟩ := capt i j w c e
      rw [h2];intro z;cases z;exact b3 j w e h3
    · exact (R.prt b o q).2.2 i w e
  · obtain ⟨w, fl⟩ := r
    cases fl with
    | false=>exact z
    | true =>
      obtain ⟨a,vs,ws,q1,q2,q3,q4,q5,q6,q7⟩:=z;refine ⟨a,vs,ws,q1,q2,q3,q4,q5,fun i w' e=>?_,fun b o p=>q7 b o (.inl p)⟩;rcases backEn_get e with ⟨j,c,e⟩ | ⟨c,e⟩
      · obtain ⟨a', _, _, _, h2, h3, _⟩ := capt i j w' c e
        rw [h2];intro z;cases z;exact q6 j w' e h3
      · obtain ⟨a', vs', ws', h1, h2, h3, h4, h5⟩ := R.own i w' e
        rw [h2];intro z;cases z;exact q7 a vs' (.inr ⟨i,w',e,c,h2,h3⟩) rfl
theorem zrm {m:List Bool}{Φ:Fn}{xs:List (W ⊕ Nat)}{e1 en' : En}{F1 H1:Hp}{vs:List V}{r:W × Bool}{Q:VK}{E:XK} (R1:Rel K F1 pr e1 σ H1) (a1:ArgRs K F1 σ xs vs)
    (h:(if decide (xs.map isR=m) && zam e1 xs && zbr (zau xs) then (zat e1 xs).bind fun ws=>(Φ ws).bind fun q=>if q.1.length=m.length then some (zaq (zau xs) e1 (zav m q.1),q.2) else none else none)=some (en',r))
    (q:∀F' H' v,Same F1 F'->Rel K F' pr en' σ H'->Res K F' H' pr en' σ r v->Q v H'):spF K m Φ vs H1 Q E:=by
  split at h
  · rename_i z
    rw [Bool.and_eq_true,Bool.and_eq_true] at z;obtain ⟨⟨z1,z2⟩,nd⟩:=z;have hm:xs.map isR=m:=of_decide_eq_true z1;refine aG fun _ qG=>?_;obtain ⟨ws,h2,h⟩:=bS h;obtain ⟨⟨ws',r'⟩,h3,h⟩:=bS h;refine qG ?_;clear qG;split at h
    · rename_i hl
      cases h;have lx:ws.length=xs.length:=zik h2;have lm:xs.length=m.length:=by rw [<-hm,List.length_map]
      have lv:=a1.length;have at' : ∀(k:Nat) (w:W) (b:Bool),(zav m ws)[k]?=some (some (w,b))->∃x v,xs[k]?=some x/\isR x=b/\resA e1 x=some w/\vs[k]?=some v/\ArgR K F1 σ x v:=fun k w b e=>by
        refine aG fun _ qG=>?_;obtain ⟨g1,g2⟩:=zdl.mp e;obtain ⟨x,g3,g4⟩:=zh9 h2 g1;obtain ⟨v,g5,g6⟩:=a1.get g3;refine qG ?_;clear qG;rw [<-hm,List.getElem?_map,g3] at g2;exact ⟨x,v,g3,sI g2,g4,g5,g6⟩
      have ow:∀(k:Nat) (w:W),(zav m ws)[k]?=some (some (w,true))->∃i v,xs[k]?=some (.inr i)/\e1[i]?=some (some (w,true))/\vs[k]?=some v/\σ[i]?=some (some v):=fun k w e=>by
        refine aG fun _ qG=>?_;obtain ⟨x,v,g1,g2,g3,g4,g5⟩:=at' k w true e;refine qG ?_;clear qG;cases x with
        | inl _=>cases g2
        | inr i =>
          refine ⟨i,v,g1,?_,g4,g5⟩;have o:=List.all_eq_true.mp z2 _ (List.mem_of_getElem? g1);simp only at o;split at o
          · rename_i w0 e0
            unfold resA at g3;simp only [e0] at g3;obtain rfl:=sI g3;exact e0
          · cases o
      have RC:Rel K F1 (zba pr (zau xs) e1 σ H1) (zav m ws) (vs.map some) H1:=by
        refine ⟨by rw [zdg (by omega),List.length_map];omega,R1.sub,fun k w e=>?_,fun k w e=>?_,fun k l a w w' g1 g2 g3 g4=>?_,fun b o p=>?_,R1.tb.go (fun b xs z=>zf7 R1 z) (fun b ps e f=>⟨e,f⟩) (.refl F1) fun b ps e hh o z=>zf6 R1 e hh o z⟩
        · refine aG fun Gg qG => ?_
          obtain ⟨x,v,g1,g2,g3,g4,g5⟩:=at' k w false e;refine qG ?_;clear qG;cases x with
          | inr _=>cases g2
          | inl u=>obtain rfl:=sI g3;exact ⟨v,by rw [List.getElem?_map,g4];rfl,g5⟩
        · refine aG fun Gg qG => ?_
          obtain ⟨i,v,g1,g2,g3,g4⟩:=ow k w e;obtain ⟨a,us,wz,p1,p2,p3,p4,p5⟩:=R1.own i w g2;refine qG ?_;clear qG;rw [g4] at p2;cases p2;exact ⟨a,us,wz,p1,by rw [List.getElem?_map,g3];rfl,p3,p4,p5⟩
        · refine aG fun Gg qG => ?_
          obtain ⟨i,v,k1,k2,k3,k4⟩:=ow k w g1;obtain ⟨i',v',l1,l2,l3,l4⟩:=ow l w' g2;refine qG ?_;clear qG;rw [List.getElem?_map,k3] at g3;cases g3;rw [List.getElem?_map,l3] at g4;cases g4;have:=R1.inj i i' a _ _ k2 l2 k4 l4;subst this;have y:=zel nd (zdt.mpr k1);rw [zel nd (zdt.mpr l1)] at y;exact (sI y).symm
        · rcases p with p | ⟨j, w, p1, p2, p3, p4⟩
          · obtain ⟨b1, b2, b3⟩ := R1.prt b o p
            refine ⟨b1,b2,fun k w e=>?_⟩;refine aG fun _ qG=>?_;obtain ⟨i,v,g1,g2,g3,g4⟩:=ow k w e;refine qG ?_;clear qG;rw [List.getElem?_map,g3];intro y;cases y;exact b3 i w g2 g4
          · refine aG fun Gg qG => ?_
            obtain ⟨a,us,wz,p1',p2',p3',p4',p5'⟩:=R1.own j w p1;refine qG ?_;clear qG;rw [p3] at p2';cases p2';refine ⟨p4,p4',fun k w' e=>?_⟩;refine aG fun _ qG=>?_;obtain ⟨i,v,g1,g2,g3,g4⟩:=ow k w' e;refine qG ?_;clear qG;rw [List.getElem?_map,g3];intro y;cases y;have:=R1.inj i j _ _ _ g2 p1 g4 p3;subst this;exact zcb p2 k (zdt.mpr g1)
      refine ⟨F1,zba pr (zau xs) e1 σ H1,ws,ws',_,by omega,hl,RC,h3,fun F2 H2 v s2 R2 y2=>?_⟩;obtain ⟨Ro,rz⟩:=R1.back s2 R2 fun i j v c e=>by
        have c':=zdt.mp (za4 c);obtain ⟨v',g1,g2⟩:=a1.get c';rw [List.getElem?_map,g1] at e;cases e;exact g2
      exact q F2 H2 v s2 Ro (rz _ _ y2)
    · cases h
  · cases h
theorem zpe {m:List Bool}{Φ:Fn}{as:GAs}{Q:VK} (h:tE K (zae m Φ as) σ H Q):z0h (spF K m Φ) [] E0 (tAs K as) σ H Q:=by
 refine aG fun _ qG=>?_;obtain ⟨F,pr,en,en',r,R,h,q⟩:=h;obtain ⟨⟨e1,xs⟩,h1,h⟩:=bS h;refine qG ?_;clear qG;refine ⟨F,pr,en,e1,xs,R,h1,fun F1 H1 vs s1 R1 a1=>?_⟩;show spF K m Φ (vs++[]) H1 Q E0;rw [List.append_nil];exact zrm R1 a1 h fun F' H' v s'=>q F' H' v (s1.trans s')
end
noncomputable def zbs:List Bool->List W->En->Option (List W)
 | [],[],_=>some []
 | true::m,_::ws,some (w,true)::en=>(zbs m ws en).bind fun r=>some (w::r)
 | false::m,w::ws,_::en=>(zbs m ws en).bind fun r=>some (w::r)
 | _,_,_=>none
noncomputable def mpOf (m:List Bool):List Nat:=(List.range m.length).filter fun k=>m[k]? == some true
noncomputable def zai (m:List Bool) (n:Nat) (g:GS):Fn:=fun ws=>if ws.length=m.length then match g (zav m ws++List.replicate (n - m.length) none) with
 | some (en,.ret r)=>(zbs m ws en).bind fun ws'=>some (ws',r)
 | some (en,.nx)=>(zbs m ws en).bind fun ws'=>some (ws',(.non,false))
 | _=>none else none
theorem zhf:∀{m:List Bool}{ws:List W}{en:En}{ws' : List W},zbs m ws en=some ws'->ws'.length=m.length/\∀(k:Nat) (w:W),ws'[k]?=some w->(m[k]?=some true->en[k]?=some (some (w,true)))/\(m[k]?=some false->ws[k]?=some w)
  | [],[],_,_,e=>by obtain rfl:=sI e;exact ⟨rfl,fun k w h=>by simp at h⟩
  | true::m,_::ws,some (u,true)::en,_,e=>by
    obtain ⟨r,h,e⟩:=bS (show (zbs m ws en).bind _=_ from e);obtain rfl:=sI e;obtain ⟨h1,h2⟩:=zhf h;refine ⟨congrArg (· + 1) h1,fun k w hk=>?_⟩;cases k with
    | zero=>simp at hk;subst hk;exact ⟨fun _=>rfl,fun z=>by simp at z⟩
    | succ k =>
      have:=h2 k w (by simpa using hk);exact ⟨fun z=>by simpa using this.1 (by simpa using z),fun z=>by simpa using this.2 (by simpa using z)⟩
  | false::m,u::ws,_::en,_,e=>by
    obtain ⟨r,h,e⟩:=bS (show (zbs m ws en).bind _=_ from e);obtain rfl:=sI e;obtain ⟨h1,h2⟩:=zhf h;refine ⟨congrArg (· + 1) h1,fun k w hk=>?_⟩;cases k with
    | zero=>simp at hk;subst hk;exact ⟨fun z=>by simp at z,fun _=>rfl⟩
    | succ k =>
      have:=h2 k w (by simpa using hk);exact ⟨fun z=>by simpa using this.1 (by simpa using z),fun z=>by simpa using this.2 (by simpa using z)⟩
  | [],_::_,_,_,e=>by exact noSome e
  | true::_,[],_,_,e=>by exact noSome e
  | false::_,[],_,_,e=>by exact noSome e
  | true::_,_::_,[],_,e=>by exact noSome e
  | false::_,_::_,[],_,e=>by exact noSome e
  | true::_,_::_,none::_,_,e=>by exact noSome e
  | true::_,_::_,some (_,false)::_,_,e=>by exact noSome e
theorem zsc {K:PySem.W.Frag}{m:List Bool}{N:List Str}{g:GS}{vs:List V}{H:Hp}{Q:VK}{E:XK} (h:spF K m (zai m N.length g) vs H Q E):tS K (mpOf m) g { nx:=fun _ H'=>Q .non H',rt:=Q } (start N vs) H:=by
  have hv:=zoz h;refine aG fun _ qG=>?_;obtain ⟨F,pr,ws,ws',r,h1,h2,R,h3,q⟩:=h;refine qG ?_;clear qG;unfold zai at h3;rw [if_pos h1] at h3;have la:=zdg h1;have pad:∀(i:Nat) (x:W × Bool),(zav m ws++List.replicate (N.length - m.length) none)[i]?=some (some x)->(zav m ws)[i]?=some (some x):=fun i x e=>by
    by_cases hi:i < (zav m ws).length
    · rw [List.getElem?_append_left hi] at e;exact e
    · rw [List.getElem?_append_right (by omega), List.getElem?_replicate] at e
      split at e<;>cases e
  have st:∀(i:Nat) (v:V),(vs.map some)[i]?=some (some v)->(start N vs)[i]?=some (some v):=fun i v e=>by
    unfold start;rw [List.getElem?_append_left (by have:=(List.getElem?_eq_some_iff.mp e).1;exact this)];exact e
  have st' : ∀(i:Nat) (v:V),i < m.length->(start N vs)[i]?=some (some v)->(vs.map some)[i]?=some (some v):=fun i v hi e=>by
    unfold start at e;rw [List.getElem?_append_left (by rw [List.length_map];omega)] at e;exact e
  have R0:Rel K F pr (zav m ws++List.replicate (N.length - m.length) none) (start N vs) H:=by
    refine ⟨?_,R.sub,fun i w e=>?_,fun i w e=>?_,fun i j a w w' e1 e2 q1 q2=>?_,fun b o p=>?_,R.tb⟩
    · unfold start
      rw [List.length_append,List.length_append,List.length_replicate,List.length_replicate,List.length_map,la,hv]
    · obtain ⟨v, g1, g2⟩ := R.val i w (pad i _ e)
      exact ⟨v,st i v g1,g2⟩
    · refine aG fun Gg qG => ?_
      obtain ⟨a,us,wz,g1,g2,g3⟩:=R.own i w (pad i _ e);refine qG ?_;clear qG;exact ⟨a,us,wz,g1,st i _ g2,g3⟩
    · have l1 : i < m.length := by have := (List.getElem?_eq_some_iff.mp (pad i _ e1)).1; omega
      have l2:j < m.length:=by have:=(List.getElem?_eq_some_iff.mp (pad j _ e2)).1;omega
      exact R.inj i j a w w' (pad i _ e1) (pad j _ e2) (st' i _ l1 q1) (st' j _ l2 q2)
    · obtain ⟨b1, b2, b3⟩ := R.prt b o p
      refine ⟨b1,b2,fun i w e z=>?_⟩;have l1:i < m.length:=by have:=(List.getElem?_eq_some_iff.mp (pad i _ e)).1;omega
      exact b3 i w (pad i _ e) (st' i _ l1 z)
  have back:∀(en:En) (wz:List W) (F' : Hp) (σ' : St) (H' : Hp),zbs m ws en=some wz->Same F F'->Rel K F' pr en σ' H'->Keep (mpOf m) (start N vs) σ' ->
      Rel K F' pr (zav m wz) (vs.map some) H'/\∀r v,Res K F' H' pr en σ' r v->Res K F' H' pr (zav m wz) (vs.map some) r v:=fun en wz F' σ' H' ho s' R' k'=>by
    obtain ⟨o1,o2⟩:=zhf ho;have own:∀(k:Nat) (w:W),(zav m wz)[k]?=some (some (w,true))->en[k]?=some (some (w,true))/\∀v,σ'[k]?=some (some v)↔(vs.map some)[k]?=some (some v):=fun k w e=>by
      obtain ⟨g1,g2⟩:=zdl.mp e;have lk:k < m.length:=(List.getElem?_eq_some_iff.mp g2).1;have hk:k∈mpOf m:=List.mem_filter.mpr ⟨List.mem_range.mpr lk,by rw [g2];simp⟩;refine ⟨(o2 k w g1).1 g2,fun v=>?_⟩;rw [k' k hk];exact ⟨st' k v lk,st k v⟩
    refine ⟨⟨by rw [zdg o1,List.length_map,hv],R'.sub,fun k w e=>?_,fun k w e=>?_,fun k l a w w' e1 e2 q1 q2=>?_,fun b o p=>?_,R'.tb⟩,fun r v z=>?_⟩
    · refine aG fun Gg qG => ?_
      obtain ⟨g1,g2⟩:=zdl.mp e;obtain ⟨v,g3,g4⟩:=R.val k w (zdl.mpr ⟨(o2 k w g1).2 g2,g2⟩);refine qG ?_;clear qG;exact ⟨v,g3,g4.mono s'⟩
    · refine aG fun Gg qG => ?_
      obtain ⟨g1,g2⟩:=own k w e;obtain ⟨a,us,wz,p1,p2,p3⟩:=R'.own k w g1;refine qG ?_;clear qG;exact ⟨a,us,wz,p1,(g2 _).mp p2,p3⟩
    · obtain ⟨g1, g2⟩ := own k w e1
      obtain ⟨g3,g4⟩:=own l w' e2;exact R'.inj k l a _ _ g1 g3 ((g2 _).mpr q1) ((g4 _).mpr q2)
    · obtain ⟨b1, b2, b3⟩ := R'.prt b o p
      refine ⟨b1,b2,fun k w e z=>?_⟩;obtain ⟨g1,g2⟩:=own k w e;exact b3 k w g1 ((g2 _).mpr z)
    · obtain ⟨w0, fl⟩ := r
      cases fl with
      | false=>exact z
      | true =>
        refine aG fun _ qG=>?_;obtain ⟨a,us,wz',q1,q2,q3,q4,q5,q6,q7⟩:=z;refine qG ?_;clear qG;refine ⟨a,us,wz',q1,q2,q3,q4,q5,fun k w e y=>?_,q7⟩;obtain ⟨g1,g2⟩:=own k w e;exact q6 k w g1 ((g2 _).mpr y)
  cases eg:g (zav m ws++List.replicate (N.length - m.length) none) with
  | none=>simp only [eg] at h3;exact noSome h3
  | some p =>
    obtain ⟨en,fl⟩:=p;refine ⟨F,pr,_,en,fl,R0,eg,?_⟩;cases fl with
    | brk=>simp only [eg] at h3;exact noSome h3
    | cnt=>simp only [eg] at h3;exact noSome h3
    | nx =>
      simp only [eg] at h3;obtain ⟨wz,ho,h3⟩:=bS h3;cases h3;intro F' σ' H' s' R' k';obtain ⟨Rb,_⟩:=back en ws' F' σ' H' ho s' R' k';exact q F' H' .non s' Rb .non
    | ret r' =>
      simp only [eg] at h3;obtain ⟨wz,ho,h3⟩:=bS h3;cases h3;intro F' σ' H' v s' R' k' z;obtain ⟨Rb,rb⟩:=back en ws' F' σ' H' ho s' R' k';exact q F' H' v s' Rb (rb _ _ z)
end L2
set_option maxHeartbeats 4000000
namespace L2
open PySem PyProof.Rows
namespace Tim
noncomputable def gal:Bool->Keyed->Array Keyed->Nat->Nat->Nat->StateT SortSt Sem (Option Nat):=sortPriv% PySem.Builtin.gallop
noncomputable def mLo:Array Keyed->Array Keyed->StateT SortSt Sem (Array Keyed):=sortPriv% PySem.Builtin.mergeLo
noncomputable def mHi:Array Keyed->Array Keyed->StateT SortSt Sem (Array Keyed):=sortPriv% PySem.Builtin.mergeHi
theorem aG {P:Prop} (h:∀G:Prop,(P->G)->G):P:=h P id
structure Ord (lt:Keyed->Keyed->Bool) (bf le:Keyed->Keyed->Prop):Prop where
 tr:∀{x y z},le x y->le y z->le x z
 tot:∀x y,le x y\/le y x
 f1:∀{x y},bf x y->(lt y x=false↔le x y)
 f2:∀{x y},lt x y=true->le x y
 irr:∀x,lt x x=false
 ltr:∀{x y z},lt x y=true->lt y z=true->lt x z=true
 nt:∀{x z} (y),lt x z=true->lt x y=true\/lt y z=true
section
variable {lt:Keyed->Keyed->Bool}{bf le:Keyed->Keyed->Prop} (O:Ord lt bf le)
include O
theorem Ord.rf (x:Keyed):le x x:=(O.tot x x).elim id id
theorem Ord.f3 {x y:Keyed} (h:bf x y) (q:lt y x=true):¬ le x y:=fun z=>by rw [(O.f1 h).mpr z] at q;cases q
end
noncomputable abbrev d0:Keyed:=(Value.none,Value.none)
noncomputable def G (xs:Array Keyed) (i:Nat):Keyed:=(xs[i]?).getD d0
theorem zwa {xs:Array Keyed}{i:Nat} (h:i < xs.size):xs[i]?=some (G xs i):=by unfold G;rw [getElem?_pos xs i h];rfl
theorem zyw {xs a₀:Array Keyed} (p:xs.Perm a₀) {i:Nat} (h:i < xs.size):G xs i∈a₀.toList:=by
 refine (Array.perm_iff_toList_perm.mp p).mem_iff.mp ?_;unfold G;rw [getElem?_pos xs i h];simp
theorem ze5 {xs ys:Array Keyed}{i j:Nat} (h:xs[i]?=ys[j]?):G xs i=G ys j:=by unfold G;rw [h]
noncomputable def Asks (prog:Program) (w:World) (A:Around) (E:Value->Shared->Prop) (s:Shared) (κ:SortKind) (a₀:Array Keyed) (lt:Keyed->Keyed->Bool):Prop :=
 ∀(x y:Keyed) (st:SortSt) (Q:Option Bool->SortSt->Prop),x∈a₀.toList->y∈a₀.toList->kindOf st=κ->Q (some (lt x y)) st->wpS (model prog w) A E s (lt' x y) Q st
section
variable {prog:Program}{w:World}{A:Around}{E:Value->Shared->Prop}{s:Shared}{κ:SortKind}{a₀:Array Keyed}{lt:Keyed->Keyed->Bool}{st:SortSt}
theorem zan {arr:Array Keyed}{i:Nat}{Q:Keyed->SortSt->Prop} (hi:i < arr.size) (h:Q (G arr i) st):wpS (model prog w) A E s (elem' arr i) Q st:=by
 rw [elem'_eq,zwa hi];exact wpS_pure h
theorem zgc {i j:Nat}{Q:Option Bool->SortSt->Prop} (C:Asks prog w A E s κ a₀ lt) (hk:kindOf st=κ) (p:(arrOf st).Perm a₀) (hi:i < a₀.size) (hj:j < a₀.size) (h:Q (some (lt (G (arrOf st) i) (G (arrOf st) j))) st) :
  wpS (model prog w) A E s (ltAt' i j) Q st:=by
 have e:=p.size_eq;rw [ltAt'_eq];refine wpS_bind (wpS_get ?_);exact wpS_bind (zan (by omega) (wpS_bind (zan (by omega) (C _ _ _ _ (zyw p (by omega)) (zyw p (by omega)) hk h))))
theorem znj {left:Bool}{key:Keyed}{arr:Array Keyed}{base n hint:Nat}{B:Nat->Bool}{Q:Option Nat->SortSt->Prop} (C:Asks prog w A E s κ a₀ lt) (hk:kindOf st=κ) (hkey:key∈a₀.toList)
    (hs:base+n<=arr.size) (hm:∀i,i < n->G arr (base+i)∈a₀.toList) (hB:∀i,i < n->B i=if left then lt (G arr (base+i)) key else !lt key (G arr (base+i)))
    (mono:∀i j,i<=j->j < n->B j=true->B i=true) (hh:hint < n)
    (h:∀k,k<=n->(∀i,i < k->B i=true)->(∀i,k<=i->i < n->B i=false)->Q (some k) st):wpS (model prog w) A E s (gal left key arr base n hint) Q st:=by
  have mono' : ∀i j,i<=j->j < n->B i=false->B j=false:=fun i j h1 h2 h3=>by
    cases q:B j with
    | false=>rfl
    | true=>rw [mono i j h1 h2 q] at h3;cases h3
  let beyond:Nat->StateT SortSt Sem (Option Bool):=fun i=>do
    let x <- elem' arr (base+i)
    if left=true then lt' x key else do
      let r <- lt' key x
      pure (r.map (!·))
  have hb:∀(i:Nat) (R:Option Bool->SortSt->Prop),i < n->R (some (B i)) st->wpS (model prog w) A E s (beyond i) R st:=fun i R hi hR=>by
    refine wpS_bind (zan (by omega) ?_);have e:=hB i hi;cases left with
    | true =>
      rw [if_pos rfl] at e;rw [if_pos rfl];exact C _ _ _ _ (hm i hi) hkey hk (by rw [<-e];exact hR)
    | false =>
      rw [if_neg (by decide)] at e;rw [if_neg (by decide)];exact wpS_bind (C _ _ _ _ hkey (hm i hi) hk (wpS_pure (by show R (some (!lt key (G arr (base+i)))) st;rw [<-e];exact hR)))
  show wpS (model prog w) A E s (do let o <- beyond hint;_) Q st;refine wpS_bind (hb _ _ hh ?_);cases q:B hint with
  | true =>
    refine wpS_bind (wpS_mono (wpS_forRange (I:=fun x c st'=>st'=st/\∃l o,c=(none,l,o)/\l < o/\x < o/\hint+l < n/\B (hint+l)=true)
      (Q:=fun c st'=>st'=st/\∃l o,c=(none,l,o)/\l < o/\hint+l < n/\B (hint+l)=true/\(n - hint<=o\/hint+o < n/\B (hint+o)=false)) ?step ?fin ⟨rfl,0,1,rfl,by omega,by omega,by omega,q⟩) ?post)
    case fin =>
      rintro c st' ⟨rfl,l,o,rfl,a1,a2,a3,a4⟩;exact ⟨rfl,l,o,rfl,a1,a3,a4,.inl (by omega)⟩
    case step =>
      rintro x c st' _ hx ⟨rfl,l,o,rfl,a1,a2,a3,a4⟩;dsimp only;by_cases g:o ≥ n - hint
      · rw [if_pos g]
        exact wpS_pure ⟨rfl,l,o,rfl,a1,a3,a4,.inl g⟩
      · rw [if_neg g]
        refine wpS_bind (hb _ _ (by omega) ?_);cases q2:B (hint+o) with
        | true =>
          dsimp only;rw [if_neg (by decide)];exact wpS_pure ⟨rfl,o,2 * o+1,rfl,by omega,by omega,by omega,q2⟩
        | false =>
          dsimp only;rw [if_pos (by decide)];exact wpS_pure ⟨rfl,l,o,rfl,a1,a3,a4,.inr ⟨by omega,q2⟩⟩
    case post =>
      rintro c st' ⟨rfl,l,o,rfl,a1,a3,a4,a5⟩;dsimp only;refine wpS_bind (wpS_mono (wpS_forRange (I:=fun x c st''=>st''=st'/\∃lo hi,c=(none,lo,hi)/\lo<=hi/\hi<=n/\hi - lo<=n - x/\(∀i,i < lo->B i=true)/\∀i,hi<=i->i < n->B i=false)
        (Q:=fun c st''=>st''=st'/\∃lo hi,c=(none,lo,hi)/\lo=hi/\hi<=n/\(∀i,i < lo->B i=true)/\∀i,hi<=i->i < n->B i=false) ?s3 ?f3 ⟨rfl,hint+l+1,hint+min o (n - hint),rfl,by omega,by omega,by omega,fun i hi=>mono i _ (by omega) a3 a4,fun i h1 h2=>a5.elim (fun a5=>by omega) fun a5=>mono' _ i (by omega) h2 a5.2⟩) ?p3)
      case f3 =>
        rintro c st'' ⟨rfl,lo,hi,rfl,a1,a2,a3,a4,a5⟩;exact ⟨rfl,lo,hi,rfl,by omega,a2,a4,a5⟩
      case s3 =>
        rintro x c st'' _ hx ⟨rfl,lo,hi,rfl,a1,a2,a3,a4,a5⟩;dsimp only;by_cases g:lo ≥ hi
        · rw [if_pos g]
          exact wpS_pure ⟨rfl,lo,hi,rfl,by omega,a2,a4,a5⟩
        · rw [if_neg g]
          refine wpS_bind (hb _ _ (by omega) ?_);cases q:B (lo+(hi - lo) / 2) with
          | true =>
            dsimp only;rw [if_pos rfl];refine wpS_pure ⟨rfl,lo+(hi - lo) / 2+1,hi,rfl,by omega,a2,by omega,fun i hi'=>?_,a5⟩;exact mono i _ (by omega) (by omega) q
          | false =>
            dsimp only;rw [if_neg (by decide)];refine wpS_pure ⟨rfl,lo,lo+(hi - lo) / 2,rfl,by omega,by omega,by omega,a4,fun i h1 h2=>?_⟩;exact mono' _ i h1 h2 q
      case p3 =>
        rintro c st'' ⟨rfl,lo,hi,rfl,rfl,a2,a4,a5⟩;exact wpS_pure (h lo a2 a4 a5)
  | false =>
    refine wpS_bind (wpS_mono (wpS_forRange (I:=fun x c st'=>st'=st/\∃l o,c=(none,l,o)/\l < o/\x < o/\l<=hint/\B (hint - l)=false)
      (Q:=fun c st'=>st'=st/\∃l o,c=(none,l,o)/\l < o/\l<=hint/\B (hint - l)=false/\(hint+1<=o\/o<=hint/\B (hint - o)=true)) ?step ?fin ⟨rfl,0,1,rfl,by omega,by omega,by omega,q⟩) ?post)
    case fin =>
      rintro c st' ⟨rfl,l,o,rfl,a1,a2,a3,a4⟩;exact ⟨rfl,l,o,rfl,a1,a3,a4,.inl (by omega)⟩
    case step =>
      rintro x c st' _ hx ⟨rfl,l,o,rfl,a1,a2,a3,a4⟩;dsimp only;by_cases g:o ≥ hint+1
      · rw [if_pos g]
        exact wpS_pure ⟨rfl,l,o,rfl,a1,a3,a4,.inl g⟩
      · rw [if_neg g]
        refine wpS_bind (hb _ _ (by omega) ?_);cases q2:B (hint - o) with
        | true =>
          dsimp only;rw [if_pos rfl];exact wpS_pure ⟨rfl,l,o,rfl,a1,a3,a4,.inr ⟨by omega,q2⟩⟩
        | false =>
          dsimp only;rw [if_neg (by decide)];exact wpS_pure ⟨rfl,o,2 * o+1,rfl,by omega,by omega,by omega,q2⟩
    case post =>
      rintro c st' ⟨rfl,l,o,rfl,a1,a3,a4,a5⟩;dsimp only;refine wpS_bind (wpS_mono (wpS_forRange (I:=fun x c st''=>st''=st'/\∃lo hi,c=(none,lo,hi)/\lo<=hi/\hi<=n/\hi - lo<=n - x/\(∀i,i < lo->B i=true)/\∀i,hi<=i->i < n->B i=false)
        (Q:=fun c st''=>st''=st'/\∃lo hi,c=(none,lo,hi)/\lo=hi/\hi<=n/\(∀i,i < lo->B i=true)/\∀i,hi<=i->i < n->B i=false) ?s4 ?f4 ⟨rfl,hint+1 - min o (hint+1),hint - l,rfl,by omega,by omega,by omega,fun i hi=>a5.elim (fun a5=>by omega) fun a5=>mono i _ (by omega) (by omega) a5.2,fun i h1 h2=>mono' _ i h1 h2 a4⟩) ?p4)
      case f4 =>
        rintro c st'' ⟨rfl,lo,hi,rfl,a1,a2,a3,a4,a5⟩;exact ⟨rfl,lo,hi,rfl,by omega,a2,a4,a5⟩
      case s4 =>
        rintro x c st'' _ hx ⟨rfl,lo,hi,rfl,a1,a2,a3,a4,a5⟩;dsimp only;by_cases g:lo ≥ hi
        · rw [if_pos g]
          exact wpS_pure ⟨rfl,lo,hi,rfl,by omega,a2,a4,a5⟩
        · rw [if_neg g]
          refine wpS_bind (hb _ _ (by omega) ?_);cases q:B (lo+(hi - lo) / 2) with
          | true =>
            dsimp only;rw [if_pos rfl];refine wpS_pure ⟨rfl,lo+(hi - lo) / 2+1,hi,rfl,by omega,a2,by omega,fun i hi'=>?_,a5⟩;exact mono i _ (by omega) (by omega) q
          | false =>
            dsimp only;rw [if_neg (by decide)];refine wpS_pure ⟨rfl,lo,lo+(hi - lo) / 2,rfl,by omega,by omega,by omega,a4,fun i h1 h2=>?_⟩;exact mono' _ i h1 h2 q
      case p4 =>
        rintro c st'' ⟨rfl,lo,hi,rfl,rfl,a2,a4,a5⟩;exact wpS_pure (h lo a2 a4 a5)
end
end Tim
end L2
namespace L2
open PySem PyProof.Rows
namespace Tim
noncomputable def Srt (le:Keyed->Keyed->Prop) (xs:Array Keyed) (lo hi:Nat):Prop:=∀i j,lo<=i->i < j->j < hi->le (G xs i) (G xs j)
noncomputable def Cut (bf:Keyed->Keyed->Prop) (xs:Array Keyed) (c:Nat):Prop:=∀i j,i < c->c<=j->j < xs.size->bf (G xs i) (G xs j)
structure Re (xs ys:Array Keyed) (lo hi:Nat):Prop where
 perm:ys.Perm xs
 out:∀i,i < lo\/hi<=i->G ys i=G xs i
 inn:∀i,lo<=i->i < hi->∃j,lo<=j/\j < hi/\G ys i=G xs j
theorem Re.refl (xs:Array Keyed) (lo hi:Nat):Re xs xs lo hi:=⟨.refl _,fun _ _=>rfl,fun i h1 h2=>⟨i,h1,h2,rfl⟩⟩
theorem Re.trans {xs ys zs:Array Keyed}{lo hi:Nat} (a:Re xs ys lo hi) (b:Re ys zs lo hi):Re xs zs lo hi :=
 ⟨b.perm.trans a.perm,fun i h=>(b.out i h).trans (a.out i h),fun i h1 h2=>by
  obtain ⟨j,g1,g2,e⟩:=b.inn i h1 h2;obtain ⟨k,k1,k2,e'⟩:=a.inn j g1 g2;exact ⟨k,k1,k2,e.trans e'⟩⟩
theorem Re.mono {xs ys:Array Keyed}{lo hi lo' hi' : Nat} (a:Re xs ys lo hi) (h1:lo'<=lo) (h2:hi<=hi'):Re xs ys lo' hi' :=
 ⟨a.perm,fun i h=>a.out i (by omega),fun i g1 g2=>by
  by_cases c:lo<=i/\i < hi
  ·obtain ⟨j, k1, k2, e⟩ := a.inn i c.1 c.2;exact ⟨j,by omega,by omega,e⟩
  ·exact ⟨i,g1,g2,a.out i (by omega)⟩⟩
theorem Re.size {xs ys:Array Keyed}{lo hi:Nat} (a:Re xs ys lo hi):ys.size=xs.size:=a.perm.size_eq
theorem Cut.re {bf:Keyed->Keyed->Prop}{xs ys:Array Keyed}{lo hi c:Nat} (h:Cut bf xs c) (a:Re xs ys lo hi) (hs:hi<=xs.size) (hc:c<=lo\/hi<=c):Cut bf ys c:=fun i j h1 h2 h3=>by
 have e:=a.size;have wi:∃i',i' < c/\G ys i=G xs i':=by
  by_cases k:lo<=i/\i < hi
  ·obtain ⟨i', g1, g2, e⟩ := a.inn i k.1 k.2;exact ⟨i',by omega,e⟩
  ·exact ⟨i,h1,a.out i (by omega)⟩
 have wj:∃j',c<=j'/\j' < xs.size/\G ys j=G xs j':=by
  by_cases k:lo<=j/\j < hi
  ·obtain ⟨j', g1, g2, e⟩ := a.inn j k.1 k.2;exact ⟨j',by omega,by omega,e⟩
  ·exact ⟨j,h2,by omega,a.out j (by omega)⟩
 obtain ⟨i',e1,e2⟩:=wi;obtain ⟨j',e3,e4,e5⟩:=wj;rw [e2,e5];exact h i' j' e1 e3 e4
theorem Srt.re {le:Keyed->Keyed->Prop}{xs ys:Array Keyed}{lo hi a b:Nat} (h:Srt le xs a b) (r:Re xs ys lo hi) (hc:b<=lo\/hi<=a):Srt le ys a b:=fun i j h1 h2 h3=>by
 rw [r.out i (by omega),r.out j (by omega)];exact h i j h1 h2 h3
noncomputable def mir (xs:Array Keyed) (i j:Nat):Array Keyed:=mirror xs i j ((j - i) / 2)
theorem zfu {xs:Array Keyed}{i j:Nat} (hj:j<=xs.size) (k:Nat):G (mir xs i j) k=if i<=k/\k < j then G xs (i+j - 1 - k) else G xs k:=by
 have e:=getElem?_mirror_all (i:=i) hj k;unfold mir;by_cases h1:i<=k/\k < j
 ·rw [if_pos h1] at e ⊢;exact ze5 e
 ·rw [if_neg h1] at e ⊢;exact ze5 e
theorem Re.mir {xs:Array Keyed}{i j:Nat} (hj:j<=xs.size):Re xs (mir xs i j) i j :=
 ⟨mirror_perm _ _ _ _,fun k h=>by rw [zfu hj,if_neg (by omega)],fun k h1 h2=>⟨i+j - 1 - k,by omega,by omega,by rw [zfu hj,if_pos ⟨h1,h2⟩]⟩⟩
theorem zuc {xs:Array Keyed}{src d:Nat} (hs:src < xs.size) (hd:d<=src) (k:Nat):G (bubble xs src d) k=if k=src - d then G xs src else if src - d < k/\k<=src then G xs (k - 1) else G xs k:=by
 have e:=getElem?_bubble hs d hd k;by_cases h1:k=src - d
 ·rw [if_pos h1] at e ⊢;exact ze5 e
 ·rw [if_neg h1] at e ⊢;by_cases h2:src - d < k/\k<=src
  ·rw [if_pos h2] at e ⊢;exact ze5 e
  ·rw [if_neg h2] at e ⊢;exact ze5 e
theorem Re.bub {xs:Array Keyed}{src d:Nat} (hs:src < xs.size) (hd:d<=src):Re xs (bubble xs src d) (src - d) (src+1) :=
 ⟨bubble_perm _ _ _,fun k h=>by rw [zuc hs hd,if_neg (by omega),if_neg (by omega)],fun k h1 h2=>by
  rw [zuc hs hd];by_cases c:k=src - d
  ·exact ⟨src,by omega,by omega,by rw [if_pos c]⟩
  ·exact ⟨k - 1,by omega,by omega,by rw [if_neg c,if_pos ⟨by omega,by omega⟩]⟩⟩
structure SI (κ:SortKind) (a₀:Array Keyed) (pd:Array (Nat × Nat × Nat)) (st:SortSt):Prop where
 kind:kindOf st=κ
 failed:failedOf st=none
 perm:(arrOf st).Perm a₀
 pend:pendingOf st=pd
theorem SI.size {κ a₀ pd st} (h:SI κ a₀ pd st):(arrOf st).size=a₀.size:=h.perm.size_eq
theorem SI.set {κ a₀ pd st} (h:SI κ a₀ pd st) {ys:Array Keyed} (p:ys.Perm (arrOf st)):SI κ a₀ pd (setArr st ys):=⟨h.kind,h.failed,p.trans h.perm,h.pend⟩
section
variable {prog:Program}{w:World}{A:Around}{E:Value->Shared->Prop}{s:Shared}{κ:SortKind}{a₀:Array Keyed}{lt:Keyed->Keyed->Bool}{bf le:Keyed->Keyed->Prop}{st:SortSt}{pd:Array (Nat × Nat × Nat)}
theorem ztt {i j:Nat}{Q:Unit->SortSt->Prop} (h:Q () (setArr st (mir (arrOf st) i j))):wpS (model prog w) A E s (reverseSlice' i j) Q st:=by
 rw [reverseSlice'_eq];exact wpS_modify h
theorem z36 {i j:Nat}{Q:Unit->SortSt->Prop} (h:Q () (setArr st (bubble (arrOf st) i (i - j)))):wpS (model prog w) A E s (moveDown' i j) Q st:=by
 rw [moveDown'_eq];exact wpS_modify h
theorem grp (O:Ord lt bf le) {xs ys:Array Keyed}{lo n c:Nat} (c1:lo<=c) (c2:c < lo+n) (hy:∀k,G ys k=if c<=k/\k < lo+n then G xs (c+(lo+n) - 1 - k) else G xs k)
  (d1:∀i j,lo<=i->i < j->j < c->le (G xs j) (G xs i)) (d2:∀i j,lo<=i->i < c->c<=j->j < lo+n->lt (G xs j) (G xs i)=true)
  (d3:∀i j,c<=i->i < j->j < lo+n->le (G xs i) (G xs j)) (d4:∀i j,c<=i->i < lo+n->c<=j->j < lo+n->lt (G xs i) (G xs j)=false) :
  (∀i j,lo<=i->i < j->j < lo+n->le (G ys j) (G ys i))/\∀y,lt y (G xs (lo+n - 1))=true->∀i,lo<=i->i < lo+n->lt y (G ys i)=true:=by
 constructor
 ·intro i j h1 h2 h3;rw [hy i,hy j];by_cases a:j < c
  ·rw [if_neg (by omega), if_neg (by omega)];exact d1 i j h1 h2 a
  ·rw [if_pos ⟨by omega, h3⟩];by_cases b:i < c
   ·rw [if_neg (by omega)];exact O.f2 (d2 i _ h1 b (by omega) (by omega))
   ·rw [if_pos ⟨by omega, by omega⟩];exact d3 _ _ (by omega) (by omega) (by omega)
 ·intro y h i h1 h2;rw [hy i];by_cases b:c<=i/\i < lo+n
  ·rw [if_pos b];exact (O.nt _ h).resolve_right (fun q=>by rw [d4 _ _ (by omega) (by omega) (by omega) (by omega)] at q;cases q)
  ·rw [if_neg b];exact O.ltr h (d2 i _ h1 (by omega) (by omega) (by omega))
structure DI (lt:Keyed->Keyed->Bool) (le:Keyed->Keyed->Prop) (lo n neq:Nat) (xs:Array Keyed):Prop where
 nq:neq+1<=n
 d1:∀i j,lo<=i->i < j->j < lo+n - (neq+1)->le (G xs j) (G xs i)
 d2:∀i j,lo<=i->i < lo+n - (neq+1)->lo+n - (neq+1)<=j->j < lo+n->lt (G xs j) (G xs i)=true
 d3:∀i j,lo+n - (neq+1)<=i->i < j->j < lo+n->le (G xs i) (G xs j)
 d4:∀i j,lo+n - (neq+1)<=i->i < lo+n->lo+n - (neq+1)<=j->j < lo+n->lt (G xs i) (G xs j)=false
theorem DI.turn (O:Ord lt bf le) {lo n neq:Nat}{xs:Array Keyed} (d:DI lt le lo n neq xs) (hz:lo+n<=xs.size) :
  (∀i j,lo<=i->i < j->j < lo+n->le (G (mir xs (lo+n - (neq+1)) (lo+n)) j) (G (mir xs (lo+n - (neq+1)) (lo+n)) i))/\∀y,lt y (G xs (lo+n - 1))=true->∀i,lo<=i->i < lo+n->lt y (G (mir xs (lo+n - (neq+1)) (lo+n)) i)=true :=
 grp O (by have:=d.nq;omega) (by have:=d.nq;omega) (fun k=>zfu hz k) d.d1 d.d2 d.d3 d.d4
theorem DI.turn0 (O:Ord lt bf le) {lo n:Nat}{xs:Array Keyed} (d:DI lt le lo n 0 xs) :
  (∀i j,lo<=i->i < j->j < lo+n->le (G xs j) (G xs i))/\∀y,lt y (G xs (lo+n - 1))=true->∀i,lo<=i->i < lo+n->lt y (G xs i)=true :=
 grp (c:=lo+n - 1) O (by have:=d.nq;omega) (by have:=d.nq;omega) (fun k=>by
  split
  ·congr 1;omega
  ·rfl) d.d1 d.d2 d.d3 d.d4
theorem DI.next (O:Ord lt bf le) {lo n:Nat}{xs:Array Keyed} (h:∀i j,lo<=i->i < j->j < lo+n->le (G xs j) (G xs i)) (h2:∀i,lo<=i->i < lo+n->lt (G xs (lo+n)) (G xs i)=true):DI lt le lo (n+1) 0 xs :=
 ⟨by omega,fun i j a b c=>h i j a b (by omega),fun i j a b c d=>by
  have e:j=lo+n:=by omega
  rw [e];exact h2 i a (by omega),fun i j a b c=>by omega,fun i j a b c d=>by
  have e:j=i:=by omega
  rw [e];exact O.irr _⟩
theorem DI.like (O:Ord lt bf le) {lo n neq:Nat}{xs:Array Keyed} (d:DI lt le lo n neq xs) (hb:∀i,lo<=i->i < lo+n->bf (G xs i) (G xs (lo+n))) (q1:lt (G xs (lo+n)) (G xs (lo+n - 1))=false) (q2:lt (G xs (lo+n - 1)) (G xs (lo+n))=false):DI lt le lo (n+1) (neq+1) xs:=by
  have nq:=d.nq;have ec:lo+(n+1) - (neq+1+1)=lo+n - (neq+1):=by omega
  have t1:∀i,lo+n - (neq+1)<=i->i < lo+n->lt (G xs (lo+n)) (G xs i)=false:=fun i a b=>by
    cases q:lt (G xs (lo+n)) (G xs i) with
    | false=>rfl
    | true =>
      rcases O.nt (G xs (lo+n - 1)) q with z | z
      · rw [q1] at z;cases z
      · rw [d.d4 _ _ (by omega) (by omega) a b] at z;cases z
  have t2:∀i,lo+n - (neq+1)<=i->i < lo+n->lt (G xs i) (G xs (lo+n))=false:=fun i a b=>by
    cases q:lt (G xs i) (G xs (lo+n)) with
    | false=>rfl
    | true =>
      rcases O.nt (G xs (lo+n - 1)) q with z | z
      · rw [d.d4 _ _ a b (by omega) (by omega)] at z;cases z
      · rw [q2] at z;cases z
  refine ⟨by omega,?_,?_,?_,?_⟩<;>rw [ec]
  · exact d.d1
  · intro i j a b c e
    by_cases k:j < lo+n
    · exact d.d2 i j a b c k
    · have ej : j = lo + n := by omega
      rw [ej];exact (O.nt (G xs (lo+n)) (d.d2 i (lo+n - 1) a b (by omega) (by omega))).resolve_left (fun z=>by rw [q2] at z;cases z)
  · intro i j a b c
    by_cases k:j < lo+n
    · exact d.d3 i j a b k
    · have ej : j = lo + n := by omega
      rw [ej];exact (O.f1 (hb i (by omega) (by omega))).mp (t1 i a (by omega))
  · intro i j a b c e
    by_cases k:j < lo+n
    · by_cases k2 : i < lo + n
      · exact d.d4 i j a k2 c k
      · have ei : i = lo + n := by omega
        rw [ei];exact t1 j c k
    · have ej : j = lo + n := by omega
      rw [ej];by_cases k2:i < lo+n
      · exact t2 i a k2
      · have ei : i = lo + n := by omega
        rw [ei];exact O.irr _
theorem z06 {α:Type}{c:Prop} [Decidable c] {x y:StateT SortSt Sem α}{Q:α->SortSt->Prop}{T:SortSt->Prop} (h:∀s3,T s3->wpS (model prog w) A E s y Q s3) (h0:¬ c->T st) (h1:c->(∀s3,T s3->wpS (model prog w) A E s y Q s3)->wpS (model prog w) A E s x Q st):wpS (model prog w) A E s (if c then x else y) Q st:=by
 by_cases k:c
 ·rw [if_pos k];exact h1 k h
 ·rw [if_neg k];exact h st (h0 k)
theorem zzn (C:Asks prog w A E s κ a₀ lt) (O:Ord lt bf le) {lo nrem:Nat}{Q:Option Nat->SortSt->Prop} (I:SI κ a₀ pd st) (hsz:lo+nrem<=a₀.size) (h1:1<=nrem) (hc:∀c,lo<=c->Cut bf (arrOf st) c)
    (h:∀m st',SI κ a₀ pd st'->1<=m->m<=nrem->Re (arrOf st) (arrOf st') lo (lo+m)->Srt le (arrOf st') lo (lo+m)->Q (some m) st'):wpS (model prog w) A E s (countRun' lo nrem) Q st:=by
  have sz:=I.size;rw [countRun'_eq];refine wpS_bind (wpS_mono (wpS_forRange (I:=fun x c s2=>s2=st/\c=(none,x)/\1<=x/\x<=nrem/\Srt le (arrOf st) lo (lo+x))
    (Q:=fun c s2=>s2=st/\∃k,c=(none,k)/\1<=k/\k<=nrem/\Srt le (arrOf st) lo (lo+k)/\(k=nrem\/lt (G (arrOf st) (lo+k)) (G (arrOf st) (lo+k - 1))=true)) ?as1 ?af1 ⟨rfl,rfl,Nat.le_refl _,h1,(fun i j g1 g2 g3=>by omega)⟩) ?ap1)
  case af1 =>
    rintro c s2 ⟨e2,rfl,a0,a1,a2⟩;rw [show max 1 nrem=nrem by omega] at *
    exact ⟨e2,nrem,rfl,by omega,Nat.le_refl _,a2,.inl rfl⟩
  case as1 =>
    rintro x c s2 b1 b2 ⟨e2,rfl,a0,a1,a2⟩;subst e2;dsimp only;refine wpS_bind (zgc C I.kind I.perm (by omega) (by omega) ?_);cases q:lt (G (arrOf s2) (lo+x)) (G (arrOf s2) (lo+x - 1)) with
    | true =>
      dsimp only;rw [if_pos rfl];exact wpS_pure ⟨rfl,x,rfl,a0,a1,a2,.inr q⟩
    | false =>
      dsimp only;rw [if_neg (by decide)];refine wpS_pure ⟨rfl,rfl,by omega,by omega,fun i j h1 h2 h3=>?_⟩;by_cases hj:j < lo+x
      · exact a2 i j h1 h2 hj
      · have ej : j = lo + x := by omega
        subst ej;have b:le (G (arrOf s2) (lo+x - 1)) (G (arrOf s2) (lo+x)):=(O.f1 (hc (lo+x) (by omega) (lo+x - 1) (lo+x) (by omega) (Nat.le_refl _) (by rw [I.size];omega))).mp q;by_cases hi:i=lo+x - 1
        · rw [hi];exact b
        · exact O.tr (a2 i (lo+x - 1) h1 (by omega) (by omega)) b
  case ap1 =>
    rintro c s2 ⟨e2,n,rfl,a0,a1,a2,a3⟩;subst e2;dsimp only;by_cases en:n=nrem
    · rw [if_pos (by simpa using en)]
      exact wpS_pure (h n s2 I a0 a1 (.refl _ _ _) a2)
    · rw [if_neg (by simpa using en)]
      have q3:=a3.resolve_left en;refine z06 (T:=fun s3=>SI κ a₀ pd s3/\Re (arrOf s2) (arrOf s3) lo (lo+(n+1))/\DI lt le lo (n+1) 0 (arrOf s3)) (fun s3 ⟨I3,R3,D3⟩=>?main) (fun n1=>?no) (fun n1 H=>?yes)
      case yes =>
        refine wpS_bind (zgc C I.kind I.perm (by omega) (by omega) ?_);cases q:lt (G (arrOf s2) lo) (G (arrOf s2) (lo+n - 1)) with
        | true =>
          dsimp only;rw [if_pos rfl];exact wpS_pure (h n s2 I a0 a1 (.refl _ _ _) a2)
        | false =>
          dsimp only;rw [if_neg (by decide)];refine wpS_bind (ztt ?_);have lk:∀i,lo<=i->i < lo+n->lt (G (arrOf s2) (lo+n)) (G (arrOf s2) i)=true:=fun i g1 g2=>by
            have z1:lt (G (arrOf s2) i) (G (arrOf s2) (lo+n - 1))=false:=by
              cases z:lt (G (arrOf s2) i) (G (arrOf s2) (lo+n - 1)) with
              | false=>rfl
              | true =>
                rcases O.nt (G (arrOf s2) lo) z with y | y
                · by_cases ei : i = lo
                  · rw [ei,O.irr] at y;cases y
                  · have := O.f3 (hc i g1 lo i (by omega) (Nat.le_refl _) (by omega)) y
                    exact absurd (a2 lo i (Nat.le_refl _) (by omega) g2) this
                · rw [q] at y;cases y
            exact (O.nt _ q3).resolve_right (fun y=>by rw [z1] at y;cases y)
          obtain ⟨s3,e3,I3,R3,D3⟩ : ∃s3,s3=(setArr s2 (mir (arrOf s2) lo (lo+n)))/\SI κ a₀ pd s3/\Re (arrOf s2) (arrOf s3) lo (lo+(n+1))/\DI lt le lo (n+1) 0 (arrOf s3):=⟨_,rfl,I.set (Re.mir (by omega)).perm,(Re.mir (by omega)).mono (Nat.le_refl _) (by omega),DI.next O (fun i j g1 g2 g3=>by
                      show le (G (mir (arrOf s2) lo (lo+n)) j) (G (mir (arrOf s2) lo (lo+n)) i);rw [zfu (by omega),zfu (by omega),if_pos ⟨by omega,by omega⟩,if_pos ⟨by omega,by omega⟩];exact a2 _ _ (by omega) (by omega) (by omega)) (fun i g1 g2=>by
                      show lt (G (mir (arrOf s2) lo (lo+n)) (lo+n)) (G (mir (arrOf s2) lo (lo+n)) i)=true;rw [zfu (by omega),zfu (by omega),if_neg (by omega),if_pos ⟨by omega,by omega⟩];exact lk _ (by omega) (by omega))⟩
          rw [<-e3];exact H s3 ⟨I3,R3,D3⟩
      case no =>
        have en1:n=1:=by omega
        subst en1;exact ⟨I,.refl _ _ _,DI.next O (fun i j g1 g2 g3=>by omega) (fun i g1 g2=>by
          have ei:i=lo:=by omega
          rw [ei];exact q3)⟩
      case main =>
        refine wpS_bind (wpS_lift (wpAny_rule ⟨rfl,?_⟩));refine wpS_bind (wpS_mono (wpS_forRange (I:=fun x c s4=>∃neq,c=(none,x,neq)/\n+1<=x/\x<=nrem/\SI κ a₀ pd s4/\Re (arrOf s2) (arrOf s4) lo (lo+x)/\DI lt le lo x neq (arrOf s4))
          (Q:=fun c s4=>∃m neq,c=(none,m,neq)/\n+1<=m/\m<=nrem/\SI κ a₀ pd s4/\Re (arrOf s2) (arrOf s4) lo (lo+m)/\DI lt le lo m neq (arrOf s4)) ?dsd1 ?dfd1 ⟨0,rfl,Nat.le_refl _,by omega,I3,R3,D3⟩) ?dpd1)
        case dfd1 =>
          rintro c s4 ⟨neq,rfl,b0,b1,b2,b3,b4⟩;have e:max (n+1) nrem=nrem:=by omega
          rw [e] at b0 b1 b3 b4 ⊢;exact ⟨nrem,neq,rfl,b0,b1,b2,b3,b4⟩
        case dsd1 =>
          rintro x c s4 g1 g2 ⟨neq,rfl,b0,b1,I4,R4,D4⟩;dsimp only;have z4:=I4.size;have cut4:∀c,lo+x<=c->Cut bf (arrOf s4) c:=fun c hc'=>(hc c (by omega)).re R4 (by omega) (.inr hc');refine wpS_bind (zgc C I4.kind I4.perm (by omega) (by omega) ?_);cases q5:lt (G (arrOf s4) (lo+x)) (G (arrOf s4) (lo+x - 1)) with
          | true =>
            dsimp only;rw [if_pos rfl];by_cases nq:neq > 0
            · rw [if_pos nq]
              refine wpS_bind (ztt (wpS_pure ⟨0,rfl,by omega,by omega,I4.set (Re.mir (by omega)).perm,(R4.trans ((Re.mir (by omega)).mono (by have:=D4.nq;omega) (Nat.le_refl _))).mono (Nat.le_refl _) (by omega),?_⟩));obtain ⟨t1,t2⟩:=D4.turn O (by omega);refine DI.next O t1 fun i k1 k2=>?_;have:=t2 _ q5 i k1 k2;show lt (G (mir (arrOf s4) (lo+x - (neq+1)) (lo+x)) (lo+x)) _=true;rw [zfu (by omega),if_neg (by omega)];exact this
            · rw [if_neg nq]
              have e0:neq=0:=by omega
              subst e0;obtain ⟨t1,t2⟩:=D4.turn0 O;exact wpS_pure ⟨0,rfl,by omega,by omega,I4,R4.mono (Nat.le_refl _) (by omega),DI.next O t1 fun i k1 k2=>t2 _ q5 i k1 k2⟩
          | false =>
            dsimp only;rw [if_neg (by decide)];refine wpS_bind (zgc C I4.kind I4.perm (by omega) (by omega) ?_);cases q6:lt (G (arrOf s4) (lo+x - 1)) (G (arrOf s4) (lo+x)) with
            | true =>
              dsimp only;rw [if_pos rfl];exact wpS_pure ⟨x,neq,rfl,b0,b1,I4,R4,D4⟩
            | false =>
              dsimp only;rw [if_neg (by decide)];exact wpS_pure ⟨neq+1,rfl,by omega,by omega,I4,R4.mono (Nat.le_refl _) (by omega),D4.like O (fun i k1 k2=>cut4 (lo+x) (Nat.le_refl _) i (lo+x) k2 (Nat.le_refl _) (by omega)) q5 q6⟩
        case dpd1 =>
          rintro c s4 ⟨n,neq,rfl,b0,n2,I4,R4,D4⟩;dsimp only;have z4:=I4.size;refine z06 (T:=fun s6=>SI κ a₀ pd s6/\Re (arrOf s2) (arrOf s6) lo (lo+n)/\∀i j,lo<=i->i < j->j < lo+n->le (G (arrOf s6) j) (G (arrOf s6) i)) (fun s6 ⟨I6,R6,t1⟩=>?tl) (fun nq=>?tn) (fun nq H=>?ty)
          case ty =>
            refine wpS_bind (ztt ?_);have I6:SI κ a₀ pd (setArr s4 (mir (arrOf s4) (lo+n - (neq+1)) (lo+n))):=I4.set (Re.mir (by omega)).perm;have R6:Re (arrOf s2) (mir (arrOf s4) (lo+n - (neq+1)) (lo+n)) lo (lo+n):=R4.trans ((Re.mir (by omega)).mono (by have:=D4.nq;omega) (Nat.le_refl _));have t1:=(D4.turn O (by omega)).1;exact H _ ⟨I6,R6,t1⟩
          case tn =>
            have e0:neq=0:=by omega
            subst e0;exact ⟨I4,R4,(D4.turn0 O).1⟩
          case tl =>
            have z6:=I6.size;refine wpS_bind (ztt ?_);have I5:SI κ a₀ pd (setArr s6 (mir (arrOf s6) lo (lo+n))):=I6.set (Re.mir (by omega)).perm;have R5:Re (arrOf s2) (mir (arrOf s6) lo (lo+n)) lo (lo+n):=R6.trans (Re.mir (by omega));have z5:Srt le (mir (arrOf s6) lo (lo+n)) lo (lo+n):=fun i j h1 h2 h3=>by
              rw [zfu (by omega),zfu (by omega),if_pos ⟨by omega,by omega⟩,if_pos ⟨by omega,by omega⟩];exact t1 _ _ (by omega) (by omega) (by omega)
            have ea:mir (arrOf s6) lo (lo+n)=arrOf (setArr s6 (mir (arrOf s6) lo (lo+n))):=rfl
            revert I5 R5 z5
            rw [ea];generalize (setArr s6 (mir (arrOf s6) lo (lo+n)))=s5;intro I5 R5 z5;have hz5:=I5.size;have hc5:∀c,lo+n<=c->Cut bf (arrOf s5) c:=fun c hc'=>(hc c (by omega)).re R5 (by omega) (.inr hc');refine wpS_bind (wpS_mono (wpS_forRange (I:=fun x c s2=>s2=s5/\c=(none,x)/\n<=x/\x<=nrem/\Srt le (arrOf s5) lo (lo+x))
              (Q:=fun c s2=>s2=s5/\∃k,c=(none,k)/\n<=k/\k<=nrem/\Srt le (arrOf s5) lo (lo+k)/\(k=nrem\/lt (G (arrOf s5) (lo+k)) (G (arrOf s5) (lo+k - 1))=true)) ?asd11 ?afd11 ⟨rfl,rfl,Nat.le_refl _,n2,z5⟩) ?apd11)
            case afd11 =>
              rintro c s2 ⟨e2,rfl,y0,y1,a2⟩;rw [show max n nrem=nrem by omega] at *
              exact ⟨e2,nrem,rfl,by omega,Nat.le_refl _,a2,.inl rfl⟩
            case asd11 =>
              rintro x c s2 b1 b2 ⟨e2,rfl,y0,y1,a2⟩;subst e2;dsimp only;refine wpS_bind (zgc C I5.kind I5.perm (by omega) (by omega) ?_);cases q:lt (G (arrOf s2) (lo+x)) (G (arrOf s2) (lo+x - 1)) with
              | true =>
                dsimp only;rw [if_pos rfl];exact wpS_pure ⟨rfl,x,rfl,y0,y1,a2,.inr q⟩
              | false =>
                dsimp only;rw [if_neg (by decide)];refine wpS_pure ⟨rfl,rfl,by omega,by omega,fun i j h1 h2 h3=>?_⟩;by_cases hj:j < lo+x
                · exact a2 i j h1 h2 hj
                · have ej : j = lo + x := by omega
                  subst ej;have b:le (G (arrOf s2) (lo+x - 1)) (G (arrOf s2) (lo+x)):=(O.f1 (hc5 (lo+x) (by omega) (lo+x - 1) (lo+x) (by omega) (Nat.le_refl _) (by rw [I5.size];omega))).mp q;by_cases hi:i=lo+x - 1
                  · rw [hi];exact b
                  · exact O.tr (a2 i (lo+x - 1) h1 (by omega) (by omega)) b
            case apd11 =>
              rintro c s7 ⟨e7,m,rfl,y0,y1,y2,y3⟩;subst e7;exact wpS_pure (h m s7 I5 (by omega) y1 (R5.mono (Nat.le_refl _) (by omega)) y2)
end
end Tim
end L2
namespace L2
open PySem PyProof.Rows
namespace Tim
section
variable {prog:Program}{w:World}{A:Around}{E:Value->Shared->Prop}{s:Shared}{κ:SortKind}{a₀:Array Keyed}{lt:Keyed->Keyed->Bool}{bf le:Keyed->Keyed->Prop}{st:SortSt}{pd:Array (Nat × Nat × Nat)}
theorem z5d (C:Asks prog w A E s κ a₀ lt) (O:Ord lt bf le) {lo n ok:Nat}{Q:Bool->SortSt->Prop} (I:SI κ a₀ pd st) (hsz:lo+n<=a₀.size) (hok:ok<=n) (h1:1<=ok) (hs:Srt le (arrOf st) lo (lo+ok)) (hc:∀c,lo+ok<=c->Cut bf (arrOf st) c)
    (h:∀st',SI κ a₀ pd st'->Re (arrOf st) (arrOf st') lo (lo+n)->Srt le (arrOf st') lo (lo+n)->Q true st'):wpS (model prog w) A E s (binarySort' lo n ok) Q st:=by
  have sz:=I.size;rw [binarySort'_eq];have em:max ok 1=ok:=by omega
  rw [em];refine wpS_bind (wpS_mono (wpS_forRange (I:=fun k c s2=>c=(none,())/\ok<=k/\k<=n/\SI κ a₀ pd s2/\Re (arrOf st) (arrOf s2) lo (lo+k)/\Srt le (arrOf s2) lo (lo+k))
    (Q:=fun c s2=>c=(none,())/\SI κ a₀ pd s2/\Re (arrOf st) (arrOf s2) lo (lo+n)/\Srt le (arrOf s2) lo (lo+n)) ?step ?fin ⟨rfl,Nat.le_refl _,hok,I,.refl _ _ _,hs⟩) ?post)
  case post =>
    rintro c s2 ⟨rfl,I2,R2,S2⟩;exact wpS_pure (h s2 I2 R2 S2)
  case fin =>
    rintro c s2 ⟨hc,b0,b1,I2,R2,S2⟩;have e:max ok n=n:=by omega
    rw [e] at R2 S2;exact ⟨hc,I2,R2,S2⟩
  case step =>
    rintro k c s2 g1 g2 ⟨rfl,b0,b1,I2,R2,S2⟩;have z2:=I2.size;have ct:Cut bf (arrOf s2) (lo+k):=(hc (lo+k) (by omega)).re R2 (by omega) (.inr (Nat.le_refl _));refine wpS_bind (wpS_mono (wpS_forRange (I:=fun x c s3=>s3=s2/\∃l r,c=(none,l,r)/\l<=r/\r<=k/\r - l<=k - x/\(∀i,i < l->le (G (arrOf s2) (lo+i)) (G (arrOf s2) (lo+k)))/\∀i,r<=i->i < k->le (G (arrOf s2) (lo+k)) (G (arrOf s2) (lo+i)))
      (Q:=fun c s3=>s3=s2/\∃l,c=(none,l,l)/\l<=k/\(∀i,i < l->le (G (arrOf s2) (lo+i)) (G (arrOf s2) (lo+k)))/\∀i,l<=i->i < k->le (G (arrOf s2) (lo+k)) (G (arrOf s2) (lo+i))) ?istep ?ifin ⟨rfl,0,k,rfl,by omega,by omega,by omega,fun i hi=>by omega,fun i k1 k2=>by omega⟩) ?ipost)
    case ifin =>
      rintro c s3 ⟨e3,l,r,rfl,c1,c2,c3,c4,c5⟩;have e:r=l:=by omega
      subst e;exact ⟨e3,r,rfl,c2,c4,c5⟩
    case istep =>
      rintro x c s3 _ hx ⟨e3,l,r,rfl,c1,c2,c3,c4,c5⟩;subst e3;dsimp only;by_cases g:l ≥ r
      · rw [if_pos g]
        have e:r=l:=by omega
        subst e;exact wpS_pure ⟨rfl,r,rfl,c2,c4,c5⟩
      · rw [if_neg g]
        refine wpS_bind (zgc C I2.kind I2.perm (by omega) (by omega) ?_);have b:=ct (lo+(l+r) / 2) (lo+k) (by omega) (Nat.le_refl _) (by omega);cases q:lt (G (arrOf s3) (lo+k)) (G (arrOf s3) (lo+(l+r) / 2)) with
        | true =>
          dsimp only;rw [if_pos rfl];refine wpS_pure ⟨rfl,l,(l+r) / 2,rfl,by omega,by omega,by omega,c4,fun i k1 k2=>?_⟩;by_cases e:i=(l+r) / 2
          · rw [e];exact O.f2 q
          · exact O.tr (O.f2 q) (S2 _ _ (by omega) (by omega) (by omega))
        | false =>
          dsimp only;rw [if_neg (by decide)];refine wpS_pure ⟨rfl,(l+r) / 2+1,r,rfl,by omega,by omega,by omega,fun i k1=>?_,c5⟩;by_cases e:i=(l+r) / 2
          · rw [e];exact (O.f1 b).mp q
          · exact O.tr (S2 _ _ (by omega) (by omega) (by omega)) ((O.f1 b).mp q)
    case ipost =>
      rintro c s3 ⟨e3,l,rfl,c2,c4,c5⟩;subst e3;refine wpS_bind (z36 (wpS_pure ⟨rfl,by omega,by omega,I2.set (bubble_perm _ _ _),?_,?_⟩))
      · refine (R2.mono (Nat.le_refl _) (by omega)).trans ((Re.bub (by omega) (by omega)).mono (by omega) (by omega))
      · intro i j h1 h2 h3
        show le (G (bubble (arrOf s3) (lo+k) (lo+k - (lo+l))) i) (G (bubble (arrOf s3) (lo+k) (lo+k - (lo+l))) j);have el:lo+k - (lo+k - (lo+l))=lo+l:=by omega
        rw [zuc (by omega) (by omega),zuc (by omega) (by omega),el];have p4:∀i,lo<=i->i < lo+l->le (G (arrOf s3) i) (G (arrOf s3) (lo+k)):=fun i k1 k2=>by
          have:=c4 (i - lo) (by omega);rw [show lo+(i - lo)=i by omega] at this;exact this
        have p5:∀i,lo+l<=i->i < lo+k->le (G (arrOf s3) (lo+k)) (G (arrOf s3) i):=fun i k1 k2=>by
          have:=c5 (i - lo) (by omega) (by omega);rw [show lo+(i - lo)=i by omega] at this;exact this
        by_cases a1:i=lo+l
        · rw [if_pos a1, if_neg (by omega), if_pos ⟨by omega, by omega⟩]
          exact p5 _ (by omega) (by omega)
        · rw [if_neg a1]
          by_cases a2:j=lo+l
          · rw [if_neg (by omega), if_pos a2]
            exact p4 _ h1 (by omega)
          · rw [if_neg a2]
            by_cases a3:lo+l < i/\i<=lo+k
            · rw [if_pos a3, if_pos ⟨by omega, by omega⟩]
              exact S2 _ _ (by omega) (by omega) (by omega)
            · rw [if_neg a3]
              by_cases a4:lo+l < j/\j<=lo+k
              · rw [if_pos a4]
                by_cases a5:i=j - 1
                · rw [a5];exact O.rf _
                · exact S2 _ _ (by omega) (by omega) (by omega)
              · rw [if_neg a4]
                exact S2 _ _ (by omega) (by omega) (by omega)
end
end Tim
end L2
namespace L2
open PySem PyProof.Rows
namespace Tim
theorem G_list {a:Array Keyed}{i:Nat} (h:i < a.size):a.toList[i]?=some (G a i):=by rw [Array.getElem?_toList];exact zwa h
theorem take_G {a:Array Keyed}{i:Nat} (h:i < a.size):a.toList.take (i+1)=a.toList.take i++[G a i]:=by rw [List.take_add_one,G_list h];rfl
theorem zsu {a:Array Keyed}{i:Nat} (h:i < a.size):a.toList.drop i=G a i::a.toList.drop (i+1):=by
 have h' : i < a.toList.length:=by simpa using h
 rw [List.drop_eq_getElem_cons h'];have e:=G_list h;rw [List.getElem?_eq_getElem h'] at e;rw [sI e]
theorem mem_drop {a:Array Keyed}{n:Nat}{x:Keyed} (h:x∈a.toList.drop n):∃i,n<=i/\i < a.size/\x=G a i:=by
 obtain ⟨i,hi,e⟩:=List.mem_iff_getElem.mp h;have h1:n+i < a.toList.length:=by rw [List.length_drop] at hi;omega
 have h2:n+i < a.size:=by simpa using h1
 refine ⟨n+i,by omega,h2,?_⟩;rw [List.getElem_drop] at e;have g:=G_list h2;rw [List.getElem?_eq_getElem h1] at g;rw [<-e];exact sI g
theorem mem_take {a:Array Keyed}{n:Nat}{x:Keyed} (h:x∈a.toList.take n):∃i,i < n/\i < a.size/\x=G a i:=by
 obtain ⟨i,hi,e⟩:=List.mem_iff_getElem.mp h;rw [List.length_take] at hi;have h1:i < a.toList.length:=by omega
 have h2:i < a.size:=by simpa using h1
 refine ⟨i,by omega,h2,?_⟩;rw [List.getElem_take] at e;have g:=G_list h2;rw [List.getElem?_eq_getElem h1] at g;rw [<-e];exact sI g
theorem srt_list {le:Keyed->Keyed->Prop}{a:Array Keyed} (h:Srt le a 0 a.size):a.toList.Pairwise le:=by
 rw [List.pairwise_iff_getElem];intro i j hi hj hij;have hi' : i < a.size:=by simpa using hi
 have hj' : j < a.size:=by simpa using hj
 have e1:=G_list hi';have e2:=G_list hj';rw [List.getElem?_eq_getElem hi] at e1;rw [List.getElem?_eq_getElem hj] at e2;rw [sI e1,sI e2];exact h i j (Nat.zero_le _) hij hj'
theorem zb0 (a:Array Keyed) (i j:Nat):(a.extract i j).toList=(a.toList.drop i).take (j - i):=by rw [Array.toList_extract]
theorem zhq (a:Array Keyed) (i:Nat):(a.extract i a.size).toList=a.toList.drop i:=by
 rw [zb0,List.take_of_length_le];rw [List.length_drop];simp
structure Fin (le:Keyed->Keyed->Prop) (a b:Array Keyed) (r:List Keyed):Prop where
 p:r.Perm (a.toList++b.toList)
 s:r.Pairwise le
structure MI (le:Keyed->Keyed->Prop) (a b:Array Keyed) (o:List Keyed) (ia ib:Nat):Prop where
 p:o.Perm (a.toList.take ia++b.toList.take ib)
 s:o.Pairwise le
 oa:∀x∈o,∀i,ia<=i->i < a.size->le x (G a i)
 ob:∀x∈o,∀j,ib<=j->j < b.size->le x (G b j)
structure MH (le:Keyed->Keyed->Prop) (a b:Array Keyed) (o:List Keyed) (na nb:Nat):Prop where
 p:o.Perm (a.toList.drop na++b.toList.drop nb)
 s:o.Pairwise le
 oa:∀x∈o,∀i,i < na->le (G a i) x
 ob:∀x∈o,∀j,j < nb->le (G b j) x
section
variable {lt:Keyed->Keyed->Bool}{bf le:Keyed->Keyed->Prop} (O:Ord lt bf le) {a b:Array Keyed}{o:List Keyed}{ia ib na nb:Nat} (Sa:Srt le a 0 a.size) (Sb:Srt le b 0 b.size)
theorem zu5 {x:Keyed}{o p q:List Keyed} (h:o.Perm (p++q)):(o++[x]).Perm ((p++[x])++q):=by
 refine (h.append_right [x]).trans ?_;rw [List.append_assoc,List.append_assoc];exact List.perm_append_comm.append_left p
theorem MI.pushA (Sa:Srt le a 0 a.size) (m:MI le a b o ia ib) (hi:ia < a.size) (hb:∀j,ib<=j->j < b.size->le (G a ia) (G b j)):MI le a b (o++[G a ia]) (ia+1) ib:=by
 refine ⟨by rw [take_G hi];exact zu5 m.p,?_,fun x hx i h1 h2=>?_,fun x hx j h1 h2=>?_⟩
 ·rw [List.pairwise_append];refine ⟨m.s,List.pairwise_singleton _ _,fun x hx y hy=>?_⟩;rw [List.mem_singleton.mp hy];exact m.oa x hx ia (Nat.le_refl _) hi
 ·rcases List.mem_append.mp hx with z | z
  ·exact m.oa x z i (by omega) h2
  ·rw [List.mem_singleton.mp z];exact Sa _ _ (Nat.zero_le _) (by omega) h2
 ·rcases List.mem_append.mp hx with z | z
  ·exact m.ob x z j h1 h2
  ·rw [List.mem_singleton.mp z];exact hb j h1 h2
theorem MI.pushB (Sb:Srt le b 0 b.size) (m:MI le a b o ia ib) (hj:ib < b.size) (ha:∀i,ia<=i->i < a.size->le (G b ib) (G a i)):MI le a b (o++[G b ib]) ia (ib+1):=by
 refine ⟨?_,?_,fun x hx i h1 h2=>?_,fun x hx j h1 h2=>?_⟩
 ·rw [take_G hj];have:=m.p.append_right [G b ib];rw [List.append_assoc] at this;exact this
 ·rw [List.pairwise_append];refine ⟨m.s,List.pairwise_singleton _ _,fun x hx y hy=>?_⟩;rw [List.mem_singleton.mp hy];exact m.ob x hx ib (Nat.le_refl _) hj
 ·rcases List.mem_append.mp hx with z | z
  ·exact m.oa x z i h1 h2
  ·rw [List.mem_singleton.mp z];exact ha i h1 h2
 ·rcases List.mem_append.mp hx with z | z
  ·exact m.ob x z j (by omega) h2
  ·rw [List.mem_singleton.mp z];exact Sb _ _ (Nat.zero_le _) (by omega) h2
theorem znd {a:Array Keyed}{i k:Nat} (h:i+k < a.size):(a.toList.drop i).take (k+1)=(a.toList.drop i).take k++[G a (i+k)]:=by
 rw [List.take_add_one,List.getElem?_drop,G_list h];rfl
theorem MI.appA (Sa:Srt le a 0 a.size) (m:MI le a b o ia ib):∀k,ia+k<=a.size->(∀i,ia<=i->i < ia+k->∀j,ib<=j->j < b.size->le (G a i) (G b j))->MI le a b (o++(a.toList.drop ia).take k) (ia+k) ib
  | 0,_,_=>by rw [List.take_zero,List.append_nil];exact m
  | k+1,h1,h2=>by
    have:=(m.appA Sa k (by omega) fun i g1 g2=>h2 i g1 (by omega)).pushA Sa (by omega) (h2 (ia+k) (by omega) (by omega));rw [znd (by omega),<-List.append_assoc];exact this
theorem MI.appB (Sb:Srt le b 0 b.size) (m:MI le a b o ia ib):∀k,ib+k<=b.size->(∀j,ib<=j->j < ib+k->∀i,ia<=i->i < a.size->le (G b j) (G a i))->MI le a b (o++(b.toList.drop ib).take k) ia (ib+k)
  | 0,_,_=>by rw [List.take_zero,List.append_nil];exact m
  | k+1,h1,h2=>by
    have:=(m.appB Sb k (by omega) fun i g1 g2=>h2 i g1 (by omega)).pushB Sb (by omega) (h2 (ib+k) (by omega) (by omega));rw [znd (by omega),<-List.append_assoc];exact this
theorem zm0 (b:Array Keyed):b.toList.take b.size=b.toList:=List.take_of_length_le (by simp)
theorem MI.finB (Sa:Srt le a 0 a.size) (m:MI le a b o ia b.size):Fin le a b (o++a.toList.drop ia):=by
 refine ⟨?_,?_⟩
 ·have h := m.p;rw [zm0] at h;refine (h.append_right _).trans ?_;rw [List.append_assoc];refine (List.perm_append_comm.append_left _).trans ?_;rw [<-List.append_assoc,List.take_append_drop]
 ·rw [List.pairwise_append];refine ⟨m.s,(srt_list Sa).sublist (List.drop_sublist _ _),fun x hx y hy=>?_⟩;obtain ⟨i,h1,h2,rfl⟩:=mem_drop hy;exact m.oa x hx i h1 h2
theorem MI.finA (Sb:Srt le b 0 b.size) (m:MI le a b o a.size ib):Fin le a b (o++b.toList.drop ib):=by
 refine ⟨?_,?_⟩
 ·have h := m.p;rw [zm0] at h;refine (h.append_right _).trans ?_;rw [List.append_assoc,List.take_append_drop]
 ·rw [List.pairwise_append];refine ⟨m.s,(srt_list Sb).sublist (List.drop_sublist _ _),fun x hx y hy=>?_⟩;obtain ⟨i,h1,h2,rfl⟩:=mem_drop hy;exact m.ob x hx i h1 h2
theorem MI.finL (Sa:Srt le a 0 a.size) (Sb:Srt le b 0 b.size) (m:MI le a b o ia ib) (e:ia+1=a.size) (HA:∀j,j < b.size->le (G b j) (G a (a.size - 1))):Fin le a b (o++b.toList.drop ib++a.toList.drop ia):=by
 refine ⟨?_,?_⟩
 ·refine ((m.p.append_right _).append_right _).trans ?_;rw [List.append_assoc,List.append_assoc,<-List.append_assoc (b.toList.take ib),List.take_append_drop];refine (List.perm_append_comm.append_left _).trans ?_;rw [<-List.append_assoc,List.take_append_drop]
 ·rw [List.pairwise_append, List.pairwise_append];refine ⟨⟨m.s,(srt_list Sb).sublist (List.drop_sublist _ _),fun x hx y hy=>?_⟩,(srt_list Sa).sublist (List.drop_sublist _ _),fun x hx y hy=>?_⟩
  ·obtain ⟨i, h1, h2, rfl⟩ := mem_drop hy;exact m.ob x hx i h1 h2
  ·obtain ⟨i, h1, h2, rfl⟩ := mem_drop hy;rcases List.mem_append.mp hx with z | z
   ·exact m.oa x z i h1 h2
   ·obtain ⟨j, g1, g2, rfl⟩ := mem_drop z;have:i=a.size - 1:=by omega
    rw [this];exact HA j g2
theorem MH.pushA (Sa:Srt le a 0 a.size) (m:MH le a b o (na+1) nb) (h:na < a.size) (hb:∀j,j < nb->le (G b j) (G a na)):MH le a b (G a na::o) na nb:=by
 refine ⟨?_,List.pairwise_cons.mpr ⟨fun x hx=>m.oa x hx na (by omega),m.s⟩,fun x hx i h1=>?_,fun x hx j h1=>?_⟩
 ·rw [zsu h];exact m.p.cons _
 ·rcases List.mem_cons.mp hx with z | z
  ·rw [z];exact Sa _ _ (Nat.zero_le _) h1 h
  ·exact m.oa x z i (by omega)
 ·rcases List.mem_cons.mp hx with z | z
  ·rw [z];exact hb j h1
  ·exact m.ob x z j h1
theorem MH.pushB (Sb:Srt le b 0 b.size) (m:MH le a b o na (nb+1)) (h:nb < b.size) (ha:∀i,i < na->le (G a i) (G b nb)):MH le a b (G b nb::o) na nb:=by
 refine ⟨?_,List.pairwise_cons.mpr ⟨fun x hx=>m.ob x hx nb (by omega),m.s⟩,fun x hx i h1=>?_,fun x hx j h1=>?_⟩
 ·rw [zsu h];exact (m.p.cons _).trans List.perm_middle.symm
 ·rcases List.mem_cons.mp hx with z | z
  ·rw [z];exact ha i h1
  ·exact m.oa x z i h1
 ·rcases List.mem_cons.mp hx with z | z
  ·rw [z];exact Sb _ _ (Nat.zero_le _) h1 h
  ·exact m.ob x z j (by omega)
theorem zmj {a:Array Keyed}{i k:Nat} (h:i < a.size):(a.toList.drop i).take (k+1)=G a i::(a.toList.drop (i+1)).take k:=by
 rw [zsu h,List.take_succ_cons]
theorem MH.appA (Sa:Srt le a 0 a.size):∀(k at_:Nat),MH le a b o (at_+k) nb->at_+k<=a.size->(∀i,at_<=i->i < at_+k->∀j,j < nb->le (G b j) (G a i))->MH le a b ((a.toList.drop at_).take k++o) at_ nb
  | 0,at_,m,_,_=>by rw [List.take_zero];exact m
  | k+1,at_,m,h1,h2=>by
    have:=(MH.appA Sa k (at_+1) (by rw [show at_+1+k=at_+(k+1) by omega];exact m) (by omega) fun i g1 g2=>h2 i (by omega) (by omega)).pushA Sa (by omega) (h2 at_ (Nat.le_refl _) (by omega));rw [zmj (by omega)];exact this
theorem MH.appB (Sb:Srt le b 0 b.size):∀(k at_:Nat),MH le a b o na (at_+k)->at_+k<=b.size->(∀j,at_<=j->j < at_+k->∀i,i < na->le (G a i) (G b j))->MH le a b ((b.toList.drop at_).take k++o) na at_
  | 0,at_,m,_,_=>by rw [List.take_zero];exact m
  | k+1,at_,m,h1,h2=>by
    have:=(MH.appB Sb k (at_+1) (by rw [show at_+1+k=at_+(k+1) by omega];exact m) (by omega) fun i g1 g2=>h2 i (by omega) (by omega)).pushB Sb (by omega) (h2 at_ (Nat.le_refl _) (by omega));rw [zmj (by omega)];exact this
theorem MH.finA (Sb:Srt le b 0 b.size) (m:MH le a b o 0 nb):Fin le a b (b.toList.take nb++o):=by
 refine ⟨?_,?_⟩
 ·refine (m.p.append_left _).trans ?_;rw [List.drop_zero];refine List.perm_append_comm_assoc _ _ _ |>.trans ?_;rw [List.take_append_drop]
 ·rw [List.pairwise_append];refine ⟨(srt_list Sb).sublist (List.take_sublist _ _),m.s,fun x hx y hy=>?_⟩;obtain ⟨i,h1,h2,rfl⟩:=mem_take hx;exact m.ob y hy i h1
theorem MH.finB (Sa:Srt le a 0 a.size) (m:MH le a b o na 0):Fin le a b (a.toList.take na++o):=by
 refine ⟨?_,?_⟩
 ·refine (m.p.append_left _).trans ?_;rw [List.drop_zero,<-List.append_assoc,List.take_append_drop]
 ·rw [List.pairwise_append];refine ⟨(srt_list Sa).sublist (List.take_sublist _ _),m.s,fun x hx y hy=>?_⟩;obtain ⟨i,h1,h2,rfl⟩:=mem_take hx;exact m.oa y hy i h1
theorem MH.finF (Sa:Srt le a 0 a.size) (Sb:Srt le b 0 b.size) (m:MH le a b o na 1) (H0:∀i,i < a.size->le (G b 0) (G a i)):Fin le a b (b.toList.take 1++a.toList.take na++o):=by
 refine ⟨?_,?_⟩
 ·refine (m.p.append_left _).trans ?_;rw [List.append_assoc,<-List.append_assoc (a.toList.take na),List.take_append_drop];refine List.perm_append_comm_assoc _ _ _ |>.trans ?_;rw [List.take_append_drop]
 ·rw [List.pairwise_append, List.pairwise_append];refine ⟨⟨(srt_list Sb).sublist (List.take_sublist _ _),(srt_list Sa).sublist (List.take_sublist _ _),fun x hx y hy=>?_⟩,m.s,fun x hx y hy=>?_⟩
  ·obtain ⟨i, h1, h2, rfl⟩ := mem_take hx;obtain ⟨j,g1,g2,rfl⟩:=mem_take hy;have:i=0:=by omega
   rw [this];exact H0 j g2
  ·rcases List.mem_append.mp hx with z | z
   ·obtain ⟨i, h1, h2, rfl⟩ := mem_take z;exact m.ob y hy i h1
   ·obtain ⟨i, h1, h2, rfl⟩ := mem_take z;exact m.oa y hy i h1
end
end Tim
end L2
namespace L2
open PySem PyProof.Rows
namespace Tim
noncomputable def setG:Nat->StateT SortSt Sem Unit:=sortPriv% PySem.Builtin.setMinGallop
section
variable {prog:Program}{w:World}{A:Around}{E:Value->Shared->Prop}{s:Shared}{κ:SortKind}{a₀:Array Keyed}{lt:Keyed->Keyed->Bool}{bf le:Keyed->Keyed->Prop}{st:SortSt}{pd:Array (Nat × Nat × Nat)}
structure SG (κ:SortKind) (a₀:Array Keyed) (pd:Array (Nat × Nat × Nat)) (xs:Array Keyed) (st:SortSt):Prop where
 i:SI κ a₀ pd st
 e:arrOf st=xs
theorem zm6 {xs:Array Keyed}{g:Nat}{Q:Unit->SortSt->Prop} (S:SG κ a₀ pd xs st) (h:∀st',SG κ a₀ pd xs st'->Q () st'):wpS (model prog w) A E s (setG g) Q st :=
 wpS_modify (h _ ⟨⟨S.i.kind,S.i.failed,S.i.perm,S.i.pend⟩,S.e⟩)
theorem q_lt {x y:Keyed}{Q:Option Bool->SortSt->Prop} (C:Asks prog w A E s κ a₀ lt) {xs:Array Keyed} (S:SG κ a₀ pd xs st) (hx:x∈a₀.toList) (hy:y∈a₀.toList) (h:Q (some (lt x y)) st):wpS (model prog w) A E s (lt' x y) Q st:=C _ _ _ _ hx hy S.i.kind h
theorem ziu {out a b:Array Keyed}{ia ib:Nat}:(out++a.extract ia a.size++b.extract ib b.size).toList=out.toList++a.toList.drop ia++b.toList.drop ib:=by
 rw [Array.toList_append,Array.toList_append,zhq,zhq]
theorem zmp {le:Keyed->Keyed->Prop}{out a b:Array Keyed}{ia ib:Nat} (e:ib=b.size) (h:Fin le a b (out.toList++a.toList.drop ia)):Fin le a b (out++a.extract ia a.size++b.extract ib b.size).toList:=by
 subst e;rw [ziu,List.drop_of_length_le (l:=b.toList) (by simp),List.append_nil];exact h
theorem z3q {le:Keyed->Keyed->Prop}{out a b:Array Keyed}{ia ib:Nat} (e:ia=a.size) (h:Fin le a b (out.toList++b.toList.drop ib)):Fin le a b (out++a.extract ia a.size++b.extract ib b.size).toList:=by
 subst e;rw [ziu,List.drop_of_length_le (l:=a.toList) (by simp),List.append_nil];exact h
theorem zmb {le:Keyed->Keyed->Prop}{out a b:Array Keyed}{ia ib:Nat} (h:Fin le a b (out.toList++b.toList.drop ib++a.toList.drop ia)):Fin le a b (out++b.extract ib b.size++a.extract ia a.size).toList:=by
 rw [Array.toList_append,Array.toList_append,zhq,zhq];exact h
theorem q_if {α:Type}{c:Prop} [Decidable c] {x y:StateT SortSt Sem α}{Q:α->SortSt->Prop} (h1:c->wpS (model prog w) A E s x Q st) (h2:¬ c->wpS (model prog w) A E s y Q st):wpS (model prog w) A E s (if c then x else y) Q st:=by
 by_cases h:c
 ·rw [if_pos h];exact h1 h
 ·rw [if_neg h];exact h2 h
theorem zq3 {α:Type}{x:StateT SortSt Sem α}{Q:α->SortSt->Prop} (h:∀Q',(∀r t,Q r t->Q' r t)->wpS (model prog w) A E s x Q' st):wpS (model prog w) A E s x Q st:=h Q fun _ _ z=>z
theorem q_eq {α β:Type}{c:β->Prop} [∀m,Decidable (c m)] {x:β->StateT SortSt Sem α}{Q:α->SortSt->Prop}{g:β->β}{f:β->StateT SortSt Sem α} (e:∀m,x m=f (g m)) (h:∀u,wpS (model prog w) A E s (f u) Q st):∀m,wpS (model prog w) A E s (if c m then x m else f m) Q st:=fun m=>by
 rw [e];exact q_if (fun _=>h _) fun _=>h _
theorem zuo {α β γ:Type}{c:Prop} [Decidable c] {x:β->γ->StateT SortSt Sem α}{Q:α->SortSt->Prop}{v:β}{u:γ}{f:β->γ->StateT SortSt Sem α} (P:β->γ->Prop) (h0:¬ c->P v u) (h1:c->(∀v u,P v u->wpS (model prog w) A E s (f v u) Q st)->wpS (model prog w) A E s (x v u) Q st)
  (h:∀v u,P v u->wpS (model prog w) A E s (f v u) Q st):∀v',v=v'->∀u',u=u'->wpS (model prog w) A E s (if c then x v' u' else f v' u') Q st:=by
 rintro _ rfl _ rfl;exact q_if (fun k=>h1 k h) fun k=>h _ _ (h0 k)
theorem MI.finA' {le:Keyed->Keyed->Prop}{a b:Array Keyed}{o:List Keyed}{ia ib:Nat} (Sb:Srt le b 0 b.size) (m:MI le a b o ia ib) (e:ia=a.size):Fin le a b (o++b.toList.drop ib):=by subst e;exact m.finA Sb
theorem MI.finB' {le:Keyed->Keyed->Prop}{a b:Array Keyed}{o:List Keyed}{ia ib:Nat} (Sa:Srt le a 0 a.size) (m:MI le a b o ia ib) (e:ib=b.size):Fin le a b (o++a.toList.drop ia):=by subst e;exact m.finB Sa
structure MP (lt:Keyed->Keyed->Bool) (bf le:Keyed->Keyed->Prop) (a₀ a b:Array Keyed):Prop where
 sa:Srt le a 0 a.size
 sb:Srt le b 0 b.size
 ma:∀i,i < a.size->G a i∈a₀.toList
 mb:∀i,i < b.size->G b i∈a₀.toList
 bf:∀i j,i < a.size->j < b.size->bf (G a i) (G b j)
 a1:1<=a.size
 b1:1<=b.size
 h0:∀i,i < a.size->le (G b 0) (G a i)
 ha:∀j,j < b.size->le (G b j) (G a (a.size - 1))
inductive Fi {γ:Type} (F:Array Keyed->Prop):Option (Array Keyed) × γ->Prop
 | mk (r:Array Keyed) (g:γ):F r->Fi F (some r,g)
structure LX (le:Keyed->Keyed->Prop) (a b:Array Keyed) (x:Nat) (out:Array Keyed) (ia ib:Nat):Prop where
 m:MI le a b out.toList ia ib
 l:ia+1 < a.size
 r:ib < b.size
 s:x<=ia+ib
inductive L5 (P:Array Keyed->Nat->Nat->Prop):Option (Array Keyed) × Array Keyed × Nat × Nat × Nat->Prop
 | mk (out:Array Keyed) (ia ib mg:Nat):P out ia ib->L5 P (none,out,ia,ib,mg)
inductive L6 (P:Array Keyed->Nat->Nat->Prop):Option (Array Keyed) × Array Keyed × Nat × Nat × Nat × Nat->Prop
 | mk (out:Array Keyed) (ia ib ac bc:Nat):P out ia ib->L6 P (none,out,ia,ib,ac,bc)
inductive L7 (P:Array Keyed->Nat->Nat->Prop):Option (Array Keyed) × Array Keyed × Nat × Nat × Nat × Nat × Nat->Prop
 | mk (out:Array Keyed) (ia ib mg ac bc:Nat):P out ia ib->L7 P (none,out,ia,ib,mg,ac,bc)
theorem z44 (C:Asks prog w A E s κ a₀ lt) (O:Ord lt bf le) {a b xs:Array Keyed}{Q:Array Keyed->SortSt->Prop} (S:SG κ a₀ pd xs st) (P:MP lt bf le a₀ a b)
    (h:∀r st',SG κ a₀ pd xs st'->Fin le a b r.toList->Q r st'):wpS (model prog w) A E s (mLo a b) Q st:=by
  have leA:∀i j,i<=j->j < a.size->le (G a i) (G a j):=fun i j h1 h2=>by
    by_cases e:i=j
    · rw [e];exact O.rf _
    · exact P.sa i j (Nat.zero_le _) (by omega) h2
  have leB:∀i j,i<=j->j < b.size->le (G b i) (G b j):=fun i j h1 h2=>by
    by_cases e:i=j
    · rw [e];exact O.rf _
    · exact P.sb i j (Nat.zero_le _) (by omega) h2
  have pa:=P.a1;have pb:=P.b1;show wpS (model prog w) A E s (liftM (rule _) >>= _) Q st;refine wpS_bind (wpS_lift (wpAny_rule ⟨rfl,?_⟩));refine wpS_bind (zan pb ?_);have m0:MI le a b (#[G b 0]:Array Keyed).toList 0 1:=by
    have:=MI.pushB (o:=[]) (ia:=0) (ib:=0) P.sb ⟨by simp,.nil,fun x hx=>by simp at hx,fun x hx=>by simp at hx⟩ (by omega) (fun i _ h2=>P.h0 i h2);simpa using this
  dsimp only;by_cases e1:1=b.size
  · rw [if_pos (by simpa using e1)]
    refine wpS_pure (h _ _ S (zmp e1 (m0.finB' P.sa e1)))
  rw [if_neg (by simpa using e1)];by_cases e2:0+1=a.size
  · rw [if_pos (by simpa using e2)]
    exact wpS_pure (h _ _ S (zmb (m0.finL P.sa P.sb e2 P.ha)))
  rw [if_neg (by simpa using e2)];refine wpS_bind (wpS_get ?_);refine wpS_bind (wpS_mono (wpS_forRange (I:=fun x c s2=>SG κ a₀ pd xs s2/\L5 (LX le a b x) c)
    (Q:=fun c s2=>SG κ a₀ pd xs s2/\Fi (fun r=>Fin le a b r.toList) c) ?os ?of ⟨S,.mk _ 0 1 _ ⟨m0,by omega,by omega,by omega⟩⟩) ?op)
  case of =>
    rintro c s2 ⟨_,out,ia,ib,mg,b2,b3,b4,b5⟩;exfalso;omega
  case op =>
    rintro c s2 hC;refine aG fun G hG=>?_;obtain ⟨b1,r,g,b2⟩:=hC;refine hG ?_;clear hG;clear G;exact wpS_pure (h _ _ b1 b2)
  case os =>
    rintro x c s2 _ hx hC;refine aG fun G hG=>?_;obtain ⟨S2,out,ia,ib,mg,Z2⟩:=hC;refine hG ?_;clear hG;clear G;dsimp only;refine wpS_bind (wpS_mono (wpS_forRange (I:=fun y c s3=>s3=s2/\L6 (LX le a b x) c)
      (Q:=fun c s3=>s3=s2/\(Fi (fun r=>Fin le a b r.toList) c\/L6 (LX le a b x) c)) ?is1 ?if1 ⟨rfl,.mk out ia ib 0 0 Z2⟩) ?ip1)
    case if1 =>
      rintro c s3 ⟨e3,z⟩;exact ⟨e3,.inr z⟩
    case is1 =>
      rintro y c s3 _ hy hC;refine aG fun G hG=>?_;obtain ⟨e3,out,ia,ib,ac,bc,m3,c3,c4,c5⟩:=hC;refine hG ?_;clear hG;clear G;subst e3;dsimp only;refine wpS_bind (zan c4 (wpS_bind (zan (by omega) (wpS_bind (q_lt C S2 (P.mb _ c4) (P.ma _ (by omega)) ?_)))));have bb:=P.bf ia ib (by omega) c4;cases q:lt (G b ib) (G a ia) with
      | true =>
        dsimp only;rw [if_pos rfl];refine wpS_bind (zan c4 ?_);have m4:MI le a b (out.push (G b ib)).toList ia (ib+1):=by
          rw [Array.toList_push];exact m3.pushB P.sb c4 fun i g1 g2=>O.tr (O.f2 q) (leA _ _ g1 g2)
        by_cases e:ib+1=b.size
        · rw [if_pos (by simpa using e)]
          refine wpS_pure ⟨rfl,.inl (.mk _ _ (zmp e ?_))⟩;rw [e] at m4;exact m4.finB P.sa
        · rw [if_neg (by simpa using e)]
          split
          · exact wpS_pure ⟨rfl,.inr (.mk _ _ _ _ _ ⟨m4,c3,by omega,by omega⟩)⟩
          · exact wpS_pure ⟨rfl,.mk _ _ _ _ _ ⟨m4,c3,by omega,by omega⟩⟩
      | false =>
        dsimp only;rw [if_neg (by decide)];refine wpS_bind (zan (by omega) ?_);have m4:MI le a b (out.push (G a ia)).toList (ia+1) ib:=by
          rw [Array.toList_push];exact m3.pushA P.sa (by omega) fun j g1 g2=>O.tr ((O.f1 bb).mp q) (leB _ _ g1 g2)
        by_cases e:ia+1+1=a.size
        · rw [if_pos (by simpa using e)]
          exact wpS_pure ⟨rfl,.inl (.mk _ _ (zmb (m4.finL P.sa P.sb e P.ha)))⟩
        · rw [if_neg (by simpa using e)]
          split
          · exact wpS_pure ⟨rfl,.inr (.mk _ _ _ _ _ ⟨m4,by omega,c4,by omega⟩)⟩
          · exact wpS_pure ⟨rfl,.mk _ _ _ _ _ ⟨m4,by omega,c4,by omega⟩⟩
    case ip1 =>
      rintro c s3 ⟨e3,z⟩;subst e3;refine aG fun G hG=>?_;rcases z with ⟨r,g,f⟩ | ⟨out,ia,ib,ac,bc,m3,c3,c4,c5⟩
      · refine hG ?_
        clear hG;clear G;exact wpS_pure ⟨S2,.mk _ _ f⟩
      · refine hG ?_
        clear hG;clear G;dsimp only;refine wpS_bind (wpS_lift (wpAny_rule ⟨rfl,?_⟩));refine wpS_bind (wpS_mono (wpS_forRange (I:=fun y c s4=>SG κ a₀ pd xs s4/\L7 (LX le a b (x+y)) c)
          (Q:=fun c s4=>SG κ a₀ pd xs s4/\(Fi (fun r=>Fin le a b r.toList) c\/L7 (LX le a b (x+1)) c)) ?gs ?gf ⟨S2,.mk out ia ib _ ac bc ⟨m3,c3,c4,by omega⟩⟩) ?gp)
        case gf =>
          rintro c s4 ⟨S4,out,ia,ib,mg,ac,bc,m4,d3,d4,d5⟩;exact ⟨S4,.inr (.mk _ _ _ _ _ _ ⟨m4,d3,d4,by omega⟩)⟩
        case gp =>
          rintro c s4 ⟨S4,z⟩;refine aG fun G hG=>?_;rcases z with ⟨r,g,f⟩ | ⟨out,ia,ib,mg,ac,bc,Z4⟩
          · refine hG ?_
            clear hG;clear G;exact wpS_pure ⟨S4,.mk _ _ f⟩
          · refine hG ?_
            clear hG;clear G;dsimp only;exact wpS_bind (zm6 S4 fun s5 S5=>wpS_pure ⟨S5,.mk _ _ _ _ Z4⟩)
        case gs =>
          rintro y c s4 _ hy hC;refine aG fun G hG=>?_;obtain ⟨S4,out,ia,ib,mg,ac,bc,m4,d3,d4,d5⟩:=hC;refine hG ?_;clear hG;clear G;simp (config:={ maxSteps:=10000000,failIfUnchanged:=false }) only [];refine zq3 fun Q' hQ=>?_;generalize mg=mg
          revert mg
          refine q_eq (g:=fun mg=>mg - 1) (fun _=>rfl) fun mg=>?_;dsimp (config:={ failIfUnchanged:=false }) only;refine wpS_bind (zm6 S4 fun s5 S5=>wpS_bind (zan d4 (wpS_bind (znj (left:=false) (key:=G b ib) (arr:=a) (base:=ia) (n:=a.size - ia) (hint:=0) (B:=fun i=>!lt (G b ib) (G a (ia+i))) C S5.i.kind (P.mb _ d4) (by omega) (fun i hi=>P.ma _ (by omega)) (fun i hi=>rfl) (fun i j h1 h2 h3=>?mono1) (by omega) fun k k1 k2 k3=>?_))))
          case mono1 =>
            have h3' : lt (G b ib) (G a (ia+j))=false:=by simpa using h3
            have l1:=(O.f1 (P.bf (ia+j) ib (by omega) d4)).mp h3';have l2:=(O.f1 (P.bf (ia+i) ib (by omega) d4)).mpr (O.tr (leA _ _ (by omega) (by omega)) l1);show (!lt (G b ib) (G a (ia+i)))=true;rw [l2];rfl
          have w1:∀i,ia<=i->i < ia+k->le (G a i) (G b ib):=fun i g1 g2=>by
            have:=k2 (i - ia) (by omega);rw [Nat.add_sub_cancel' g1] at this;exact (O.f1 (P.bf i ib (by omega) d4)).mp (by simpa using this)
          have w2:∀i,ia+k<=i->i < a.size->le (G b ib) (G a i):=fun i g1 g2=>by
            have:=k3 (i - ia) (by omega) (by omega);rw [Nat.add_sub_cancel' (Nat.le_trans (Nat.le_add_right _ _) g1)] at this;exact O.f2 (by simpa using this)
          have m5:MI le a b (out++a.extract ia (ia+k)).toList (ia+k) ib:=by
            rw [Array.toList_append,zb0,Nat.add_sub_cancel_left];exact m4.appA P.sa k (by omega) fun i g1 g2 j g3 g4=>O.tr (w1 i g1 g2) (leB _ _ g3 g4)
          dsimp (config:={ failIfUnchanged:=false }) only;generalize eou:out=out'
          revert out'
          generalize ena:ia=na'
          revert na'
          refine zuo (fun ia1 out1=>MI le a b out1.toList ia1 ib/\(∀i,ia1<=i->i < a.size->le (G b ib) (G a i))/\ia1+1 < a.size/\x+y<=ia1+ib) (fun hk0=>?_) (fun hc H=>?_) fun ia1 out1 ⟨n5,u1,b6,p6⟩=>?_
          · have k0 : k = 0 := by omega
            subst k0;exact ⟨m4,w2,d3,d5⟩
          · refine q_if (fun e1 => ?_) fun e1 => ?_
            · have e1 : ia + k + 1 = a.size := by simpa using e1
              exact wpS_pure (hQ _ _ ⟨S5,.inl (.mk _ _ (zmb (m5.finL P.sa P.sb e1 P.ha)))⟩)
            have e1:¬ ia+k+1=a.size:=by simpa using e1
            refine q_if (fun e2=>?_) fun e2=>?_
            · have e2 : ia + k = a.size := by simpa using e2
              exact wpS_pure (hQ _ _ ⟨S5,.inl (.mk _ _ (z3q e2 (m5.finA' P.sb e2)))⟩)
            have e2:¬ ia+k=a.size:=by simpa using e2
            exact H _ _ ⟨m5,w2,by omega,by omega⟩
          clear m5 m4 w2 w1 k3 k2 k1;dsimp (config:={ failIfUnchanged:=false }) only;refine wpS_bind (zan d4 ?_);have m6:MI le a b (out1.push (G b ib)).toList ia1 (ib+1):=by
            rw [Array.toList_push];exact n5.pushB P.sb d4 u1
          refine q_if (fun e3=>?_) fun e3=>?_
          · have e3 : ib + 1 = b.size := by simpa using e3
            exact wpS_pure (hQ _ _ ⟨S5,.inl (.mk _ _ (zmp e3 (m6.finB' P.sa e3)))⟩)
          have e3:¬ ib+1=b.size:=by simpa using e3
          refine wpS_bind (zan (by omega) (wpS_bind (znj (left:=true) (key:=G a ia1) (arr:=b) (base:=ib+1) (n:=b.size - (ib+1)) (hint:=0) (B:=fun j=>lt (G b (ib+1+j)) (G a ia1)) C S5.i.kind (P.ma _ (by omega)) (by omega) (fun j hj=>P.mb _ (by omega)) (fun j hj=>rfl) (fun i j h1 h2 h3=>?mono2) (by omega) fun l l1 l2 l3=>?_)))
          case mono2 =>
            have n1:=O.f3 (P.bf ia1 (ib+1+j) (by omega) (by omega)) h3;cases q:lt (G b (ib+1+i)) (G a ia1) with
            | true=>rfl
            | false=>exact absurd (O.tr ((O.f1 (P.bf ia1 (ib+1+i) (by omega) (by omega))).mp q) (leB _ _ (by omega) (by omega))) n1
          have v1:∀j,ib+1<=j->j < ib+1+l->le (G b j) (G a ia1):=fun j g1 g2=>by
            have:=l2 (j - (ib+1)) (by omega);rw [Nat.add_sub_cancel' g1] at this;exact O.f2 this
          have v2:∀j,ib+1+l<=j->j < b.size->le (G a ia1) (G b j):=fun j g1 g2=>by
            have:=l3 (j - (ib+1)) (by omega) (by omega);rw [Nat.add_sub_cancel' (Nat.le_trans (Nat.le_add_right _ _) g1)] at this;exact (O.f1 (P.bf ia1 j (by omega) g2)).mp this
          have m7:MI le a b (out1.push (G b ib)++b.extract (ib+1) (ib+1+l)).toList ia1 (ib+1+l):=by
            rw [Array.toList_append,zb0,Nat.add_sub_cancel_left];exact m6.appB P.sb l (by omega) fun j g1 g2 i g3 g4=>O.tr (v1 j g1 g2) (leA _ _ g3 g4)
          dsimp (config:={ failIfUnchanged:=false }) only;generalize hnb:ib+1=ib1 at m7 m6 v2 e3 ⊢;generalize hout:out1.push (G b ib)=out2 at m7 m6 ⊢;generalize eou:out2=out'
          revert out'
          generalize ena:ib1=na'
          revert na'
          refine zuo (fun ib2 out2=>MI le a b out2.toList ia1 ib2/\(∀j,ib2<=j->j < b.size->le (G a ia1) (G b j))/\ib2 < b.size/\x+y+1<=ia1+ib2) (fun hl0=>?_) (fun hc H=>?_) fun ib2 out3 ⟨n7,u2,b7,p7⟩=>?_
          · have k0 : l = 0 := by omega
            subst k0;exact ⟨m6,v2,by omega,by omega⟩
          · refine q_if (fun e4 => ?_) fun e4 => ?_
            · have e4 : ib1 + l = b.size := by simpa using e4
              exact wpS_pure (hQ _ _ ⟨S5,.inl (.mk _ _ (zmp e4 (m7.finB' P.sa e4)))⟩)
            have e4:¬ ib1+l=b.size:=by simpa using e4
            exact H _ _ ⟨m7,v2,by omega,by omega⟩
          dsimp (config:={ failIfUnchanged:=false }) only;refine wpS_bind (zan (by omega) ?_);have m8:MI le a b (out3.push (G a ia1)).toList (ia1+1) ib2:=by
            rw [Array.toList_push];exact n7.pushA P.sa (by omega) u2
          refine q_if (fun e5=>?_) fun e5=>?_
          · have e5 : ia1 + 1 + 1 = a.size := by simpa using e5
            exact wpS_pure (hQ _ _ ⟨S5,.inl (.mk _ _ (zmb (m8.finL P.sa P.sb e5 P.ha)))⟩)
          have e5:¬ ia1+1+1=a.size:=by simpa using e5
          refine q_if (fun _=>?_) fun _=>?_
          · exact wpS_pure (hQ _ _ ⟨S5,.inr (.mk _ _ _ _ _ _ ⟨m8,by omega,b7,by omega⟩)⟩)
          · exact wpS_pure (hQ _ _ ⟨S5,.mk _ _ _ _ _ _ ⟨m8,by omega,b7,by omega⟩⟩)
end
end Tim
end L2
namespace L2
open PySem PyProof.Rows
namespace Tim
section
variable {prog:Program}{w:World}{A:Around}{E:Value->Shared->Prop}{s:Shared}{κ:SortKind}{a₀:Array Keyed}{lt:Keyed->Keyed->Bool}{bf le:Keyed->Keyed->Prop}{st:SortSt}{pd:Array (Nat × Nat × Nat)}
variable {a b out:Array Keyed}{o:List Keyed}{na nb at_:Nat}
theorem MH.pushA' (Sa:Srt le a 0 a.size) (m:MH le a b out.toList.reverse na nb) (h1:1<=na) (h:na<=a.size) (hb:∀j,j < nb->le (G b j) (G a (na - 1))):MH le a b (out.push (G a (na - 1))).toList.reverse (na - 1) nb:=by
 obtain ⟨n,rfl⟩ : ∃n,na=n+1:=⟨na - 1,by omega⟩;rw [Array.toList_push,List.reverse_append];exact m.pushA Sa (by omega) hb
theorem MH.pushB' (Sb:Srt le b 0 b.size) (m:MH le a b out.toList.reverse na nb) (h1:1<=nb) (h:nb<=b.size) (ha:∀i,i < na->le (G a i) (G b (nb - 1))):MH le a b (out.push (G b (nb - 1))).toList.reverse na (nb - 1):=by
 obtain ⟨n,rfl⟩ : ∃n,nb=n+1:=⟨nb - 1,by omega⟩;rw [Array.toList_push,List.reverse_append];exact m.pushB Sb (by omega) ha
theorem zrc (x:Array Keyed) (i j:Nat):(out++(x.extract i j).reverse).toList.reverse=(x.toList.drop i).take (j - i)++out.toList.reverse:=by
 rw [Array.toList_append,List.reverse_append,Array.toList_reverse,List.reverse_reverse,zb0]
theorem MH.appA' (Sa:Srt le a 0 a.size) (m:MH le a b out.toList.reverse na nb) (h1:at_<=na) (h:na<=a.size) (hb:∀i,at_<=i->i < na->∀j,j < nb->le (G b j) (G a i)):MH le a b (out++(a.extract at_ na).reverse).toList.reverse at_ nb:=by
 rw [zrc];obtain ⟨k,rfl⟩ : ∃k,na=at_+k:=⟨na - at_,by omega⟩;rw [show at_+k - at_=k by omega];exact MH.appA Sa k at_ m h hb
theorem MH.appB' (Sb:Srt le b 0 b.size) (m:MH le a b out.toList.reverse na nb) (h1:at_<=nb) (h:nb<=b.size) (ha:∀j,at_<=j->j < nb->∀i,i < na->le (G a i) (G b j)):MH le a b (out++(b.extract at_ nb).reverse).toList.reverse na at_:=by
 rw [zrc];obtain ⟨k,rfl⟩ : ∃k,nb=at_+k:=⟨nb - at_,by omega⟩;rw [show at_+k - at_=k by omega];exact MH.appB Sb k at_ m h ha
theorem zc1 (x:Array Keyed) (n:Nat):(x.extract 0 n).toList=x.toList.take n:=by rw [zb0,List.drop_zero,Nat.sub_zero]
theorem MH.done0 (Sb:Srt le b 0 b.size) (m:MH le a b out.toList.reverse na nb) (e:na=0):Fin le a b (a.extract 0 na++b.extract 0 nb++out.reverse).toList:=by
 subst e;rw [Array.toList_append,Array.toList_append,zc1,zc1,List.take_zero,List.nil_append,Array.toList_reverse];exact m.finA Sb
theorem MH.done1 (Sa:Srt le a 0 a.size) (m:MH le a b out.toList.reverse na nb) (e:nb=0):Fin le a b (a.extract 0 na++b.extract 0 nb++out.reverse).toList:=by
 subst e;rw [Array.toList_append,Array.toList_append,zc1,zc1,List.take_zero,List.append_nil,Array.toList_reverse];exact m.finB Sa
theorem MH.first (Sa:Srt le a 0 a.size) (Sb:Srt le b 0 b.size) (m:MH le a b out.toList.reverse na nb) (e:nb=1) (H0:∀i,i < a.size->le (G b 0) (G a i)):Fin le a b (b.extract 0 nb++a.extract 0 na++out.reverse).toList:=by
 subst e;rw [Array.toList_append,Array.toList_append,zc1,zc1,Array.toList_reverse];exact m.finF Sa Sb H0
structure HX (le:Keyed->Keyed->Prop) (a b:Array Keyed) (x:Nat) (out:Array Keyed) (na nb:Nat):Prop where
 m:MH le a b out.toList.reverse na nb
 l:1<=na
 r:2<=nb
 s:na<=a.size
 t:nb<=b.size
 u:x+na+nb<=a.size+b.size
inductive H5 (P:Array Keyed->Nat->Nat->Prop):Option (Array Keyed) × Nat × Nat × Array Keyed × Nat->Prop
 | mk (out:Array Keyed) (na nb mg:Nat):P out na nb->H5 P (none,na,nb,out,mg)
inductive H6 (P:Array Keyed->Nat->Nat->Prop):Option (Array Keyed) × Nat × Nat × Array Keyed × Nat × Nat->Prop
 | mk (out:Array Keyed) (na nb ac bc:Nat):P out na nb->H6 P (none,na,nb,out,ac,bc)
inductive H7 (P:Array Keyed->Nat->Nat->Prop):Option (Array Keyed) × Nat × Nat × Array Keyed × Nat × Nat × Nat->Prop
 | mk (out:Array Keyed) (na nb mg ac bc:Nat):P out na nb->H7 P (none,na,nb,out,mg,ac,bc)
theorem z4w (C:Asks prog w A E s κ a₀ lt) (O:Ord lt bf le) {a b xs:Array Keyed}{Q:Array Keyed->SortSt->Prop} (S:SG κ a₀ pd xs st) (P:MP lt bf le a₀ a b)
    (h:∀r st',SG κ a₀ pd xs st'->Fin le a b r.toList->Q r st'):wpS (model prog w) A E s (mHi a b) Q st:=by
  have leA:∀i j,i<=j->j < a.size->le (G a i) (G a j):=fun i j h1 h2=>by
    by_cases e:i=j
    · rw [e];exact O.rf _
    · exact P.sa i j (Nat.zero_le _) (by omega) h2
  have leB:∀i j,i<=j->j < b.size->le (G b i) (G b j):=fun i j h1 h2=>by
    by_cases e:i=j
    · rw [e];exact O.rf _
    · exact P.sb i j (Nat.zero_le _) (by omega) h2
  have pa:=P.a1;have pb:=P.b1;show wpS (model prog w) A E s (liftM (rule _) >>= _) Q st;refine wpS_bind (wpS_lift (wpAny_rule ⟨rfl,?_⟩));refine wpS_bind (zan (show a.size - 1 < a.size by omega) ?_);have m0:MH le a b (#[G a (a.size - 1)]:Array Keyed).toList.reverse (a.size - 1) b.size:=by
    have:=MH.pushA' (out:=#[]) (na:=a.size) (nb:=b.size) (a:=a) (b:=b) P.sa ⟨by simp,.nil,fun x hx=>by simp at hx,fun x hx=>by simp at hx⟩ pa (Nat.le_refl _) P.ha;simpa using this
  dsimp only;by_cases e1:a.size - 1=0
  · rw [if_pos (by simpa using e1)]
    exact wpS_pure (h _ _ S (m0.done0 P.sb e1))
  rw [if_neg (by simpa using e1)];by_cases e2:b.size=1
  · rw [if_pos (by simpa using e2)]
    exact wpS_pure (h _ _ S (m0.first P.sa P.sb e2 P.h0))
  rw [if_neg (by simpa using e2)];refine wpS_bind (wpS_get ?_);refine wpS_bind (wpS_mono (wpS_forRange (I:=fun x c s2=>SG κ a₀ pd xs s2/\H5 (HX le a b x) c)
    (Q:=fun c s2=>SG κ a₀ pd xs s2/\Fi (fun r=>Fin le a b r.toList) c) ?os ?of ⟨S,.mk _ (a.size - 1) b.size _ ⟨m0,by omega,by omega,by omega,by omega,by omega⟩⟩) ?op)
  case of =>
    rintro c s2 ⟨_,out,na,nb,mg,b2,b3,b4,b5,b6,b7⟩;exfalso;omega
  case op =>
    rintro c s2 hC;refine aG fun G hG=>?_;obtain ⟨b1,r,g,b2⟩:=hC;refine hG ?_;clear hG;clear G;exact wpS_pure (h _ _ b1 b2)
  case os =>
    rintro x c s2 _ hx hC;refine aG fun G hG=>?_;obtain ⟨S2,out,na,nb,mg,Z2⟩:=hC;refine hG ?_;clear hG;clear G;dsimp only;refine wpS_bind (wpS_mono (wpS_forRange (I:=fun y c s3=>s3=s2/\H6 (HX le a b x) c)
      (Q:=fun c s3=>s3=s2/\(Fi (fun r=>Fin le a b r.toList) c\/H6 (HX le a b x) c)) ?is1 ?if1 ⟨rfl,.mk out na nb 0 0 Z2⟩) ?ip1)
    case if1 =>
      rintro c s3 ⟨e3,z⟩;exact ⟨e3,.inr z⟩
    case is1 =>
      rintro y c s3 _ hy hC;refine aG fun G hG=>?_;obtain ⟨e3,out,na,nb,ac,bc,m3,c3,c4,c5,c6,c7⟩:=hC;refine hG ?_;clear hG;clear G;subst e3;dsimp only;refine wpS_bind (zan (by omega) (wpS_bind (zan (by omega) (wpS_bind (q_lt C S2 (P.mb _ (by omega)) (P.ma _ (by omega)) ?_)))));have bb:=P.bf (na - 1) (nb - 1) (by omega) (by omega);cases q:lt (G b (nb - 1)) (G a (na - 1)) with
      | true =>
        dsimp only;rw [if_pos rfl];refine wpS_bind (zan (by omega) ?_);have m4:=m3.pushA' P.sa c3 c5 fun j g=>O.tr (leB j (nb - 1) (by omega) (by omega)) (O.f2 q);by_cases e:na - 1=0
        · rw [if_pos (by simpa using e)]
          exact wpS_pure ⟨rfl,.inl (.mk _ _ (m4.done0 P.sb e))⟩
        · rw [if_neg (by simpa using e)]
          split
          · exact wpS_pure ⟨rfl,.inr (.mk _ _ _ _ _ ⟨m4,by omega,by omega,by omega,by omega,by omega⟩)⟩
          · exact wpS_pure ⟨rfl,.mk _ _ _ _ _ ⟨m4,by omega,by omega,by omega,by omega,by omega⟩⟩
      | false =>
        dsimp only;rw [if_neg (by decide)];refine wpS_bind (zan (by omega) ?_);have m4:=m3.pushB' P.sb (by omega) c6 fun i g=>O.tr (leA i (na - 1) (by omega) (by omega)) ((O.f1 bb).mp q);by_cases e:nb - 1=1
        · rw [if_pos (by simpa using e)]
          exact wpS_pure ⟨rfl,.inl (.mk _ _ (m4.first P.sa P.sb e P.h0))⟩
        · rw [if_neg (by simpa using e)]
          split
          · exact wpS_pure ⟨rfl,.inr (.mk _ _ _ _ _ ⟨m4,by omega,by omega,by omega,by omega,by omega⟩)⟩
          · exact wpS_pure ⟨rfl,.mk _ _ _ _ _ ⟨m4,by omega,by omega,by omega,by omega,by omega⟩⟩
    case ip1 =>
      rintro c s3 ⟨e3,z⟩;subst e3;refine aG fun G hG=>?_;rcases z with ⟨r,g,f⟩ | ⟨out,na,nb,ac,bc,m3,c3,c4,c5,c6,c7⟩
      · refine hG ?_
        clear hG;clear G;exact wpS_pure ⟨S2,.mk _ _ f⟩
      · refine hG ?_
        clear hG;clear G;dsimp only;refine wpS_bind (wpS_lift (wpAny_rule ⟨rfl,?_⟩));refine wpS_bind (wpS_mono (wpS_forRange (I:=fun y c s4=>SG κ a₀ pd xs s4/\H7 (HX le a b (x+y)) c)
          (Q:=fun c s4=>SG κ a₀ pd xs s4/\(Fi (fun r=>Fin le a b r.toList) c\/H7 (HX le a b (x+1)) c)) ?gs ?gf ⟨S2,.mk out na nb _ ac bc ⟨m3,c3,c4,c5,c6,by omega⟩⟩) ?gp)
        case gf =>
          rintro c s4 ⟨S4,out,na,nb,mg,ac,bc,m4,d3,d4,d5,d6,d7⟩;exact ⟨S4,.inr (.mk _ _ _ _ _ _ ⟨m4,d3,d4,d5,d6,by omega⟩)⟩
        case gp =>
          rintro c s4 ⟨S4,z⟩;refine aG fun G hG=>?_;rcases z with ⟨r,g,f⟩ | ⟨out,na,nb,mg,ac,bc,Z4⟩
          · refine hG ?_
            clear hG;clear G;exact wpS_pure ⟨S4,.mk _ _ f⟩
          · refine hG ?_
            clear hG;clear G;dsimp only;exact wpS_bind (zm6 S4 fun s5 S5=>wpS_pure ⟨S5,.mk _ _ _ _ Z4⟩)
        case gs =>
          rintro y c s4 _ hy hC;refine aG fun G hG=>?_;obtain ⟨S4,out,na,nb,mg,ac,bc,m4,d3,d4,d5,d6,d7⟩:=hC;refine hG ?_;clear hG;clear G;simp (config:={ maxSteps:=10000000,failIfUnchanged:=false }) only [];refine zq3 fun Q' hQ=>?_;generalize mg=mg
          revert mg
          refine q_eq (g:=fun mg=>mg - 1) (fun _=>rfl) fun mg=>?_;dsimp (config:={ failIfUnchanged:=false }) only;refine wpS_bind (zm6 S4 fun s5 S5=>wpS_bind (zan (show nb - 1 < b.size by omega) (wpS_bind (znj (left:=false) (key:=G b (nb - 1)) (arr:=a) (base:=0) (n:=na) (hint:=na - 1) (B:=fun i=>!lt (G b (nb - 1)) (G a (0+i))) C S5.i.kind (P.mb _ (by omega)) (by omega) (fun i hi=>P.ma _ (by omega)) (fun i hi=>rfl) (fun i j h1 h2 h3=>?mono1) (by omega) fun k k1 k2 k3=>?_))))
          case mono1 =>
            have h3' : lt (G b (nb - 1)) (G a (0+j))=false:=by simpa using h3
            have l1:=(O.f1 (P.bf (0+j) (nb - 1) (by omega) (by omega))).mp h3';have l2:=(O.f1 (P.bf (0+i) (nb - 1) (by omega) (by omega))).mpr (O.tr (leA _ _ (by omega) (by omega)) l1);show (!lt (G b (nb - 1)) (G a (0+i)))=true;rw [l2];rfl
          have w1:∀i,i < k->le (G a i) (G b (nb - 1)):=fun i g1=>by
            have:=k2 i g1;rw [Nat.zero_add] at this;exact (O.f1 (P.bf i (nb - 1) (by omega) (by omega))).mp (by simpa using this)
          have w2:∀i,k<=i->i < na->le (G b (nb - 1)) (G a i):=fun i g1 g2=>by
            have:=k3 i (by omega) (by omega);rw [Nat.zero_add] at this;exact O.f2 (by simpa using this)
          have m5:=m4.appA' P.sa k1 d5 fun i g1 g2 j g3=>O.tr (leB j (nb - 1) (by omega) (by omega)) (w2 i g1 g2);dsimp (config:={ failIfUnchanged:=false }) only;generalize hac:na - k=ac1 at m5 ⊢;generalize eou:out=out'
          revert out'
          generalize ena:na=na'
          revert na'
          refine zuo (fun na1 out1=>MH le a b out1.toList.reverse na1 nb/\(∀i,i < na1->le (G a i) (G b (nb - 1)))/\(1<=na1/\na1<=a.size)/\x+y+na1+nb<=a.size+b.size) (fun hk0=>?_) (fun hc H=>?_) fun na1 out1 ⟨n5,u1,b8,p6⟩=>?_
          · have k0 : k = na := by omega
            exact ⟨m4,k0 ▸ w1,by omega,by omega⟩
          · refine q_if (fun e1 => ?_) fun e1 => ?_
            · have e1 : k = 0 := by simpa using e1
              exact wpS_pure (hQ _ _ ⟨S5,.inl (.mk _ _ (m5.done0 P.sb e1))⟩)
            have e1:¬ k=0:=by simpa using e1
            exact H _ _ ⟨m5,w1,by omega,by omega⟩
          clear m5 m4 w2 w1 k3 k2 k1 hac;dsimp (config:={ failIfUnchanged:=false }) only;refine wpS_bind (zan (by omega) ?_);have m6:=n5.pushB' P.sb (by omega) d6 u1;refine q_if (fun e3=>?_) fun e3=>?_
          · have e3 : nb - 1 = 1 := by simpa using e3
            exact wpS_pure (hQ _ _ ⟨S5,.inl (.mk _ _ (m6.first P.sa P.sb e3 P.h0))⟩)
          have e3:¬ nb - 1=1:=by simpa using e3
          refine wpS_bind (zan (show na1 - 1 < a.size by omega) (wpS_bind (znj (left:=true) (key:=G a (na1 - 1)) (arr:=b) (base:=0) (n:=nb - 1) (hint:=nb - 1 - 1) (B:=fun j=>lt (G b (0+j)) (G a (na1 - 1))) C S5.i.kind (P.ma _ (by omega)) (by omega) (fun j hj=>P.mb _ (by omega)) (fun j hj=>rfl) (fun i j h1 h2 h3=>?mono2) (by omega) fun l l1 l2 l3=>?_)))
          case mono2 =>
            have n1:=O.f3 (P.bf (na1 - 1) (0+j) (by omega) (by omega)) h3;cases q:lt (G b (0+i)) (G a (na1 - 1)) with
            | true=>rfl
            | false=>exact absurd (O.tr ((O.f1 (P.bf (na1 - 1) (0+i) (by omega) (by omega))).mp q) (leB _ _ (by omega) (by omega))) n1
          have v1:∀j,j < l->le (G b j) (G a (na1 - 1)):=fun j g1=>by
            have:=l2 j g1;rw [Nat.zero_add] at this;exact O.f2 this
          have v2:∀j,l<=j->j < nb - 1->le (G a (na1 - 1)) (G b j):=fun j g1 g2=>by
            have:=l3 j (by omega) (by omega);rw [Nat.zero_add] at this;exact (O.f1 (P.bf (na1 - 1) j (by omega) (by omega))).mp this
          have m7:=m6.appB' P.sb l1 (by omega) fun j g1 g2 i g3=>O.tr (leA i (na1 - 1) (by omega) (by omega)) (v2 j g1 g2);dsimp (config:={ failIfUnchanged:=false }) only;generalize hbc:nb - 1 - l=bc1 at m7 ⊢;generalize hnb:nb - 1=nb1 at hbc m7 m6 ⊢;generalize hout:out1.push (G b nb1)=out2 at m7 m6 ⊢;generalize eou:out2=out'
          revert out'
          generalize ena:nb1=na'
          revert na'
          refine zuo (fun nb2 out2=>MH le a b out2.toList.reverse na1 nb2/\(∀j,j < nb2->le (G b j) (G a (na1 - 1)))/\(2<=nb2/\nb2<=b.size)/\x+y+1+na1+nb2<=a.size+b.size) (fun hl0=>?_) (fun hc H=>?_) fun nb2 out3 ⟨n7,u2,b7,p7⟩=>?_
          · have k0 : l = nb1 := by omega
            exact ⟨m6,k0 ▸ v1,by omega,by omega⟩
          · refine q_if (fun e4 => ?_) fun e4 => ?_
            · have e4 : l = 1 := by simpa using e4
              exact wpS_pure (hQ _ _ ⟨S5,.inl (.mk _ _ (m7.first P.sa P.sb e4 P.h0))⟩)
            have e4:¬ l=1:=by simpa using e4
            refine q_if (fun e6=>?_) fun e6=>?_
            · have e6 : l = 0 := by simpa using e6
              exact wpS_pure (hQ _ _ ⟨S5,.inl (.mk _ _ (m7.done1 P.sa e6))⟩)
            have e6:¬ l=0:=by simpa using e6
            exact H _ _ ⟨m7,v1,by omega,by omega⟩
          dsimp (config:={ failIfUnchanged:=false }) only;refine wpS_bind (zan (by omega) ?_);have m8:=n7.pushA' P.sa b8.1 b8.2 u2;refine q_if (fun e5=>?_) fun e5=>?_
          · have e5 : na1 - 1 = 0 := by simpa using e5
            exact wpS_pure (hQ _ _ ⟨S5,.inl (.mk _ _ (m8.done0 P.sb e5))⟩)
          have e5:¬ na1 - 1=0:=by simpa using e5
          refine q_if (fun _=>?_) fun _=>?_
          · exact wpS_pure (hQ _ _ ⟨S5,.inr (.mk _ _ _ _ _ _ ⟨m8,by omega,by omega,by omega,by omega,by omega⟩)⟩)
          · exact wpS_pure (hQ _ _ ⟨S5,.mk _ _ _ _ _ _ ⟨m8,by omega,by omega,by omega,by omega,by omega⟩⟩)
end
end Tim
end L2
namespace L2
open PySem PyProof.Rows
namespace Tim
noncomputable def wr (xs:Array Keyed) (s0:Nat) (l:List Keyed) (m:Nat):Array Keyed:=(l.zipIdx m).foldl (fun a (x:Keyed × Nat)=>match x with | (p,j)=>a.setIfInBounds (s0+j) p) xs
theorem zo6 (xs:Array Keyed) (s0:Nat) (p:Keyed) (l:List Keyed) (m:Nat):wr xs s0 (p::l) m=wr (xs.setIfInBounds (s0+m) p) s0 l (m+1):=by unfold wr;rw [List.zipIdx_cons,List.foldl_cons]
theorem zrk (s0:Nat):∀(l:List Keyed) (m:Nat) (xs:Array Keyed),(wr xs s0 l m).size=xs.size
 | [],m,xs=>rfl
 | p::l,m,xs=>by rw [zo6,zrk s0 l,Array.size_setIfInBounds]
theorem z4t {xs:Array Keyed}{i k:Nat}{p:Keyed} (h:i < xs.size):G (xs.setIfInBounds i p) k=if i=k then p else G xs k:=by
 unfold G;rw [Array.getElem?_setIfInBounds];split
 ·rename_i e;subst e
  first | rfl | (rw [if_pos h];rfl)
 ·rfl
theorem G_wr (s0:Nat):∀(l:List Keyed) (m:Nat) (xs:Array Keyed),s0+m+l.length<=xs.size->∀i,G (wr xs s0 l m) i=if s0+m<=i/\i < s0+m+l.length then (l[i - (s0+m)]?).getD d0 else G xs i
  | [],m,xs,h,i=>by rw [if_neg (by simp)];rfl
  | p::l,m,xs,h,i=>by
    rw [List.length_cons] at h;rw [zo6,G_wr s0 l (m+1) _ (by rw [Array.size_setIfInBounds];omega),z4t (by omega)];rw [List.length_cons];by_cases c:i=s0+m
    · subst c
      rw [if_neg (by omega),if_pos rfl,if_pos ⟨by omega,by omega⟩,Nat.sub_self]
      rfl
    · by_cases c2 : s0 + m ≤ i /\ i < s0 + m + (l.length + 1)
      · rw [if_pos ⟨by omega,by omega⟩,if_pos c2,show i - (s0+m)=i - (s0+(m+1))+1 by omega,List.getElem?_cons_succ]
      · rw [if_neg (by omega),if_neg (by omega),if_neg c2]
theorem zmi {xs:Array Keyed}{i:Nat} (h:i < xs.size):G xs i=xs[i]:=by unfold G;rw [getElem?_pos xs i h];rfl
theorem zmd {xs:Array Keyed}{i j k:Nat} (hj:j<=xs.size) (hk:i+k < j):G (xs.extract i j) k=G xs (i+k):=by
 have h:k < (xs.extract i j).size:=by rw [Array.size_extract];omega
 rw [zmi h,Array.getElem_extract,zmi (by omega)]
theorem zc3 {xs:Array Keyed}{i j:Nat} (hj:j<=xs.size):(xs.extract i j).size=j - i:=by rw [Array.size_extract];omega
theorem z5f {xs:Array Keyed}{s0 m e:Nat}{r:List Keyed} (h1:s0<=m) (h2:m<=e) (h3:e<=xs.size) (p:r.Perm ((xs.extract s0 m).toList++(xs.extract m e).toList)):Re xs (wr xs s0 r 0) s0 e/\r.length=e - s0:=by
 have hl:r.length=e - s0:=by
  rw [p.length_eq,List.length_append,Array.length_toList,Array.length_toList,zc3 (by omega),zc3 h3];omega
 have hg:=G_wr s0 r 0 xs (by omega);refine ⟨⟨?_,fun i hi=>?_,fun i g1 g2=>?_⟩,hl⟩
 ·have e1:(wr xs s0 r 0).toList=xs.toList.take s0++r++xs.toList.drop e:=by
   apply List.ext_getElem?;intro i;have sz:(wr xs s0 r 0).size=xs.size:=zrk _ _ _ _;by_cases hi:i < xs.size
   ·have a1 : (wr xs s0 r 0).toList[i]? = some (G (wr xs s0 r 0) i) := G_list (by omega);rw [a1,hg i];by_cases c1:i < s0
    ·rw [if_neg (by omega),List.append_assoc,List.getElem?_append_left (by simp;omega),List.getElem?_take_of_lt c1,G_list hi]
    ·by_cases c2 : i < e
     ·rw [if_pos ⟨by omega, by omega⟩, List.append_assoc, List.getElem?_append_right (by simp; omega), List.getElem?_append_left (by simp; omega)];have:(List.take s0 xs.toList).length=s0:=by simp;omega
      rw [this,Nat.add_zero,List.getElem?_eq_getElem (by omega)]
      rfl
     ·rw [if_neg (by omega), List.getElem?_append_right (by simp; omega), List.getElem?_drop];have:(List.take s0 xs.toList++r).length=e:=by simp;omega
      rw [this,show e+(i - e)=i by omega,G_list hi]
   ·rw [List.getElem?_eq_none (by simp;omega),List.getElem?_eq_none (by simp;omega)]
  have e2:xs.toList=xs.toList.take s0++((xs.extract s0 m).toList++(xs.extract m e).toList)++xs.toList.drop e:=by
   rw [zb0,zb0];have t1:(xs.toList.drop s0).take (m - s0)++(xs.toList.drop m).take (e - m)=(xs.toList.drop s0).take (e - s0):=by
    rw [show e - s0=(m - s0)+(e - m) by omega,List.take_add,List.drop_drop,show s0+(m - s0)=m by omega]
   rw [t1,List.append_assoc];have t2:(xs.toList.drop s0).take (e - s0)++xs.toList.drop e=xs.toList.drop s0:=by
    have:=List.take_append_drop (e - s0) (xs.toList.drop s0);rw [List.drop_drop,show s0+(e - s0)=e by omega] at this;exact this
   rw [t2,List.take_append_drop]
  refine Array.perm_iff_toList_perm.mpr ?_;rw [e1];have q:=(p.append_left (xs.toList.take s0)).append_right (xs.toList.drop e);rw [<-e2] at q;exact q
 ·rw [hg i,if_neg (by omega)]
 ·rw [hg i, if_pos ⟨by omega, by omega⟩, List.getElem?_eq_getElem (by omega)];have hm:=p.mem_iff.mp (List.getElem_mem (l:=r) (n:=i - (s0+0)) (by omega));show ∃j,s0<=j/\j < e/\r[i - (s0+0)]=G xs j;rcases List.mem_append.mp hm with z | z
  ·obtain ⟨k, k1, k2, k3⟩ := mem_drop (n := 0) (by rw [List.drop_zero]; exact z);rw [zc3 (by omega)] at k2;exact ⟨s0+k,by omega,by omega,by rw [k3,zmd (by omega) (by omega)]⟩
  ·obtain ⟨k, k1, k2, k3⟩ := mem_drop (n := 0) (by rw [List.drop_zero]; exact z);rw [zc3 h3] at k2;exact ⟨m+k,by omega,by omega,by rw [k3,zmd h3 (by omega)]⟩
section
variable (bf le:Keyed->Keyed->Prop)
noncomputable def Chain (xs:Array Keyed):Nat->List (Nat × Nat × Nat)->Nat->Prop
 | c,[],hi=>c=hi
 | c,(s0,n,_)::r,hi=>s0=c/\1<=n/\Srt le xs c (c+n)/\Cut bf xs c/\Chain xs (c+n) r hi
end
section
variable {bf le:Keyed->Keyed->Prop}{xs ys:Array Keyed}
theorem Chain.len:∀{l:List (Nat × Nat × Nat)}{c hi:Nat},Chain bf le xs c l hi->c+l.length<=hi
  | [],c,hi,h=>by cases h;simp
  | (s0,n,_)::r,c,hi,h=>by
    have:=Chain.len h.2.2.2.2;have:=h.2.1;rw [List.length_cons];omega
theorem Chain.app:∀{l l' : List (Nat × Nat × Nat)}{c hi:Nat},Chain bf le xs c (l++l') hi↔∃m,Chain bf le xs c l m/\Chain bf le xs m l' hi
 | [],l',c,hi=>⟨fun h=>⟨c,rfl,h⟩,fun ⟨m,e,h⟩=>by cases e;exact h⟩
 | (s0,n,_)::r,l',c,hi=>⟨fun ⟨a1,a2,a3,a4,a5⟩=>by
   obtain ⟨m,b1,b2⟩:=Chain.app.mp a5;exact ⟨m,⟨a1,a2,a3,a4,b1⟩,b2⟩,fun ⟨m,⟨a1,a2,a3,a4,b1⟩,b2⟩=>⟨a1,a2,a3,a4,Chain.app.mpr ⟨m,b1,b2⟩⟩⟩
theorem Chain.re:∀{l:List (Nat × Nat × Nat)}{c hi lo' hi' : Nat},Chain bf le xs c l hi->Re xs ys lo' hi'->hi'<=xs.size->(hi<=lo'\/hi'<=c)->Chain bf le ys c l hi
  | [],c,hi,lo',hi',h,_,_,_=>h
  | (s0,n,q)::r,c,hi,lo',hi',⟨a1,a2,a3,a4,a5⟩,R,hz,hc=>by
    have:=Chain.len a5;exact ⟨a1,a2,a3.re R (by omega),a4.re R hz (by omega),Chain.re a5 R hz (by omega)⟩
end
section
variable {prog:Program}{w:World}{A:Around}{E:Value->Shared->Prop}{s:Shared}{κ:SortKind}{a₀:Array Keyed}{lt:Keyed->Keyed->Bool}{bf le:Keyed->Keyed->Prop}{st:SortSt}{pd:Array (Nat × Nat × Nat)}
theorem z4a {st' : SortSt}{Q:PUnit->SortSt->Prop} (h:Q ⟨⟩ st'):wpS (model prog w) A E s (set st' : StateT SortSt Sem PUnit) Q st:=by
 unfold wpS;rw [StateT.run_set];exact wpAny_pure ⟨rfl,h⟩
theorem z1j {st' : SortSt}{P:SortSt->Prop}{Q:PUnit->SortSt->Prop} (hp:P st') (h:∀st1,P st1->Q ⟨⟩ st1):wpS (model prog w) A E s (set st' : StateT SortSt Sem PUnit) Q st:=z4a (h _ hp)
theorem z1y {l:List (Nat × Nat × Nat)}{i:Nat} (h:i+1 < l.length):l=l.take i++l[i]::l[i+1]::l.drop (i+2):=by
 have e1:=List.drop_eq_getElem_cons (l:=l) (i:=i) (by omega);have e2:=List.drop_eq_getElem_cons (l:=l) (i:=i+1) (by omega);have:=List.take_append_drop i l;rw [e1,e2] at this;exact this.symm
theorem zi9 (C:Asks prog w A E s κ a₀ lt) (O:Ord lt bf le) {i lo:Nat}{Q:Bool->SortSt->Prop} (I:SI κ a₀ pd st) (hi:i+1 < pd.size) (ch:Chain bf le (arrOf st) 0 pd.toList lo) (hlo:lo<=a₀.size)
  (h:∀st' pd',SI κ a₀ pd' st'->pd'.size+1=pd.size->Chain bf le (arrOf st') 0 pd'.toList lo->Re (arrOf st) (arrOf st') 0 lo->Q true st'):wpS (model prog w) A E s (mergeAt' i) Q st:=by
 have sz:=I.size;have hil:i+1 < pd.toList.length:=by simpa using hi
 have es:=z1y hil;obtain ⟨⟨sa,na,pw⟩,ea⟩ : ∃t,pd.toList[i]=t:=⟨_,rfl⟩;obtain ⟨⟨sb,nb,pw'⟩,eb⟩ : ∃t,pd.toList[i+1]=t:=⟨_,rfl⟩;rw [ea,eb] at es;have ch0:=ch;rw [es] at ch;obtain ⟨m,c1,⟨e1,a2,a3,a4,⟨e2,b2,b3,b4,c2⟩⟩⟩:=Chain.app.mp ch;subst e1;subst e2;have l2:=Chain.len c2;have l1:=Chain.len c1;have np:∃pd' : Array (Nat × Nat × Nat),pd'=(pd.setIfInBounds i (sa,na+nb,pw)).eraseIdxIfInBounds (i+1)/\pd'.size+1=pd.size/\pd'.toList=pd.toList.take i++(sa,na+nb,pw)::pd.toList.drop (i+2):=by
  refine (fun (q:((pd.setIfInBounds i (sa,na+nb,pw)).eraseIdxIfInBounds (i+1)).toList=_)=>⟨_,rfl,by
   have q2:=congrArg List.length q;rw [Array.length_toList,List.length_append,List.length_cons,List.length_take,List.length_drop,Array.length_toList] at q2;omega,q⟩) ?_
  ·rw [Array.toList_eraseIdxIfInBounds, Array.toList_setIfInBounds];have:(pd.toList.set i (sa,na+nb,pw))=pd.toList.take i++(sa,na+nb,pw)::(sa+na,nb,pw')::pd.toList.drop (i+2):=by
    rw [List.set_eq_take_append_cons_drop,if_pos (by omega),List.drop_eq_getElem_cons hil,eb]
   rw [this];have l3:(pd.toList.take i).length=i:=by rw [List.length_take];omega
   rw [List.eraseIdx_append_of_length_le (by omega),l3,show i+1 - i=1 by omega]
   rfl
 obtain ⟨pd',epd,zpd,lpd⟩:=np;have fin:∀st',kindOf st'=κ->failedOf st'=none->pendingOf st'=pd'->Re (arrOf st) (arrOf st') sa (sa+na+nb)->Srt le (arrOf st') sa (sa+na+nb)->Q true st':=fun st' k1 k2 k3 R S=>by
  refine h st' pd' ⟨k1,k2,R.perm.trans I.perm,k3⟩ zpd ?_ (R.mono (by omega) (by omega));rw [lpd];refine Chain.app.mpr ⟨sa,c1.re R (by omega) (.inl (Nat.le_refl _)),rfl,by omega,?_,a4.re R (by omega) (.inl (Nat.le_refl _)),?_⟩
  ·rw [<-Nat.add_assoc];exact S
  ·rw [<-Nat.add_assoc];exact c2.re R (by omega) (.inr (Nat.le_refl _))
 have leX:∀i j,sa<=i->i<=j->j < sa+na->le (G (arrOf st) i) (G (arrOf st) j):=fun i j h1 h2 h3=>by
  by_cases e:i=j
  ·rw [e];exact O.rf _
  ·exact a3 i j h1 (by omega) h3
 have leY:∀i j,sa+na<=i->i<=j->j < sa+na+nb->le (G (arrOf st) i) (G (arrOf st) j):=fun i j h1 h2 h3=>by
  by_cases e:i=j
  ·rw [e];exact O.rf _
  ·exact b3 i j h1 (by omega) h3
 have bfs:∀i j,i < sa+na->sa+na<=j->j < sa+na+nb->bf (G (arrOf st) i) (G (arrOf st) j):=fun i j h1 h2 h3=>b4 i j h1 h2 (by omega);have mem:∀i,i < a₀.size->G (arrOf st) i∈a₀.toList:=fun i hi=>zyw I.perm (by omega);show wpS (model prog w) A E s (get >>= _) Q st;refine wpS_bind (wpS_get ?_);have g1:(pendingOf st)[i]?=some (sa,na,pw):=by
  rw [I.pend,<-Array.getElem?_toList,List.getElem?_eq_getElem (by omega),ea]
 have g2:(pendingOf st)[i+1]?=some (sa+na,nb,pw'):=by
  rw [I.pend,<-Array.getElem?_toList,List.getElem?_eq_getElem hil,eb]
 dsimp only;rw [g1,g2];refine wpS_bind (z1j (P:=SG κ a₀ pd' (arrOf st)) ⟨⟨I.kind,I.failed,I.perm,by have q:=I.pend;subst epd;subst q;rfl⟩,rfl⟩ fun st1 S1=>?_);refine wpS_bind (zan (show sa+na < (arrOf st).size by omega) (wpS_bind (znj (left:=false) (key:=G (arrOf st) (sa+na)) (arr:=arrOf st) (base:=sa) (n:=na) (hint:=0) (B:=fun i=>!lt (G (arrOf st) (sa+na)) (G (arrOf st) (sa+i))) C S1.i.kind (mem _ (by omega)) (by omega) (fun i hi=>mem _ (by omega)) (fun i hi=>rfl) (fun i j h1 h2 h3=>?mono1) (by omega) fun k k1 k2 k3=>?_)))
 case mono1 =>
  have h3' : lt (G (arrOf st) (sa+na)) (G (arrOf st) (sa+j))=false:=by simpa using h3
  have z1:=(O.f1 (bfs (sa+j) (sa+na) (by omega) (by omega) (by omega))).mp h3';have z2:=(O.f1 (bfs (sa+i) (sa+na) (by omega) (by omega) (by omega))).mpr (O.tr (leX _ _ (by omega) (by omega) (by omega)) z1);show (!lt (G (arrOf st) (sa+na)) (G (arrOf st) (sa+i)))=true;rw [z2];rfl
 have w1:∀i,sa<=i->i < sa+k->le (G (arrOf st) i) (G (arrOf st) (sa+na)):=fun i g1 g2=>by
  have:=k2 (i - sa) (by omega);rw [show sa+(i - sa)=i by omega] at this;exact (O.f1 (bfs i (sa+na) (by omega) (by omega) (by omega))).mp (by simpa using this)
 have w2:∀i,sa+k<=i->i < sa+na->le (G (arrOf st) (sa+na)) (G (arrOf st) i):=fun i g1 g2=>by
  have:=k3 (i - sa) (by omega) (by omega);rw [show sa+(i - sa)=i by omega] at this;exact O.f2 (by simpa using this)
 refine q_if (fun q1=>?_) fun q1=>?_
 ·have q1 : na - k = 0 := by simpa using q1
  refine wpS_pure (fin _ S1.i.kind S1.i.failed S1.i.pend (by rw [S1.e];exact .refl _ _ _) ?_);rw [S1.e];intro i j h1 h2 h3;by_cases c1:j < sa+na
  ·exact a3 i j h1 h2 c1
  ·by_cases c2 : i < sa + na
   ·exact O.tr (w1 i h1 (by omega)) (leY _ _ (Nat.le_refl _) (by omega) h3)
   ·exact b3 i j (by omega) h2 h3
 have q1:¬ na - k=0:=by simpa using q1
 have e3:sa+k+(na - k) - 1=sa+na - 1:=by omega
 refine wpS_bind (zan (show sa+k+(na - k) - 1 < (arrOf st).size by omega) (wpS_bind (znj (left:=true) (key:=G (arrOf st) (sa+k+(na - k) - 1)) (arr:=arrOf st) (base:=sa+na) (n:=nb) (hint:=nb - 1) (B:=fun i=>lt (G (arrOf st) (sa+na+i)) (G (arrOf st) (sa+k+(na - k) - 1))) C S1.i.kind (mem _ (by omega)) (by omega) (fun i hi=>mem _ (by omega)) (fun i hi=>rfl) (fun i j h1 h2 h3=>?mono2) (by omega) fun l l1 l2 l3=>?_)))
 case mono2 =>
  have n1:=O.f3 (bfs (sa+k+(na - k) - 1) (sa+na+j) (by omega) (by omega) (by omega)) h3;cases q:lt (G (arrOf st) (sa+na+i)) (G (arrOf st) (sa+k+(na - k) - 1)) with
  | true=>rfl
  | false=>exact absurd (O.tr ((O.f1 (bfs _ (sa+na+i) (by omega) (by omega) (by omega))).mp q) (leY _ _ (by omega) (by omega) (by omega))) n1
 rw [e3] at l2 l3;have v1:∀j,sa+na<=j->j < sa+na+l->le (G (arrOf st) j) (G (arrOf st) (sa+na - 1)):=fun j g1 g2=>by
  have:=l2 (j - (sa+na)) (by omega);rw [show sa+na+(j - (sa+na))=j by omega] at this;exact O.f2 this
 have v2:∀j,sa+na+l<=j->j < sa+na+nb->le (G (arrOf st) (sa+na - 1)) (G (arrOf st) j):=fun j g1 g2=>by
  have:=l3 (j - (sa+na)) (by omega) (by omega);rw [show sa+na+(j - (sa+na))=j by omega] at this;exact (O.f1 (bfs _ j (by omega) (by omega) g2)).mp this
 refine q_if (fun q2=>?_) fun q2=>?_
 ·have q2 : l = 0 := by simpa using q2
  refine wpS_pure (fin _ S1.i.kind S1.i.failed S1.i.pend (by rw [S1.e];exact .refl _ _ _) ?_);rw [S1.e];intro i j h1 h2 h3;by_cases c1:j < sa+na
  ·exact a3 i j h1 h2 c1
  ·by_cases c2 : i < sa + na
   ·exact O.tr (leX i (sa+na - 1) h1 (by omega) (by omega)) (v2 j (by omega) h3)
   ·exact b3 i j (by omega) h2 h3
 have q2:¬ l=0:=by simpa using q2
 have sx:((arrOf st).extract (sa+k) (sa+na)).size=na - k:=by rw [zc3 (by omega)];omega
 have sy:((arrOf st).extract (sa+na) (sa+na+l)).size=l:=by rw [zc3 (by omega)];omega
 have gx:∀i,i < na - k->G ((arrOf st).extract (sa+k) (sa+na)) i=G (arrOf st) (sa+k+i):=fun i hi=>zmd (by omega) (by omega);have gy:∀i,i < l->G ((arrOf st).extract (sa+na) (sa+na+l)) i=G (arrOf st) (sa+na+i):=fun i hi=>zmd (by omega) (by omega);have P:MP lt bf le a₀ ((arrOf st).extract (sa+k) (sa+na)) ((arrOf st).extract (sa+na) (sa+na+l)):=by
  refine ⟨?_,?_,?_,?_,?_,?_,?_,?_,?_⟩
  ·intro i j h1 h2 h3;rw [sx] at h3;rw [gx i (by omega),gx j h3];exact a3 _ _ (by omega) (by omega) (by omega)
  ·intro i j h1 h2 h3;rw [sy] at h3;rw [gy i (by omega),gy j h3];exact b3 _ _ (by omega) (by omega) (by omega)
  ·intro i hi;rw [sx] at hi;rw [gx i hi];exact mem _ (by omega)
  ·intro i hi;rw [sy] at hi;rw [gy i hi];exact mem _ (by omega)
  ·intro i j hi hj;rw [sx] at hi;rw [sy] at hj;rw [gx i hi,gy j hj];exact bfs _ _ (by omega) (by omega) (by omega)
  ·rw [sx];omega
  ·rw [sy];omega
  ·intro i hi;rw [sx] at hi;rw [gx i hi,gy 0 (by omega)];exact w2 _ (by omega) (by omega)
  ·intro j hj;rw [sy] at hj;rw [gy j hj,sx,gx _ (by omega),show sa+k+(na - k - 1)=sa+na - 1 by omega];exact v1 _ (by omega) (by omega)
 have close:∀(r:Array Keyed) (st2:SortSt),SG κ a₀ pd' (arrOf st) st2->Fin le ((arrOf st).extract (sa+k) (sa+na)) ((arrOf st).extract (sa+na) (sa+na+l)) r.toList ->
   Q true (setArr st2 (wr (arrOf st2) (sa+k) r.toList 0)):=fun r st2 S2 F=>by
  obtain ⟨R,hl⟩:=z5f (xs:=arrOf st) (s0:=sa+k) (m:=sa+na) (e:=sa+na+l) (by omega) (by omega) (by omega) F.p;have hg:=G_wr (sa+k) r.toList 0 (arrOf st) (by omega);refine fin _ S2.i.kind S2.i.failed S2.i.pend ?_ ?_
  ·show Re (arrOf st) (wr (arrOf st2) (sa + k) r.toList 0) sa (sa + na + nb);rw [S2.e];exact R.mono (by omega) (by omega)
  ·show Srt le (wr (arrOf st2) (sa + k) r.toList 0) sa (sa + na + nb);rw [S2.e];have inm:∀i,sa+k<=i->i < sa+na+l->(∃j,sa+k<=j/\j < sa+na+l/\G (wr (arrOf st) (sa+k) r.toList 0) i=G (arrOf st) j):=fun i h1 h2=>R.inn i h1 h2;intro i j h1 h2 h3;by_cases ci:i < sa+k
   ·rw [R.out i (.inl ci)];by_cases cj:j < sa+k
    ·rw [R.out j (.inl cj)];exact a3 i j h1 h2 (by omega)
    ·have below:∀z,sa+k<=z->z < sa+na+nb->le (G (arrOf st) i) (G (arrOf st) z):=fun z z1 z2=>by
      by_cases c:z < sa+na
      ·exact leX i z h1 (by omega) c
      ·exact O.tr (w1 i h1 ci) (leY _ _ (Nat.le_refl _) (by omega) z2)
     by_cases cj2:j < sa+na+l
     ·obtain ⟨z, z1, z2, z3⟩ := inm j (by omega) cj2;rw [z3];exact below z z1 (by omega)
     ·rw [R.out j (.inr (by omega))];exact below j (by omega) h3
   ·by_cases ci2 : i < sa + na + l
    ·by_cases cj2 : j < sa + na + l
     ·rw [hg i, hg j, if_pos ⟨by omega, by omega⟩, if_pos ⟨by omega, by omega⟩, List.getElem?_eq_getElem (by omega), List.getElem?_eq_getElem (by omega)];exact (List.pairwise_iff_getElem.mp F.s) _ _ _ _ (by omega)
     ·rw [R.out j (.inr (by omega))];obtain ⟨z,z1,z2,z3⟩:=inm i (by omega) ci2;rw [z3];by_cases c:z < sa+na
      ·exact O.tr (leX z (sa+na - 1) (by omega) (by omega) (by omega)) (v2 j (by omega) h3)
      ·exact leY z j (by omega) (by omega) h3
    ·rw [R.out i (.inr (by omega)), R.out j (.inr (by omega))];exact b3 i j (by omega) h2 h3
 have en:∀(r:Array Keyed) (st2:SortSt),SG κ a₀ pd' (arrOf st) st2->Fin le ((arrOf st).extract (sa+k) (sa+na)) ((arrOf st).extract (sa+na) (sa+na+l)) r.toList ->
   Q ((failedOf (setArr st2 (wr (arrOf st2) (sa+k) r.toList 0))).isNone) (setArr st2 (wr (arrOf st2) (sa+k) r.toList 0)):=fun r st2 S2 F=>by
  have e:failedOf (setArr st2 (wr (arrOf st2) (sa+k) r.toList 0))=none:=S2.i.failed;rw [e];exact close r st2 S2 F
 refine q_if (fun _=>?_) fun _=>?_
 ·exact wpS_bind (z44 C O S1 P fun r st2 S2 F=>wpS_bind (wpS_modify (wpS_bind (wpS_get (wpS_pure (en r st2 S2 F))))))
 ·exact wpS_bind (z4w C O S1 P fun r st2 S2 F=>wpS_bind (wpS_modify (wpS_bind (wpS_get (wpS_pure (en r st2 S2 F))))))
end
end Tim
end L2
namespace L2
open PySem PyProof.Rows
namespace Tim
section
variable {prog:Program}{w:World}{A:Around}{E:Value->Shared->Prop}{s:Shared}{κ:SortKind}{a₀:Array Keyed}{lt:Keyed->Keyed->Bool}{bf le:Keyed->Keyed->Prop}{st:SortSt}{pd:Array (Nat × Nat × Nat)}
structure SP (κ:SortKind) (bf le:Keyed->Keyed->Prop) (a₀:Array Keyed) (lo:Nat) (st:SortSt):Prop where
 kind:kindOf st=κ
 failed:failedOf st=none
 perm:(arrOf st).Perm a₀
 ch:Chain bf le (arrOf st) 0 (pendingOf st).toList lo
 cut:∀c,lo<=c->Cut bf (arrOf st) c
theorem SP.si {lo:Nat} (h:SP κ bf le a₀ lo st):SI κ a₀ (pendingOf st) st:=⟨h.kind,h.failed,h.perm,rfl⟩
theorem zh5:∀{l:List (Nat × Nat × Nat)}{i c hi pw:Nat}{xs:Array Keyed},Chain bf le xs c l hi->Chain bf le xs c (l.modify i fun x=>match x with | (a,b,_)=>(a,b,pw)) hi
 | [],i,c,hi,pw,xs,h=>by cases i<;>exact h
 | (s0,n,q)::r,0,c,hi,pw,xs,h=>h
 | (s0,n,q)::r,i+1,c,hi,pw,xs,⟨a1,a2,a3,a4,a5⟩=>⟨a1,a2,a3,a4,zh5 a5⟩
theorem zsa {f:SortSt->SortSt}{P:SortSt->Prop}{Q:PUnit->SortSt->Prop} (hp:P (f st)) (h:∀st1,P st1->Q ⟨⟩ st1):wpS (model prog w) A E s (modify f:StateT SortSt Sem PUnit) Q st:=wpS_modify (h _ hp)
theorem q_sort (C:Asks prog w A E s κ a₀ lt) (O:Ord lt bf le) {Q:Unit->SortSt->Prop} (I:SI κ a₀ #[] st) (ea:arrOf st=a₀) (hb:∀c,Cut bf a₀ c)
    (h:∀st',failedOf st'=none->(arrOf st').Perm a₀->Srt le (arrOf st') 0 a₀.size->Q () st'):wpS (model prog w) A E s sortRuns' Q st:=by
  rw [sortRuns'_eq];refine wpS_bind (wpS_get ?_);have sz:=I.size;rw [sz];dsimp only;have P0:SP κ bf le a₀ 0 st:=⟨I.kind,I.failed,I.perm,by rw [I.pend];rfl,fun c _=>by rw [ea];exact hb c⟩;refine wpS_bind (wpS_mono (wpS_forRange (I:=fun x c s2=>∃lo,c=(none,lo)/\x<=lo/\lo<=a₀.size/\SP κ bf le a₀ lo s2)
    (Q:=fun c s2=>c=(none,a₀.size)/\SP κ bf le a₀ a₀.size s2) ?os ?of ⟨0,rfl,by omega,by omega,P0⟩) ?op)
  case of =>
    rintro c s2 ⟨lo,rfl,h1,h2,P⟩;have e:lo=a₀.size:=by omega
    subst e;exact ⟨rfl,P⟩
  case os =>
    rintro x c s2 _ hx ⟨lo,rfl,h1,h2,P⟩;refine q_if (fun g=>?_) fun g=>?_
    · have e : lo = a₀.size := by omega
      subst e;exact wpS_pure ⟨rfl,P⟩
    have g:lo < a₀.size:=by omega
    refine wpS_bind (zzn C O P.si (show lo+(a₀.size - lo)<=a₀.size by omega) (by omega) P.cut fun n s3 I3 n1 n2 R3 S3=>?_);have z3:=I3.size;have z2:=P.si.size;have c3:∀c,lo+n<=c->Cut bf (arrOf s3) c:=fun c hc=>(P.cut c (by omega)).re R3 (by omega) (.inr hc);dsimp only;refine q_if (fun g2=>?_) fun g2=>?_;refine wpS_bind (wpS_lift (wpAny_rule ⟨rfl,?_⟩));refine wpS_bind (z5d C O I3 (show lo+min (a₀.size - lo) (minRun' a₀.size a₀.size 0)<=a₀.size by omega) (by omega) n1 S3 c3 fun s4 I4 R4 S4=>?_);refine q_if (fun z=>by simp at z) fun _=>?_;have hm:1<=min (a₀.size - lo) (minRun' a₀.size a₀.size 0):=by omega
    have hM:lo+min (a₀.size - lo) (minRun' a₀.size a₀.size 0)<=a₀.size:=by omega
    have R5:Re (arrOf s2) (arrOf s4) lo (lo+min (a₀.size - lo) (minRun' a₀.size a₀.size 0)):=(R3.mono (Nat.le_refl _) (by omega)).trans R4;generalize min (a₀.size - lo) (minRun' a₀.size a₀.size 0)=m at I4 R4 S4 hm hM R5 ⊢;clear I3 R3 S3 z3 c3 R4 g2
    rotate_left
    have hm:=n1;have hM:lo+n<=a₀.size:=by omega
    have R5:=R3;have I4:=I3;have S4:=S3;clear I3 R3 S3 z3 c3 g2;generalize n=m at I4 S4 hm hM R5 ⊢;generalize s3=s4 at I4 S4 R5 ⊢
    rotate_left
    all_goals
      have z4:=I4.size;have c4:∀c,lo+m<=c->Cut bf (arrOf s4) c:=fun c hc=>(P.cut c (by omega)).re R5 (by omega) (.inr hc);have k4:Cut bf (arrOf s4) lo:=(P.cut lo (Nat.le_refl _)).re R5 (by omega) (.inl (Nat.le_refl _));have ch4:Chain bf le (arrOf s4) 0 (pendingOf s4).toList lo:=by
        rw [I4.pend];exact P.ch.re R5 (by omega) (.inl (Nat.le_refl _))
      have K4:kindOf s4=κ/\failedOf s4=none/\(arrOf s4).Perm a₀:=⟨I4.kind,I4.failed,I4.perm⟩;clear I4 R5;refine wpS_bind (wpS_get ?_);have push:∀s5,kindOf s5=κ->failedOf s5=none->(arrOf s5).Perm a₀->Chain bf le (arrOf s5) 0 (pendingOf s5).toList lo->Srt le (arrOf s5) lo (lo+m)->Cut bf (arrOf s5) lo->(∀c,lo+m<=c->Cut bf (arrOf s5) c) ->
          SP κ bf le a₀ (lo+m) (setPending s5 ((pendingOf s5).push (lo,m,0))):=fun s5 a1 a2 a3 a4 a5 a6 a7=>by
        refine ⟨a1,a2,a3,?_,a7⟩;show Chain bf le (arrOf s5) 0 ((pendingOf s5).push (lo,m,0)).toList (lo+m);rw [Array.toList_push];exact Chain.app.mpr ⟨lo,a4,rfl,hm,a5,a6,rfl⟩
      cases q:(pendingOf s4).back? with
      | none =>
        exact wpS_bind (zsa (P:=SP κ bf le a₀ (lo+m)) (push s4 K4.1 K4.2.1 K4.2.2 ch4 S4 k4 c4) fun s6 P6=>wpS_pure ⟨lo+m,rfl,by omega,hM,P6⟩)
      | some t =>
        obtain ⟨s1,n1',p1⟩:=t;dsimp only;refine wpS_bind (wpS_mono (wpS_forRange (I:=fun y c s5=>c=(none,())/\(kindOf s5=κ/\failedOf s5=none/\(arrOf s5).Perm a₀)/\Chain bf le (arrOf s5) 0 (pendingOf s5).toList lo/\Srt le (arrOf s5) lo (lo+m)/\Cut bf (arrOf s5) lo/\∀c,lo+m<=c->Cut bf (arrOf s5) c)
          (Q:=fun c s5=>c=(none,())/\(kindOf s5=κ/\failedOf s5=none/\(arrOf s5).Perm a₀)/\Chain bf le (arrOf s5) 0 (pendingOf s5).toList lo/\Srt le (arrOf s5) lo (lo+m)/\Cut bf (arrOf s5) lo/\∀c,lo+m<=c->Cut bf (arrOf s5) c) ?ms ?mf ⟨rfl,K4,ch4,S4,k4,c4⟩) ?mp)
        case mf =>
          intro c s5 z;exact z
        case mp =>
          rintro c s5 ⟨rfl,K5,ch5,S5,k5,c5⟩;dsimp only;refine wpS_bind (zsa (P:=fun s6=>(kindOf s6=κ/\failedOf s6=none/\(arrOf s6).Perm a₀)/\Chain bf le (arrOf s6) 0 (pendingOf s6).toList lo/\Srt le (arrOf s6) lo (lo+m)/\Cut bf (arrOf s6) lo/\∀c,lo+m<=c->Cut bf (arrOf s6) c) ⟨K5,?_,S5,k5,c5⟩ fun s6 z6=>?_)
          · show Chain bf le (arrOf s5) 0 ((pendingOf s5).modify _ _).toList lo
            rw [Array.toList_modify];exact zh5 ch5
          · refine aG fun Gg qG => ?_
            obtain ⟨K6,ch6,S6,k6,c6⟩:=z6;refine qG ?_;clear qG;exact wpS_bind (zsa (P:=SP κ bf le a₀ (lo+m)) (push s6 K6.1 K6.2.1 K6.2.2 ch6 S6 k6 c6) fun s7 P7=>wpS_pure ⟨lo+m,rfl,by omega,hM,P7⟩)
        case ms =>
          rintro y c s5 _ hy ⟨rfl,K5,ch5,S5,k5,c5⟩;refine wpS_bind (wpS_get ?_)
          try dsimp only
          by_cases g4:(pendingOf s5).size > 1
          · rw [if_pos g4]
            obtain ⟨⟨t1,t2,t3⟩,et⟩ : ∃t,(pendingOf s5)[(pendingOf s5).size - 2]?=some t:=⟨_,getElem?_pos _ _ (by omega)⟩;rw [et];dsimp only;refine q_if (fun _=>wpS_pure ⟨rfl,K5,ch5,S5,k5,c5⟩) fun _=>?_;refine wpS_bind (zi9 C O (i:=(pendingOf s5).size - 2) (lo:=lo) ⟨K5.1,K5.2.1,K5.2.2,rfl⟩ (by omega) ch5 h2 fun s6 pd6 I6 z6 ch6 R6=>?_);have zz:=K5.2.2.size_eq;refine q_if (fun z=>by simp at z) fun _=>?_;refine wpS_pure ⟨rfl,⟨I6.kind,I6.failed,I6.perm⟩,by rw [I6.pend];exact ch6,S5.re R6 (.inr (Nat.le_refl _)),k5.re R6 (by omega) (.inr (Nat.le_refl _)),fun c hc=>(c5 c hc).re R6 (by omega) (.inr (by omega))⟩
          · rw [if_neg g4]
            exact wpS_pure ⟨rfl,K5,ch5,S5,k5,c5⟩
  case op =>
    rintro c s2 ⟨rfl,P⟩;have l0:=Chain.len P.ch;rw [Array.length_toList] at l0;have one:∀s3,SP κ bf le a₀ a₀.size s3->(pendingOf s3).size<=1->Srt le (arrOf s3) 0 a₀.size:=fun s3 P3 h1=>by
      have hc:=P3.ch;have e1:(pendingOf s3).toList.length<=1:=by simpa using h1
      revert hc e1
      generalize (pendingOf s3).toList=l;intro hc e1
      match l,hc,e1 with
      | [],hc,_ =>
        have:0=a₀.size:=hc;intro i j g1 g2 g3;omega
      | [(s0,n,q)],⟨b1,b2,b3,b4,b5⟩,_ =>
        have:0+n=a₀.size:=b5;rw [<-this];exact b3
      | _::_::_,_,e1=>simp at e1
    refine wpS_bind (wpS_mono (wpS_forRange (I:=fun y c s3=>c=(none,())/\SP κ bf le a₀ a₀.size s3/\((pendingOf s3).size<=1\/(pendingOf s3).size+y<=a₀.size)) (Q:=fun c s3=>c=(none,())/\SP κ bf le a₀ a₀.size s3/\(pendingOf s3).size<=1) ?fs ?ff ⟨rfl,P,.inr (by omega)⟩) ?fp)
    case ff =>
      rintro c s3 ⟨hc,P3,z⟩;exact ⟨hc,P3,by omega⟩
    case fp =>
      rintro c s3 ⟨rfl,P3,z⟩;exact wpS_pure (h s3 P3.failed P3.perm (one s3 P3 z))
    case fs =>
      rintro y c s3 _ hy ⟨rfl,P3,z⟩;refine wpS_bind (wpS_get ?_);refine q_if (fun g=>wpS_pure ⟨rfl,P3,g⟩) fun g=>?_;have zz:=P3.perm.size_eq;have go:∀i,i+1 < (pendingOf s3).size->wpS (model prog w) A E s (mergeAt' i) (fun b s4=>b=true/\SP κ bf le a₀ a₀.size s4/\((pendingOf s4).size<=1\/(pendingOf s4).size+(y+1)<=a₀.size)) s3:=fun i hi =>
        zi9 C O (lo:=a₀.size) P3.si hi P3.ch (Nat.le_refl _) fun s4 pd4 I4 z4 ch4 R4=>⟨rfl,⟨I4.kind,I4.failed,I4.perm,by rw [I4.pend];exact ch4,fun c hc=>(P3.cut c hc).re R4 (by omega) (.inr hc)⟩,by rw [I4.pend];omega⟩
      refine wpS_bind (wpS_mono (go _ (by
        have g' : ¬ (pendingOf s3).size<=1:=g;generalize (if (pendingOf s3).size - 2 > 0 then Option.map (fun x=>x.snd.fst) (pendingOf s3)[(pendingOf s3).size - 2 - 1]? else none)=bf9
        try dsimp only
        split<;>omega)) fun b s4 z4=>?_)
      obtain ⟨rfl,P4,z5⟩:=z4;refine q_if (fun z=>by simp at z) fun _=>?_;exact wpS_pure ⟨rfl,P4,z5⟩
end
end Tim
end L2
namespace L2
open PySem PySem.Spec PyProof.Rows
open PySem.AutoSeq1 (wpAny_loadPart')
open PySem.SeqAt
noncomputable def lexI:List Int->List Int->Bool
 | [],[]=>false
 | [],_::_=>true
 | _::_,[]=>false
 | a::as,b::bs=>if a=b then lexI as bs else decide (a < b)
theorem zcg:∀xs,lexI xs xs=false
 | []=>rfl
 | a::as=>by unfold lexI;rw [if_pos rfl];exact zcg as
theorem zdz:∀{xs ys zs:List Int},lexI xs ys=true->lexI ys zs=true->lexI xs zs=true
  | [],[],_,h,_=>by cases h
  | [],_::_,[],_,h=>by cases h
  | [],_::_,_::_,_,_=>rfl
  | _::_,[],_,h,_=>by cases h
  | _::_,_::_,[],_,h=>by cases h
  | a::as,b::bs,c::cs,h1,h2=>by
    unfold lexI at h1 h2 ⊢;by_cases e1:a=b
    · subst e1
      rw [if_pos rfl] at h1;by_cases e2:a=c
      · rw [if_pos e2] at h2 ⊢;exact zdz h1 h2
      · rw [if_neg e2] at h2 ⊢;exact h2
    · rw [if_neg e1] at h1
      have l1:=of_decide_eq_true h1;by_cases e2:b=c
      · subst e2;rw [if_neg e1];exact h1
      · rw [if_neg e2] at h2
        have l2:=of_decide_eq_true h2;rw [if_neg (by omega)];exact decide_eq_true (by omega)
theorem zho:∀{xs ys:List Int},lexI xs ys=false->lexI ys xs=false->xs=ys
  | [],[],_,_=>rfl
  | [],_::_,h,_=>by cases h
  | _::_,[],_,h=>by cases h
  | a::as,b::bs,h1,h2=>by
    unfold lexI at h1 h2;by_cases e:a=b
    · subst e
      rw [if_pos rfl] at h1 h2;rw [zho h1 h2]
    · rw [if_neg e] at h1
      rw [if_neg (fun z=>e z.symm)] at h2;have:=of_decide_eq_false h1;have:=of_decide_eq_false h2;omega
theorem znf (l b:Addr) (items items2:Array Value) (n n2:Nat) (dd dd2:Option Addr) (sl sl2:Array (Option Value)) (ns ms:List Int) (h1:IntsAre items.toList ns) (h2:IntsAre items2.toList ms) :
    Meets (Builtin.«tuple.__lt__» ⟨[.ref l,.ref b],[]⟩)
      (fun A R s=>s.heap.get? l=some { cls:=.type "tuple",dict:=dd,data:=.seq items n,slots:=sl }/\s.heap.get? b=some { cls:=.type "tuple",dict:=dd2,data:=.seq items2 n2,slots:=sl2 } /\
        R (.ok (.ret (.bool (lexI ns ms)))) s) :=
  .of_wp fun prog w A R s h=>by
    obtain ⟨hp,g,d,tk,os⟩:=s;obtain ⟨hl,hb,h⟩:=h;have f2:=AutoSeq1.sub_tuple_tuple;have e1:items.size=ns.length:=by have:=h1.length;simpa using this
    have e2:items2.size=ms.length:=by have:=h2.length;simpa using this
    wp_walk using wpAny_loadPart' hl,wpAny_loadPart' hb,wpAny_forIn_list _ (fun rest b s'=>b.1=none/\s'=⟨hp,g,d,tk,os⟩/\∃xs ys ns' ms',rest=List.zip xs ys/\IntsAre xs ns'/\IntsAre ys ms'/\ns.length+ms'.length=ns'.length+ms.length /\
      R (.ok (.ret (.bool (lexI ns' ms')))) ⟨hp,g,d,tk,os⟩) _
    case turn =>
      rintro ⟨y,x⟩ rest b s' ⟨hb',rfl,xs,ys,ns',ms',hz,i1,i2,hln,hR⟩;cases i1 with
      | nil=>simp at hz
      | cons a t i1 =>
        cases i2 with
        | nil=>simp at hz
        | cons c u i2 =>
          rw [List.zip_cons_cons] at hz;injection hz with hyx hrest;cases hyx;unfold lexI at hR;refine wpAny_bind (wpAny_eqBool_int ?_);by_cases q:a=c
          · rw [if_pos q] at hR
            have:(a == c)=true:=by simpa using q
            rw [this]
            wp_walk
            exact ⟨rfl,rfl,_,_,_,_,hrest,i1,i2,by simp at hln;omega,hR⟩
          · rw [if_neg q] at hR
            have:(a == c)=false:=by simpa using q
            rw [this];simp only [Bool.not_false,if_true];refine wpAny_bind (wpAny_rule ?_);refine wpAny_bind (show wpAny _ _ (compareOp .Lt _ _) _ _ _ from PyProof.Rows.lt_int ?_)
            wp_walk
            exact ⟨_,rfl,by simpa using hR⟩
    case fin =>
      rintro ⟨b1,b2⟩ s' ⟨hb',rfl,xs,ys,ns',ms',hz,i1,i2,hln,hR⟩;simp only at hb';subst hb'
      wp_walk
      refine ⟨_,rfl,?_⟩;have:lexI ns' ms'=decide (items.size < items2.size):=by
        rw [e1,e2];cases i1 with
        | nil =>
          cases i2 with
          | nil=>unfold lexI;symm;apply decide_eq_false;simp at hln;omega
          | cons c u i2=>unfold lexI;symm;apply decide_eq_true;simp at hln;omega
        | cons a t i1 =>
          cases i2 with
          | nil=>unfold lexI;symm;apply decide_eq_false;simp at hln;omega
          | cons c u i2=>simp at hz
      rw [this] at hR;simpa [Builtin.Tuple.tupleCompareSizes] using hR
    case h =>
      exact ⟨rfl,rfl,items.toList,items2.toList,ns,ms,rfl,h1,h2,by omega,by simpa using h⟩
theorem zkq {xs ys zs:List Int} (h:lexI xs zs=true):lexI xs ys=true\/lexI ys zs=true:=by
  cases q:lexI xs ys with
  | true=>exact .inl rfl
  | false =>
    cases q2:lexI ys xs with
    | true=>exact .inr (zdz q2 h)
    | false=>rw [zho q q2] at h;exact .inr h
theorem zxw (kf:Value->List Int):Tim.Ord (fun x y:Keyed=>lexI (kf x.1) (kf y.1)) (fun _ _=>True) (fun x y=>lexI (kf y.1) (kf x.1)=false) where
  tr:=fun {x y z} h1 h2=>by
    cases q:lexI (kf z.1) (kf x.1) with
    | false=>rfl
    | true =>
      rcases zkq (ys:=kf y.1) q with a | a
      · rw [h2] at a;cases a
      · rw [h1] at a;cases a
  tot:=fun x y=>by
    cases q:lexI (kf y.1) (kf x.1) with
    | false=>exact .inl rfl
    | true =>
      right
      cases q2:lexI (kf x.1) (kf y.1) with
      | false=>rfl
      | true =>
        have:=zdz q q2;rw [zcg] at this;cases this
  f1:=fun _=>Iff.rfl
  f2:=fun {x y} h=>by
    cases q2:lexI (kf y.1) (kf x.1) with
    | false=>rfl
    | true =>
      have:=zdz h q2;rw [zcg] at this;cases this
  irr:=fun x=>zcg _
  ltr:=fun h1 h2=>zdz h1 h2
  nt:=fun y h=>zkq h
section
variable {prog:Program}{w:World}{A:Around}{E:Value->Shared->Prop}{s:Shared}{a₀:Array Keyed}
theorem zox {κ:SortKind}{lt:Keyed->Keyed->Bool} (h:∀(x y:Keyed) (E:Value->Shared->Prop) (Q:Bool->Shared->Prop),x∈a₀.toList->y∈a₀.toList->Q (lt x y) s->wpAny (model prog w) A (keyLt' κ x.1 y.1) Q E s):Tim.Asks prog w A E s κ a₀ lt:=fun x y st Q hx hy hk hq=>by
 rw [lt'_eq];refine wpS_bind (wpS_get ?_);rw [hk];refine wpS_bind (wpS_lift (wpAny_attempt (h x y _ _ hx hy ⟨rfl,?_⟩)));exact wpS_pure hq
theorem zto {kf:Value->List Int} (h:∀x∈a₀.toList,∃n t,x.1=.int n t/\kf x.1=[n]):Tim.Asks prog w A E s oneType' a₀ (fun x y=>lexI (kf x.1) (kf y.1)):=zox fun x y E Q hx hy hq=>by
 refine aG fun _ qG=>?_;obtain ⟨n,t,e1,e2⟩:=h x hx;obtain ⟨m,u,e3,e4⟩:=h y hy;refine qG ?_;clear qG;rw [keyLt'_oneType,e1,e3];refine oneLt_int ?_;have e:lexI (kf x.1) (kf y.1)=decide (n < m):=by
  rw [e2,e4];unfold lexI;by_cases q:n=m
  ·rw [if_pos q];subst q;simp [lexI]
  ·rw [if_neg q]
 rw [<-e];exact hq
theorem eqv_ints:∀ns ms:List Int,PyData.eqvAll (ns.map .int) (ms.map .int)=decide (ns=ms)
  | [],[]=>by simp [PyData.eqvAll]
  | [],_::_=>by simp [PyData.eqvAll]
  | _::_,[]=>by simp [PyData.eqvAll]
  | a::ns,b::ms=>by
    rw [List.map_cons,List.map_cons,PyData.eqvAll,eqv_ints ns ms,PyData.eqv];by_cases h:a=b
    · simp [h]
    · simp [h]
theorem zds {h:Heap}:∀{its:List Value}{ns:List Int},IntsAre its ns->ReadsAll h its (ns.map .int) []
 | _,_,.nil=>.nil
 | _,_,.cons n t r=>.cons (.int n t) (zds r)
theorem zia {h:Heap}{b:Addr}{its:List Value}{ns:List Int} (q:IsTup h b its.toArray) (r:IntsAre its ns):Reads h (.ref b) (.tuple (ns.map .int)) []:=by
 obtain ⟨o,g1,g2,n,g3⟩:=id q;exact .tuple g1 g2 g3 (by simpa using zds r)
theorem zml (ns:List Int):PyData.canLay0 (.tuple (ns.map .int))=true:=by
 rw [PyData.canLay0];exact canLayAll_ints ns
theorem depth_ints (ns:List Int):PyData.depth (.tuple (ns.map .int))<=1:=by
 rw [PyData.depth,depthAll_ints]
 decide
theorem zl9 {b b' : Addr}{its its' : List Value}{ns ns' : List Int}{Q:Bool->Shared->Prop} (hu:A.units+1 < cLine) (q2:IsTup s.heap b its.toArray) (q3:IntsAre its ns) (p2:IsTup s.heap b' its'.toArray) (p3:IntsAre its' ns') (h:Q (decide (ns=ns')) s) :
  wpAny (model prog w) A (eqBool (.ref b) (.ref b')) Q E s:=by
 refine PySem.SeqAt.eqBoolOverData prog w A E s _ _ _ _ [] [] Q (zia q2 q3) (zia p2 p3) (zml ns) (zml ns') ?_ ?_
 ·have := depth_ints ns;omega
 ·have e : PyData.eqv (.tuple (ns.map .int)) (.tuple (ns'.map .int)) = decide (ns = ns') := by rw [PyData.eqv]; exact eqv_ints ns ns'
  rw [e];exact h
theorem zmt {b b' : Addr}{its its' : List Value}{ns ns' : List Int}{Q:Value->Shared->Prop} (hu:A.units < cLine) (q2:IsTup s.heap b its.toArray) (q3:IntsAre its ns) (p2:IsTup s.heap b' its'.toArray) (p3:IntsAre its' ns') (h:Q (.bool (lexI ns ns')) s) :
  wpAny (model prog w) A (compareOp .Lt (.ref b) (.ref b')) Q E s:=by
 refine aG fun _ qG=>?_;obtain ⟨⟨cls,dd,data,sl⟩,ho,hc,n,hd⟩:=id q2;obtain ⟨⟨cls2,dd2,data2,sl2⟩,ho2,hc2,n2,hd2⟩:=id p2;refine qG ?_;clear qG;simp only at hc hd hc2 hd2;subst hc hd hc2 hd2;exact richCompare_meets_room (op:=.Lt) ⟨_,ho,rfl⟩ ⟨_,ho2,rfl⟩ F.slot_tuple_lt F.entry_tuple_lt (F.args_tuple_lt_2 _ _) (znf b b' its.toArray its'.toArray n n2 dd dd2 sl sl2 ns ns' (by simpa using q3) (by simpa using p3))
  ⟨ho,ho2,show Value.bool (lexI ns ns')≠Value.notImplemented/\Q (.bool (lexI ns ns')) s from ⟨(fun x=>nomatch x),h⟩⟩ hu
structure KeyT (h:Heap) (v:Value) (k:List Int):Prop where
 ex:∃(a b:Addr) (i:Int) (t:Tok) (ns:List Int) (its:List Value) (c:Value),v=.ref a/\k=i::ns/\IsTup h a [.int i t,c].toArray/\c=.ref b/\IsTup h b its.toArray/\IntsAre its ns
theorem zv2 {kf:Value->List Int} (hu:A.units+2 < cLine) (h:∀x∈a₀.toList,KeyT s.heap x.1 (kf x.1)):Tim.Asks prog w A E s (tuples' true) a₀ (fun x y=>lexI (kf x.1) (kf y.1)):=zox fun x y E Q hx hy hq=>by
 refine aG fun _ qG=>?_;obtain ⟨a,b,i,t,ns,its,c,e1,e2,q1,rfl,q2,q3⟩:=(h x hx).ex;obtain ⟨a',b',i',t',ns',its',c',f1,f2,p1,rfl,p2,p3⟩:=(h y hy).ex;refine qG ?_;clear qG;rw [e2,f2] at hq;rw [e1,f1];refine aG fun _ qG=>?_;obtain ⟨o,g1,g2,n,g3⟩:=id q1;obtain ⟨o',k1,k2,n',k3⟩:=id p1;refine qG ?_;clear qG;refine PySem.W.kat_lt g1 g3 k1 k3 ?_;refine PySem.W.kat_cons (wpAny_eqBool_int ?_);unfold lexI at hq;by_cases z:i=i'
 ·have zz : (i == i') = true := by simpa using z
  rw [zz];rw [if_pos z] at hq;refine PySem.W.kat_yes (PySem.W.kat_cons (zl9 (by omega) q2 q3 p2 p3 ?_));by_cases z2:ns=ns'
  ·rw [decide_eq_true z2];refine PySem.W.kat_yes (PySem.W.kat_nil ?_);subst z2;rw [zcg] at hq;exact hq
  ·rw [decide_eq_false z2];refine PySem.W.kat_no ?_;exact PySem.W.kat_one _ _ (zmt (by omega) q2 q3 p2 p3 hq)
 ·have zz : (i == i') = false := by simpa using z
  rw [zz];rw [if_neg z] at hq;refine PySem.W.kat_no ?_;exact oneLt_int hq
end
end L2
namespace L2
open PySem PySem.Spec PyProof.Rows
section
variable {prog:Program}{w:World}{A:Around}{E:Value->Shared->Prop}{s:Shared}{a kS:Addr}{e e1:Nat}{keys:Array Value}{vs:List Value}{P:PySem.Fin->Shared->Prop}
theorem zvb {st:SortSt} (hk:s.heap.get? kS=some (seqObj "list" keys e)) (ha:s.heap.get? a=some (seqObj "list" #[] e1)) (hne:kS≠a) (hz:keys.size<=sizeLine) (hz2:(arrOf st).size<=sizeLine) (hf:failedOf st=none)
  (h:∀h' c,h'.get? a=some (seqObj "list" ((arrOf st).map (·.2)) c)->(∀b o,b≠a->b≠kS->s.heap.get? b=some o->h'.get? b=some o)->P (.done (.ret .none)) { s with heap:=h' }):wpAny (model prog w) A (ksk_tail a false e1 (.ref kS) st) P E s:=by
 have s1:=Heap.SameBut.update s.heap kS (Obj.mapSeq fun _=>(#[]:Array Value));have na1:(s.heap.update kS (Obj.mapSeq fun _=>(#[]:Array Value))).get? a=some (seqObj "list" #[] e1):=(s1.2 a hne.symm).trans ha;have s2:=Heap.SameBut.update (s.heap.update kS (Obj.mapSeq fun _=>(#[]:Array Value))) a (Obj.mapSeq fun _=>(arrOf st).map (·.2));unfold ksk_tail
 try dsimp only
 refine wpAny_bind (listUpdate_at hk rfl ?_ hz (Nat.zero_le _));refine wpAny_bind (wpAny_letGo ?_);refine wpAny_bind (seqEpoch_at na1 rfl ?_);refine wpAny_bind (listUpdate_at na1 rfl ?_ (Nat.zero_le _) (by simp only [Bool.false_eq_true,if_false,Array.size_map];omega));rw [hf];simp only [bne_self_eq_false,Bool.false_eq_true,if_false];refine wpAny_pure (h _ _ (get?_update_seq na1 fun _=>(arrOf st).map (·.2)) fun b o n1 n2 eb=>?_);exact (s2.2 b n1).trans ((s1.2 b n2).trans eb)
theorem zze {κ:SortKind}{kf:Value->List Int}{bf le:Keyed->Keyed->Prop} (O:Tim.Ord (fun x y:Keyed=>lexI (kf x.1) (kf y.1)) bf le) (hb:∀c,Tim.Cut bf (keys.zip vs.toArray) c) (hk:s.heap.get? kS=some (seqObj "list" keys e)) (ha:s.heap.get? a=some (seqObj "list" #[] e1)) (hne:kS≠a) (hl:keys.size=vs.length) (hz:vs.length<=sizeLine)
  (kd:2<=vs.length->∀Q' : SortKind->Shared->Prop,Q' κ s->wpAny (model prog w) A (keyKind' keys) Q' E s)
  (C:Tim.Asks prog w A E s κ (keys.zip vs.toArray) (fun x y=>lexI (kf x.1) (kf y.1)))
  (h:∀(r:List Keyed) h' c,r.Perm (keys.toList.zip vs)->r.Pairwise le->h'.get? a=some (seqObj "list" (r.map (·.2)).toArray c)->(∀b o,b≠a->b≠kS->s.heap.get? b=some o->h'.get? b=some o)->P (.done (.ret .none)) { s with heap:=h' }) :
  wpAny (model prog w) A (ksk_end a false vs.toArray e1 (.ref kS) keys) P E s:=by
 have hzs:(keys.zip vs.toArray).size=vs.length:=by rw [Array.size_zip,hl,List.size_toArray,Nat.min_self]
 have fin:∀st:SortSt,(arrOf st).Perm (keys.zip vs.toArray)->failedOf st=none->Tim.Srt le (arrOf st) 0 (keys.zip vs.toArray).size->wpAny (model prog w) A (ksk_tail a false e1 (.ref kS) st) P E s:=fun st hp hf hs=>by
  refine zvb hk ha hne (by omega) (by rw [hp.size_eq,hzs];exact hz) hf fun h' c ea kp=>?_;refine h (arrOf st).toList h' c ?_ (Tim.srt_list (by rw [hp.size_eq];exact hs)) (by rw [ea,<-Array.toList_map,Array.toArray_toList]) kp;rw [<-ksk_zip];exact Array.perm_iff_toList_perm.mp hp
 unfold ksk_end
 try dsimp only
 simp only [Bool.false_eq_true,if_false];by_cases h2:vs.toArray.size < 2
 ·rw [if_pos h2, if_pos h2];refine wpAny_bind (wpAny_pure ?_);rw [StateT.run_pure];refine wpAny_bind (wpAny_pure ?_)
  try dsimp only
  refine fin (SortSt.mk' general' (keys.zip vs.toArray) #[] 7 none) (Array.Perm.refl _) rfl fun i j _ h3 h4=>?_;rw [List.size_toArray] at h2;omega
 ·rw [if_neg h2, if_neg h2];rw [List.size_toArray] at h2;refine wpAny_bind (kd (by omega) _ ?_);refine wpAny_bind (wpAny_mono (Tim.q_sort (bf:=bf) (st:=SortSt.mk' κ (keys.zip vs.toArray) #[] 7 none) (Q:=fun _ st'=>(arrOf st').Perm (keys.zip vs.toArray)/\failedOf st'=none/\Tim.Srt le (arrOf st') 0 (keys.zip vs.toArray).size)
   C O ⟨rfl,rfl,Array.Perm.refl _,rfl⟩ rfl hb fun st' a1 a2 a3=>⟨a2,a1,a3⟩) ?_ fun _ _ e=>e)
  rintro ⟨⟨⟩,st'⟩ s' ⟨rfl,hp,hf,hs⟩
  try dsimp only
  exact fin st' hp hf hs
end
end L2
namespace L2
open PySem PySem.Spec PyProof.Rows
noncomputable abbrev KP:=List Int × W
noncomputable def insK (x:KP):List KP->List KP
 | []=>[x]
 | y::ys=>if lexI x.1 y.1 then x::y::ys else y::insK x ys
noncomputable def zqb:List KP->List KP
 | []=>[]
 | x::xs=>insK x (zqb xs)
theorem zfc (x:KP):∀l,(insK x l).Perm (x::l)
  | []=>.refl _
  | y::ys=>by
    unfold insK;split
    · exact .refl _
    · exact ((zfc x ys).cons y).trans (.swap x y ys)
theorem zfx:∀l:List KP,(zqb l).Perm l
 | []=>.refl _
 | x::xs=>(zfc x _).trans ((zfx xs).cons x)
noncomputable abbrev leK (x y:KP):Prop:=lexI y.1 x.1=false
theorem z0x {x y z:KP} (h1:leK x y) (h2:leK y z):leK x z:=by
  unfold leK at *
  cases q:lexI z.1 x.1 with
  | false=>rfl
  | true =>
    rcases zkq (ys:=y.1) q with a | a
    · rw [h2] at a;cases a
    · rw [h1] at a;cases a
theorem zin {x y:KP} (h:lexI x.1 y.1=true):leK x y:=by
  unfold leK;cases q:lexI y.1 x.1 with
  | false=>rfl
  | true =>
    have:=zdz h q;rw [zcg] at this;cases this
theorem zfa {x:KP}:∀{l:List KP},l.Pairwise leK->(insK x l).Pairwise leK
  | [],_=>List.pairwise_singleton _ _
  | y::ys,h=>by
    have hy:=List.pairwise_cons.mp h;unfold insK;split
    · rename_i q
      refine List.pairwise_cons.mpr ⟨fun z hz=>?_,h⟩;rcases List.mem_cons.mp hz with rfl | hz
      · exact zin q
      · exact z0x (zin q) (hy.1 z hz)
    · rename_i q
      refine List.pairwise_cons.mpr ⟨fun z hz=>?_,zfa hy.2⟩;rcases List.mem_cons.mp ((zfc x ys).mem_iff.mp hz) with rfl | hz
      · unfold leK;simpa using q
      · exact hy.1 z hz
theorem zd9:∀l:List KP,(zqb l).Pairwise leK
 | []=>.nil
 | x::xs=>zfa (zd9 xs)
theorem zgb:∀{l l' : List KP},l.Perm l'->l.Pairwise leK->l'.Pairwise leK->(∀x∈l,∀y∈l,x.1=y.1->x=y)->l=l'
  | [],l',p,_,_,_=>p.nil_eq
  | x::xs,[],p,_,_,_=>by simpa using p.length_eq
  | x::xs,y::ys,p,h1,h2,hu=>by
    have a1:=List.pairwise_cons.mp h1;have a2:=List.pairwise_cons.mp h2;have hy:y∈x::xs:=p.mem_iff.mpr List.mem_cons_self;have hx:x∈y::ys:=p.mem_iff.mp List.mem_cons_self;have exy:x=y:=by
      rcases List.mem_cons.mp hy with e | hy'
      · exact e.symm
      · rcases List.mem_cons.mp hx with e | hx'
        · exact e
        · exact hu x List.mem_cons_self y hy (zho (show lexI x.1 y.1=false from a2.1 x hx') (show lexI y.1 x.1=false from a1.1 y hy'))
    subst exy;have p':=(List.perm_cons x).mp p;rw [zgb p' a1.2 a2.2 fun u hu' v hv=>hu u (List.mem_cons_of_mem _ hu') v (List.mem_cons_of_mem _ hv)]
inductive All2 {α β:Type} (R:α->β->Prop):List α->List β->Prop where
 | nil:All2 R [] []
 | cons {a b as bs} (h:R a b) (t:All2 R as bs):All2 R (a::as) (b::bs)
theorem All2.perm {α β:Type}{R:α->β->Prop}{bs bs' : List β} (p:bs.Perm bs'):∀{as:List α},All2 R as bs->∃as',as.Perm as'/\All2 R as' bs':=by
  induction p with
  | nil=>exact fun h=>⟨_,.refl _,h⟩
  | cons x p ih =>
    intro as h;cases h with
    | cons h t =>
      obtain ⟨as',q1,q2⟩:=ih t;exact ⟨_,q1.cons _,.cons h q2⟩
  | swap x y l =>
    intro as h;cases h with
    | cons h1 t =>
      cases t with
      | cons h2 t=>exact ⟨_,.swap _ _ _,.cons h2 (.cons h1 t)⟩
  | trans p1 p2 ih1 ih2 =>
    intro as h;obtain ⟨as1,q1,h1⟩:=ih1 h;obtain ⟨as2,q2,h2⟩:=ih2 h1;exact ⟨as2,q1.trans q2,h2⟩
theorem All2.pair {α β:Type}{R:α->β->Prop}{P:α->α->Prop}{Q:β->β->Prop} (hPQ:∀a b a' b',R a b->R a' b'->Q b b'->P a a'):∀{as:List α}{bs:List β},All2 R as bs->bs.Pairwise Q->as.Pairwise P
  | _,_,.nil,_=>.nil
  | _,_,.cons h t,hp=>by
    have hc:=List.pairwise_cons.mp hp;refine List.pairwise_cons.mpr ⟨fun a' ha'=>?_,All2.pair hPQ t hc.2⟩;have:∀{as:List α}{bs:List β},All2 R as bs->a'∈as->∃b',b'∈bs/\R a' b':=by
      intro as bs h
      induction h with
      | nil=>intro z;cases z
      | cons h t ih =>
        intro z;rcases List.mem_cons.mp z with rfl | z
        · exact ⟨_,List.mem_cons_self,h⟩
        · obtain ⟨b', q1, q2⟩ := ih z
          exact ⟨b',List.mem_cons_of_mem _ q1,q2⟩
    obtain ⟨b',hb',hr⟩:=this t ha';exact hPQ _ _ _ _ h hr (hc.1 b' hb')
noncomputable def zut:List W->Option (List Int)
 | []=>some []
 | .int i::ws=>(zut ws).bind fun is=>some (i::is)
 | _=>none
noncomputable def kI:W->Option (List Int)
 | .int i=>some [i]
 | _=>none
noncomputable def kT:W->Option (List Int)
 | .tup [.int i,.tup xs]=>(zut xs).bind fun is=>some (i::is)
 | _=>none
noncomputable def mapO {α β:Type} (f:α->Option β):List α->Option (List β)
 | []=>some []
 | a::as=>(f a).bind fun b=>(mapO f as).bind fun bs=>some (b::bs)
noncomputable def zer:List (List Int)->Bool
 | []=>true
 | x::xs=>xs.all (fun y=>decide (x≠y)) && zer xs
theorem zfg:∀{l:List (List Int)},zer l=true->l.Nodup
  | [],_=>List.nodup_nil
  | x::xs,h=>by
    unfold zer at h;rw [Bool.and_eq_true] at h;refine List.nodup_cons.mpr ⟨fun z=>?_,zfg h.2⟩;have:=List.all_eq_true.mp h.1 x z;simp at this
noncomputable def zru (ks ws:List W):Option (List W):=((mapO kI ks).orElse fun _=>mapO kT ks).bind fun kl=>if zer kl && decide (kl.length=ws.length) then some ((zqb (kl.zip ws)).map (·.2)) else none
end L2
namespace L2
open PySem PySem.Spec PyProof.Rows
noncomputable def Cx.inn (X:Cx):Cx:={ X with A:=X.A.in1.in1 }
section
variable {X:Cx}{pins:List (Addr × Obj)}{σ:St}{H:Hp}{s:Shared}
theorem Cx.Ok.inn (o:X.Ok):X.inn.Ok:=⟨o.mod,o.kind,o.glob,o.blt,o.above,o.inj,o.has,o.cab,o.hd,o.frames,o.stk,o.exf,o.bs,o.bsz,o.noex,o.exfs,o.funs,o.frf⟩
theorem Cx.Ok.out (o:X.inn.Ok):X.Ok:=⟨o.mod,o.kind,o.glob,o.blt,o.above,o.inj,o.has,o.cab,o.hd,o.frames,o.stk,o.exf,o.bs,o.bsz,o.noex,o.exfs,o.funs,o.frf⟩
theorem Inv.inn (I:Inv X pins σ H s):Inv X.inn pins σ H s:=⟨I.ok.inn,I.os,I.bare,I.base,I.loc,I.cell,I.free,I.freeC,I.pin,I.hok,I.len⟩
theorem Inv.out (I:Inv X.inn pins σ H s):Inv X pins σ H s:=⟨I.ok.out,I.os,I.bare,I.base,I.loc,I.cell,I.free,I.freeC,I.pin,I.hok,I.len⟩
theorem Inv.adopt {h' : Heap}{t' : Nat}{ch:List Addr}{T:Addr}{o:HO} (I:Inv X pins σ H s) (k:∀b o,b ∉ ch->s.heap.get? b=some o->h'.get? b=some o) (hch:∀b∈ch,FpOk X pins H b) (hT:T∈ch)
  (new:zbd X.prog X.w (upd H T o) h' T o):Inv X pins σ (upd H T o) { s with heap:=h',toks:=t' }:=by
 have hn:H T=none:=(hch T hT).1;have nch:∀b u,H b=some u->b ∉ ch:=fun b u e hb=>by rw [(hch b hb).1] at e;exact noSome e
 refine I.step (g':=s.gens) (d':=s.drawn) (ch:=ch) (fun b hb=>⟨(hch b hb).2.2.2.1,(hch b hb).2.1,(hch b hb).2.2.2.2.1,(hch b hb).2.2.2.2.2⟩) (fun b o _ _ hc e _=>k b o hc e) (fun b o _ _ hc e _=>⟨o.slots,k b o hc e⟩) (fun b u hc e n=>by rw [upd_ne (fun z=>hc (by rw [z];exact hT))];exact n)
  (fun b u hc e=>⟨u,k b u hc e⟩) (fun b xs e=>by rw [upd_ne (zab e hn)];exact e) (fun b u xs e=>by rw [upd_ne (zab e hn)];exact e) (fun b ps e=>⟨#[],by rw [upd_ne (zab e hn),e];simp⟩) (fun m hm=>?_) (fun b u e=>?_) I.bare
 ·obtain ⟨o, es, ep, ho, r⟩ := hm;exact ⟨o,es,ep,k _ o (fun z=>(hch _ z).2.1 rfl) ho,r⟩
 ·by_cases hb : b = T
  ·subst hb;rw [upd_same] at e;obtain rfl:=sI e;exact new
  ·rw [upd_ne hb] at e;refine (I.hok b u e).stay (fun c v hc q=>k c v ?_ q) (fun c q=>by rw [upd_ne (zab q hn)];exact q) fun c xs q=>by rw [upd_ne (zab q hn)];exact q
   rcases hc with z | z
   ·rw [z];exact nch b u e
   ·exact nch c _ z
structure KCall (X:Cx) (f:Value) (Φ:W->Option W) (Al:List (Addr × Obj)->Hp->Prop):Prop where
 mono:∀{pins pins' : List (Addr × Obj)}{F F' : Hp},Al pins F->(∀p∈pins,p∈pins')->Same F F'->Al pins' F'
 run:∀(pins:List (Addr × Obj)) (s:Shared) (σ:St) (H F:Hp) (pr:Prt) (en:En) (w k:W) (v:V) (u:Value),Al pins F->Inv X pins σ H s->Rel X.K F pr en σ H->Rep X.K F w v->RelV v u->Φ w=some k ->
  wpAny (model X.prog X.w) X.A (call f [u]) (fun u' s'=>∃v' F' H',Inv X pins σ H' s'/\Same F F'/\Rel X.K F' pr en σ H'/\RelV v' u'/\Rep X.K F' k v') (fun _ _=>False) s
structure Apart (X:Cx) (pins:List (Addr × Obj)) (b:Addr):Prop where
 l:b≠X.env.locals
 f:b ∉ X.fs
 x:b∈X.ex\/X.s₀.heap.objs.size<=b
 c:∀x c,X.env.cells.lookup x=some c->c≠b
 p:∀p∈X.pn++pins,p.1≠b
theorem Apart.fp {b:Addr} (a:Apart X pins b) (h:H b=none):FpOk X pins H b:=⟨h,a.l,a.f,a.x,a.c,a.p⟩
theorem FpOk.apart {b:Addr} (h:FpOk X pins H b):Apart X pins b:=⟨h.2.1,h.2.2.1,h.2.2.2.1,h.2.2.2.2.1,h.2.2.2.2.2⟩
theorem zen {α β:Type}{f:α->Option β}:∀{as:List α}{bs:List β}{i:Nat}{a:α},mapO f as=some bs->as[i]?=some a->∃b,f a=some b/\bs[i]?=some b
  | [],_,_,_,_,h=>by simp at h
  | x::xs,bs,i,a,e,h=>by
    obtain ⟨b,h1,e⟩:=bS e;obtain ⟨bs',h2,e⟩:=bS e;obtain rfl:=sI e;cases i with
    | zero=>simp at h;subst h;exact ⟨b,h1,rfl⟩
    | succ i =>
      obtain ⟨c,q1,q2⟩:=zen (i:=i) h2 (by simpa using h);exact ⟨c,q1,by simpa using q2⟩
theorem zem {α β:Type}{f:α->Option β}:∀{as:List α}{bs:List β},mapO f as=some bs->bs.length=as.length
  | [],_,e=>by obtain rfl:=sI e;rfl
  | x::xs,bs,e=>by
    obtain ⟨b,h1,e⟩:=bS e;obtain ⟨bs',h2,e⟩:=bS e;obtain rfl:=sI e;exact congrArg (· + 1) (zem h2)
theorem zvl {f:Value}{Φ:W->Option W}{Al:List (Addr × Obj)->Hp->Prop} (KC:KCall X f Φ Al) {F:Hp}{pr:Prt}{en:En}{a kS:Addr}{e1:Nat}{vs:List Value}{vvs:List V}{ws ks:List W}{P:PySem.Fin->Shared->Prop}{E:Value->Shared->Prop}
  (I:Inv X ((kS,seqObj "list" #[] 0)::(a,seqObj "list" #[] e1)::pins) σ H s) (al:Al pins F) (R:Rel X.K F pr en σ H) (rv:Vals vvs vs) (rw' : Reps X.K F ws vvs) (hk:mapO Φ ws=some ks) (hz:vs.length<=sizeLine)
  (ap:Apart X ((a,seqObj "list" #[] e1)::pins) kS)
  (fin:∀s' H' F' keys e kvs,Inv X ((kS,seqObj "list" keys e)::(a,seqObj "list" #[] e1)::pins) σ H' s'->Same F F'->Rel X.K F' pr en σ H'->Vals kvs keys.toList->Reps X.K F' ks kvs->wpAny (model X.prog X.w) X.A (ksk_end a false vs.toArray e1 (.ref kS) keys) P E s') :
  wpAny (model X.prog X.w) X.A (ksk_rest a f false vs.toArray e1 (.ref kS)) P E s:=by
 have lw:ws.length=vs.length:=by rw [rw'.length,rv.length]
 have lk:ks.length=vs.length:=by rw [zem hk,lw]
 unfold ksk_rest;refine wpAny_bind (wpAny_rule ?_);rw [List.forIn_toArray];refine wpAny_bind (ksk_fold (fun i s'=>∃H' F' keys e kvs,Inv X ((kS,seqObj "list" keys e)::(a,seqObj "list" #[] e1)::pins) σ H' s'/\Same F F'/\Rel X.K F' pr en σ H'/\Vals kvs keys.toList/\Reps X.K F' (ks.take i) kvs) vs 0 s
  ⟨H,F,#[],0,[],I,.refl F,R,.nil,.nil⟩ ?step ?done)
 case step =>
  rintro j x s' hx ⟨H',F',keys,e,kvs,I',s1,R',rk,rp⟩;simp only [Nat.zero_add] at rp ⊢;have hj:j < vs.length:=(List.getElem?_eq_some_iff.mp hx).1;obtain ⟨w,hw⟩ : ∃w,ws[j]?=some w:=⟨_,List.getElem?_eq_getElem (by omega)⟩;refine aG fun _ qG=>?_;obtain ⟨k,hk1,hk2⟩:=zen hk hw;obtain ⟨v,hv,rp1⟩:=rw'.get hw;obtain ⟨u,hu,ru⟩:=rv.get hv;refine qG ?_;clear qG;rw [hx] at hu;obtain rfl:=sI hu;have zk:keys.size<=vs.length:=by
   have a1:kvs.length=keys.size:=rk.length.trans Array.length_toList;have a2:min j ks.length=kvs.length:=by rw [<-List.length_take];exact rp.length
   omega
  refine wpAny_bind (wpAny_attempt (wpAny_mono (KC.run _ s' σ H' F' pr en w k v x (KC.mono al (fun p hp=>List.mem_cons_of_mem _ (List.mem_cons_of_mem _ hp)) s1) I' R' (rp1.mono s1) ru hk1) (fun u' s2 he=>?_) fun _ _ hF=>hF.elim));refine aG fun _ qG=>?_;obtain ⟨v',F2,H2,I2,s2',R2,ru',rp2⟩:=he;obtain ⟨g1,g2,_,_,_⟩:=I2.pin (kS,seqObj "list" keys e) (List.mem_append_right _ List.mem_cons_self);refine qG ?_;clear qG
  try dsimp only
  refine wpAny_bind (listUpdate_at g1 rfl ?_ (by omega) (Nat.le_trans (Nat.le_of_eq (Array.size_push ..)) (by omega)));have sb:=Heap.SameBut.update s2.heap kS (Obj.mapSeq (·.push u'));obtain ⟨c2,hc2⟩ : ∃c2,(s2.heap.update kS (Obj.mapSeq (·.push u'))).get? kS=some (seqObj "list" (keys.push u') c2):=⟨_,get?_update_seq g1 (·.push u')⟩;have I3:Inv X ((a,seqObj "list" #[] e1)::pins) σ H2 s2:=I2.pins_of fun p hp=>I2.pin p (List.mem_append_right _ (List.mem_cons_of_mem _ hp));have I4:Inv X ((a,seqObj "list" #[] e1)::pins) σ H2 { s2 with heap:=s2.heap.update kS (Obj.mapSeq (·.push u')) }:=I3.turned (t':=s2.toks) (it:=kS) (fun b o hb eb=>(sb.2 b hb).trans eb) g2 ap.l ap.x ap.c ap.p;refine wpAny_pure ⟨rfl,H2,F2,keys.push u',c2,kvs++[v'],?_,s1.trans s2',R2,?_,?_⟩
  ·refine I4.pins_of fun p hp => ?_;rcases List.mem_cons.mp hp with rfl | hp
   ·exact ⟨hc2,g2,ap.l,ap.f,fun v z=>by cases z⟩
   ·exact I4.pin p (List.mem_append_right _ hp)
  ·rw [Array.toList_push];exact Vals.append rk (.cons ru' .nil)
  ·rw [List.take_add_one, hk2];exact (rp.mono s2').append (.cons rp2 .nil)
 case done =>
  rintro s' ⟨H',F',keys,e,kvs,I',s1,R',rk,rp⟩;rw [Nat.zero_add,List.take_of_length_le (by omega)] at rp;obtain ⟨g1,_⟩:=I'.pin (kS,seqObj "list" keys e) (List.mem_append_right _ List.mem_cons_self)
  try dsimp only
  refine wpAny_bind (listItems_at g1 rfl ?_);exact fin s' H' F' keys e kvs I' s1 R' rk rp
end
end L2
namespace L2
open PySem PySem.Spec PyProof.Rows
noncomputable def intV:V->Option Int
 | .int j=>some j
 | _=>none
noncomputable def kfV (H:Hp):Value->List Int
  | .int n _=>[n]
  | .ref a=>match H a with
    | some (.tup [.int i,.ref b])=>(match H b with
      | some (.tup vs)=>i::vs.filterMap intV
      | _=>[])
    | _=>[]
  | _=>[]
theorem zez:∀is:List Int,(is.map V.int).filterMap intV=is
 | []=>rfl
 | i::is=>by rw [List.map_cons,List.filterMap_cons];show i::_=_;rw [zez is]
theorem zf4 {K:PySem.W.Frag}{F:Hp}:∀{ws:List W}{is:List Int}{vs:List V},zut ws=some is->Reps K F ws vs->vs=is.map V.int
  | [],_,_,e,r=>by obtain rfl:=sI e;cases r;rfl
  | w::ws,is,vs,e,r=>by
    cases w with
    | int i =>
      obtain ⟨is',h,e⟩:=bS (show (zut ws).bind _=_ from e);obtain rfl:=sI e;cases r with
      | cons h1 r =>
        cases h1;rw [zf4 h r];rfl
    | _=>exact noSome e
theorem zpf {is:List Int}{its:List Value} (h:Vals (is.map V.int) its):IntsAre its is:=by
  induction is generalizing its with
  | nil=>cases h;exact .nil
  | cons i is ih =>
    cases h with
    | cons h1 t =>
      obtain ⟨t1,rfl⟩:=h1;exact .cons i t1 (ih t)
section
variable {X:Cx}{pins:List (Addr × Obj)}{σ:St}{H F:Hp}{s:Shared}
theorem zrv {k:W}{kl:List Int}{v:V}{u:Value} (e:kI k=some kl) (r:Rep X.K F k v) (ru:RelV v u):(∃n t,u=.int n t/\kfV H u=[n])/\kfV H u=kl:=by
  cases k with
  | int i =>
    obtain rfl:=sI e;cases r;obtain ⟨t,rfl⟩:=ru;exact ⟨⟨i,t,rfl,rfl⟩,rfl⟩
  | _=>exact noSome e
theorem zrs (I:Inv X pins σ H s) (sm:Same F H) {k:W}{kl:List Int}{v:V}{u:Value} (e:kT k=some kl) (r:Rep X.K F k v) (ru:RelV v u):KeyT s.heap u kl/\kfV H u=kl:=by
  unfold kT at e;split at e
  · rename_i i xs
    obtain ⟨is,hi,e⟩:=bS e;obtain rfl:=sI e;cases r with
    | @tup ws a vs h rs =>
      cases rs with
      | @cons _ v1 _ vs1 h1 rs =>
        cases h1;cases rs with
        | @cons _ v2 _ vs2 h2 rs =>
          cases rs;cases h2 with
          | @tup _ b us hb rb =>
            have eu:=zf4 hi rb;subst eu;cases (show u=Value.ref a from ru);refine aG fun _ qG=>?_;obtain ⟨its,r1,t1,_⟩:=I.tuple (.inl (.inl (sm _ _ h)));obtain ⟨its2,r2,t2,_⟩:=I.tuple (.inl (.inl (sm _ _ hb)));refine qG ?_;clear qG;cases r1 with
            | cons q1 r1 =>
              cases r1 with
              | cons q2 r1 =>
                cases r1;obtain ⟨t,rfl⟩:=q1;cases (show _=Value.ref b from q2);refine ⟨⟨a,b,i,t,is,its2,.ref b,rfl,rfl,t1,rfl,t2,zpf r2⟩,?_⟩;show (match H a with | some (.tup [.int i,.ref b])=>_ | _=>_)=_;rw [sm _ _ h];show (match H b with | some (.tup vs)=>i::vs.filterMap intV | _=>[])=_;rw [sm _ _ hb];show i::_=_;rw [zez]
  · exact noSome e
theorem zue {keys:Array Value}{vs:List Value}{ks:List W}{kvs:List V}{kl:List (List Int)}{A:Around}{E:Value->Shared->Prop} (I:Inv X pins σ H s) (sm:Same F H) (hu:A.units+2 < cLine) (rk:Vals kvs keys.toList) (rp:Reps X.K F ks kvs) (hkl:((mapO kI ks).orElse fun _=>mapO kT ks)=some kl) (hl:keys.size=vs.length) :
    ∃κ:SortKind,(2<=vs.length->∀Q' : SortKind->Shared->Prop,Q' κ s->wpAny (model X.prog X.w) A (keyKind' keys) Q' E s)/\Tim.Asks X.prog X.w A E s κ (keys.zip vs.toArray) (fun x y=>lexI (kfV H x.1) (kfV H y.1))/\keys.toList.map (kfV H)=kl:=by
  have lk:ks.length=keys.size:=by rw [rp.length,rk.length,Array.length_toList]
  have mem:∀x∈(keys.zip vs.toArray).toList,∃i,keys.toList[i]?=some x.1:=fun x hx=>by
    rw [ksk_zip] at hx;obtain ⟨a,b⟩:=x;have:=(List.of_mem_zip hx).1;obtain ⟨i,hi,e⟩:=List.mem_iff_getElem.mp this;exact ⟨i,by rw [List.getElem?_eq_getElem hi,e]⟩
  have back:∀(f:W->Option (List Int)),mapO f ks=some kl->(∀(k:W) (l:List Int) (v:V) (u:Value),f k=some l->Rep X.K F k v->RelV v u->kfV H u=l)->keys.toList.map (kfV H)=kl:=fun f hf hk=>by
    apply List.ext_getElem?;intro i;rw [List.getElem?_map];by_cases hi:i < keys.size
    · obtain ⟨k, ek⟩ : ∃ k, ks[i]? = some k := ⟨_, List.getElem?_eq_getElem (by omega)⟩
      refine aG fun _ qG=>?_;obtain ⟨l,e1,e2⟩:=zen hf ek;obtain ⟨v,ev,rv⟩:=rp.get ek;obtain ⟨u,eu,ru⟩:=rk.get ev;refine qG ?_;clear qG;rw [eu,e2];exact congrArg some (hk k l v u e1 rv ru)
    · rw [List.getElem?_eq_none (by simpa using hi),List.getElem?_eq_none (by rw [zem hf];omega)];rfl
  have at' : ∀(f:W->Option (List Int)),mapO f ks=some kl->∀(i:Nat) (u:Value),keys.toList[i]?=some u->∃k l v,f k=some l/\Rep X.K F k v/\RelV v u:=fun f hf i u hu=>by
    have hi:i < keys.size:=by have:=(List.getElem?_eq_some_iff.mp hu).1;simpa using this
    obtain ⟨k,ek⟩ : ∃k,ks[i]?=some k:=⟨_,List.getElem?_eq_getElem (by omega)⟩;refine aG fun _ qG=>?_;obtain ⟨l,e1,e2⟩:=zen hf ek;obtain ⟨v,ev,rv⟩:=rp.get ek;obtain ⟨u',eu,ru⟩:=rk.get ev;refine qG ?_;clear qG;rw [hu] at eu;obtain rfl:=sI eu;exact ⟨k,l,v,e1,rv,ru⟩
  cases q:mapO kI ks with
  | some kl' =>
    rw [q] at hkl;cases (show some kl'=some kl from hkl);have all:∀(i:Nat) (u:Value),keys.toList[i]?=some u->∃n t,u=.int n t/\kfV H u=[n]:=fun i u hu=>by
      refine aG fun _ qG=>?_;obtain ⟨k,l,v,e1,rv,ru⟩:=at' kI q i u hu;refine qG ?_;clear qG;exact (zrv (H:=H) e1 rv ru).1
    refine ⟨oneType',fun h2 Q' hq=>?_,zto fun x hx=>?_,back kI q fun k l v u e1 rv ru=>(zrv (H:=H) e1 rv ru).2⟩
    · have ia:=intsAre_map keys.toList fun v hv=>by
        refine aG fun _ qG=>?_;obtain ⟨i,hi,e⟩:=List.mem_iff_getElem.mp hv;obtain ⟨n,t,h,_⟩:=all i v (by rw [List.getElem?_eq_getElem hi,e]);refine qG ?_;clear qG;exact ⟨n,t,h⟩
      rw [ksk_kind ia (by omega)];exact wpAny_pure hq
    · obtain ⟨i, hi⟩ := mem x hx
      exact all i x.1 hi
  | none =>
    rw [q] at hkl;have hkl:mapO kT ks=some kl:=hkl;have all:∀(i:Nat) (u:Value),keys.toList[i]?=some u->KeyT s.heap u (kfV H u):=fun i u hu=>by
      refine aG fun _ qG=>?_;obtain ⟨k,l,v,e1,rv,ru⟩:=at' kT hkl i u hu;obtain ⟨g1,g2⟩:=zrs I sm e1 rv ru;refine qG ?_;clear qG;rw [g2];exact g1
    refine ⟨tuples' true,fun h2 Q' hq=>?_,zv2 hu fun x hx=>?_,back kT hkl fun k l v u e1 rv ru=>(zrs I sm e1 rv ru).2⟩
    · have kt:∃fs:List Value,PySem.W.KatTups s.heap keys.toList fs/\fs.length=keys.size/\∀v∈fs,∃n t,v=.int n t:=by
        have gen:∀l:List Value,(∀(i:Nat) (u:Value),l[i]?=some u->KeyT s.heap u (kfV H u))->∃fs:List Value,PySem.W.KatTups s.heap l fs/\fs.length=l.length/\∀v∈fs,∃n t,v=.int n t:=by
          intro l
          induction l with
          | nil=>exact fun _=>⟨[],trivial,rfl,fun v hv=>by simp at hv⟩
          | cons u l ih =>
            intro h;refine aG fun _ qG=>?_;obtain ⟨fs,g1,g2,g3⟩:=ih fun i v hv=>h (i+1) v (by simpa using hv);obtain ⟨a,b,i,t,ns,its,c,e1,e2,q1,rfl,q2,q3⟩:=(h 0 u rfl).ex;obtain ⟨o,k1,k2,n,k3⟩:=id q1;refine qG ?_;clear qG;subst e1;exact ⟨.int i t::fs,PySem.W.KatTups.cons k1 k2 k3 rfl g1,by simpa using g2,fun v hv=>(List.mem_cons.mp hv).elim (fun z=>⟨i,t,z⟩) (g3 v)⟩
        refine aG fun _ qG=>?_;obtain ⟨fs,g1,g2,g3⟩:=gen keys.toList all;refine qG ?_;clear qG;exact ⟨fs,g1,by simpa using g2,g3⟩
      refine aG fun _ qG=>?_;obtain ⟨fs,g1,g2,g3⟩:=kt;refine qG ?_;clear qG;have:=PySem.W.kat_kind (M:=model X.prog X.w) (A:=A) (E:=E) (s:=s) (T:=.type "int") (Q:=Q') g1 (by omega) (fun v hv=>by
        obtain ⟨n,t,rfl⟩:=g3 v hv;exact .now) rfl hq
      rw [Array.toArray_toList] at this;exact this
    · obtain ⟨i, hi⟩ := mem x hx
      exact all i x.1 hi
end
end L2
namespace L2
open PySem PySem.Spec PyProof.Rows
section
variable {X:Cx}{pins:List (Addr × Obj)}{σ:St}{H F:Hp}{s:Shared}{pr:Prt}{en:En}
theorem zqy {α:Type} [DecidableEq α] {β:Type}:∀{kl:List α}{ws:List β},kl.Nodup->∀x∈kl.zip ws,∀y∈kl.zip ws,x.1=y.1->x=y
  | [],_,_,x,hx,_,_,_=>by simp at hx
  | _::_,[],_,x,hx,_,_,_=>by simp at hx
  | k::kl,w::ws,nd,x,hx,y,hy,e=>by
    have n:=List.nodup_cons.mp nd;rw [List.zip_cons_cons] at hx hy;rcases List.mem_cons.mp hx with rfl | hx
    · rcases List.mem_cons.mp hy with rfl | hy
      · rfl
      · have := (List.of_mem_zip (a := y.1) (b := y.2) hy).1
        exact absurd (by rw [<-e] at this;exact this) n.1
    · rcases List.mem_cons.mp hy with rfl | hy
      · have := (List.of_mem_zip (a := x.1) (b := x.2) hx).1
        exact absurd (by rw [e] at this;exact this) n.1
      · exact zqy n.2 x hx y hy e
theorem zl7 {K:PySem.W.Frag}{F:Hp}{kf:Value->List Int}:∀{ku:List Value}{ws:List W}{vvs:List V}{vs:List Value},Vals vvs vs->Reps K F ws vvs->All2 (fun (z:KP) (x:Keyed)=>kf x.1=z.1/\∃v,RelV v x.2/\Rep K F z.2 v) ((ku.map kf).zip ws) (ku.zip vs)
 | [],_,_,_,_,_=>by simp;exact .nil
 | k::ku,_,_,_,.nil,.nil=>by simp;exact .nil
 | k::ku,_,_,_,.cons r rv,.cons h hr=>.cons ⟨rfl,_,r,h⟩ (zl7 rv hr)
theorem zl3 {K:PySem.W.Frag}{F:Hp}{kf:Value->List Int}:∀{zs:List KP}{r:List Keyed},All2 (fun (z:KP) (x:Keyed)=>kf x.1=z.1/\∃v,RelV v x.2/\Rep K F z.2 v) zs r->∃vs,Vals vs (r.map (·.2))/\Reps K F (zs.map (·.2)) vs
  | _,_,.nil=>⟨[],.nil,.nil⟩
  | _,_,.cons ⟨_,v,h1,h2⟩ t=>by
    obtain ⟨vs,a,b⟩:=zl3 t;exact ⟨v::vs,.cons h1 a,.cons h2 b⟩
noncomputable def zrx (ks ws out:List W):Prop:=∀{X:Cx}{pins:List (Addr × Obj)}{σ:St}{H F:Hp}{s:Shared}{keys:Array Value}{vs:List Value}{kvs vvs:List V}{A:Around}{E:Value->Shared->Prop},Inv X pins σ H s->Same F H->A.units+2 < cLine->Vals kvs keys.toList->Reps X.K F ks kvs->Vals vvs vs->Reps X.K F ws vvs->keys.size=vs.length ->
  ∃(κ:SortKind) (kf:Value->List Int) (bf le:Keyed->Keyed->Prop),(2<=vs.length->∀Q' : SortKind->Shared->Prop,Q' κ s->wpAny (model X.prog X.w) A (keyKind' keys) Q' E s)/\Tim.Asks X.prog X.w A E s κ (keys.zip vs.toArray) (fun x y=>lexI (kf x.1) (kf y.1))/\Tim.Ord (fun x y:Keyed=>lexI (kf x.1) (kf y.1)) bf le/\(∀c,Tim.Cut bf (keys.zip vs.toArray) c) /\
    ∀r:List Keyed,r.Perm (keys.toList.zip vs)->r.Pairwise le->∃ov,Vals ov (r.map (·.2))/\Reps X.K F out ov/\ov.length<=vs.length
theorem ztc {ks ws out:List W} (hs:zru ks ws=some out):zrx ks ws out:=by
 intro X pins σ H F s keys vs kvs vvs A E I sm hu rk rp rv rws hks;unfold zru at hs;obtain ⟨kl,hkl,hs⟩:=bS hs;split at hs
 ·rename_i dc;rw [Bool.and_eq_true] at dc;refine aG fun _ qG=>?_;obtain ⟨κ,kd,C,ekl⟩:=zue (A:=A) (E:=E) (vs:=vs) I sm hu rk rp hkl hks;refine qG ?_;clear qG;refine ⟨κ,kfV H,fun _ _=>True,_,kd,C,zxw _,fun _ _ _ _ _ _=>trivial,fun r pm pw=>?_⟩;obtain ⟨zs,p1,al2⟩:=All2.perm pm.symm (zl7 (K:=X.K) (F:=F) (kf:=kfV H) (ku:=keys.toList) rv rws);rw [ekl] at p1;have ps:zs.Pairwise leK:=All2.pair (P:=leK) (Q:=fun x y:Keyed=>lexI (kfV H y.1) (kfV H x.1)=false) (fun z x z' x' h1 h2 q=>by show lexI z'.1 z.1=false;rw [<-h1.1,<-h2.1];exact q) al2 pw;have ez:zs=zqb (kl.zip ws):=zgb (p1.symm.trans (zfx _).symm) ps (zd9 _) fun x hx y hy=>zqy (zfg dc.1) x (p1.symm.mem_iff.mp hx) y (p1.symm.mem_iff.mp hy);obtain ⟨ov,o1,o2⟩:=zl3 al2;have eo:out=zs.map (·.2):=by rw [ez];exact (sI hs).symm
  rw [<-eo] at o2;refine ⟨ov,o1,o2,?_⟩;have l0:=o2.length;have l1:=rv.length;have l2:=rws.length;have l3:=p1.length_eq;rw [List.length_zip] at l3;rw [eo,List.length_map] at l0;omega
 ·exact noSome hs
theorem zjb {prog:Program}{w:World}{A:Around}{E:Value->Shared->Prop}{s:Shared}{l:Addr}{vs:List Value}{Q:List Value->Shared->Prop}{T:String}{o:Obj}{n:Nat} (hT:T = "list"\/T = "tuple") (ho:s.heap.get? l=some o) (hc:o.cls=.type T) (hd:o.data=.seq vs.toArray n)
  (h:Q vs { s with heap:=(s.heap.push (seqObj "list" #[] 0)).update s.heap.objs.size (Obj.mapSeq (·++vs.toArray)) }) (hsz:vs.length<=sizeLine) :
  wpAny (model prog w) A (collect (.ref l)) Q E s:=by
 unfold collect;refine wpAny_bind (wpAny_runValue (codeAny_builtin entry_proto_collect' ?_));show wpAny _ _ (do again (.builtin "list.__iadd__" ⟨[<-newList [],.ref l],[]⟩)) _ _ s;refine wpAny_bind (wpAny_newList (wpAny_pure ⟨Code.quiet_builtin _ (by decide +kernel),codeAny_builtin entry_list_iadd' ?_⟩));show wpAny _ _ (Builtin.List.listExtendWith (.ref s.heap.objs.size) (.ref l) (.ref s.heap.objs.size)) _ _ { s with heap:=s.heap.push (seqObj "list" #[] 0) };unfold Builtin.List.listExtendWith;have ho' : (s.heap.push (seqObj "list" #[] 0)).get? l=some o:=Heap.get?_push_of_some _ ho;refine wpAny_bind (wpAny_typeOf (T:=T) ⟨o,ho',hc⟩ ?_);have ht:(Value.type T == Value.type "list" || Value.type T == Value.type "tuple")=true:=by rcases hT with rfl | rfl<;>rfl
 rw [if_pos (by rw [Bool.or_assoc,ht,Bool.or_true])];refine wpAny_bind (listItems_at ho' hd ?_);refine wpAny_bind (listItems_at (xs:=#[]) (n:=0) (Heap.get?_push_size _ rfl) rfl ?_);rw [if_neg (by simp)];refine wpAny_bind (listUpdate_at (xs:=#[]) (n:=0) (Heap.get?_push_size _ rfl) rfl ?_ (Nat.zero_le _) (by show (#[]++vs.toArray).size<=sizeLine+1;simp only [Array.size_append,List.size_toArray,List.length_nil];omega));refine wpAny_pure ?_;show wpAny (model prog w) A (do
   let o <- load s.heap.objs.size
   match o.data with
   | .seq xs _=>pure xs.toList
   | _=>unsupported "internal:collect") Q E { s with heap:=(s.heap.push (seqObj "list" #[] 0)).update s.heap.objs.size (Obj.mapSeq (·++vs.toArray)) }
 refine wpAny_bind (wpAny_load (get?_update_seq (Heap.get?_push_size _ rfl) _) ?_);show wpAny _ _ (pure ((#[]:Array Value)++vs.toArray).toList) Q E _;rw [show ((#[]:Array Value)++vs.toArray).toList=vs by simp];exact wpAny_pure h
theorem zoa {q l:Addr}{Φ:W->Option W}{Al:List (Addr × Obj)->Hp->Prop}{vvs:List V}{ws ks out:List W}{Q:VK}{E:Value->Shared->Prop} (KC:KCall X.inn (.ref q) Φ Al) (I:Inv X pins σ H s) (al:Al pins F) (R:Rel X.K F pr en σ H) (hl:SqL X.K H l vvs\/SqT X.K H l vvs) (rws:Reps X.K F ws vvs)
  (hk:mapO Φ ws=some ks) (hs:zrx ks ws out) (hu:X.A.units+4 < cLine) (h:∀F' H' v,Same F F'->Rel X.K F' pr en σ H'->Res X.K F' H' pr en σ (.lst out,true) v->Q v H') :
  wpAny (model X.prog X.w) X.A (call (.builtin "sorted") [.ref l] [(Str.ofString "key",.ref q)]) (EP X pins σ Q) E s:=by
 refine aG fun _ qG=>?_;obtain ⟨vs,rv,T,o,n,hT,ho,hc,hd,hz⟩ : ∃vs,Vals vvs vs/\∃T o n,(T = "list"\/T = "tuple")/\s.heap.get? l=some o/\o.cls=.type T/\o.data=.seq vs.toArray n/\vvs.length<=sizeLine:=by
  rcases hl with hq | hq
  ·obtain ⟨vs, rv, ⟨o, n, ho, hc, _, hd⟩, hz⟩ := I.list hq;exact ⟨vs,rv,_,o,n,.inl rfl,ho,hc,hd,hz⟩
  ·obtain ⟨vs, rv, ⟨o, ho, hc, n, hd⟩, hz⟩ := I.tuple hq;exact ⟨vs,rv,_,o,n,.inr rfl,ho,hc,hd,hz⟩
 refine qG ?_;clear qG;have lv:vvs.length=vs.length:=rv.length;have hz' : vs.length<=sizeLine:=by omega
 have lw:ws.length=vs.length:=by rw [rws.length,lv]
 have lk:ks.length=vs.length:=by rw [zem hk,lw]
 refine call_function_entry_kw kind_sorted plain_sorted entry_sorted (ksk_s1 _ _) ?_;unfold Builtin.«sorted»;refine wpAny_bind (m:=checkCount "sorted" 1 1 _) (wpAny_pure ?_);refine wpAny_bind (zjb hT ho hc hd ?_ hz');refine wpAny_bind (wpAny_newList ?_ hz');have hsz:((s.heap.push (seqObj "list" #[] 0)).update s.heap.objs.size (Obj.mapSeq (·++vs.toArray))).objs.size=s.heap.objs.size+1:=by
  rw [Heap.size_update,size_push']
 have hoL:(((s.heap.push (seqObj "list" #[] 0)).update s.heap.objs.size (Obj.mapSeq (·++vs.toArray))).push (seqObj "list" vs.toArray 0)).get? (s.heap.objs.size+1)=some (seqObj "list" vs.toArray 0):=by
  rw [<-hsz];exact Heap.get?_push_size _ rfl
 have keep:∀b o,s.heap.get? b=some o->(((s.heap.push (seqObj "list" #[] 0)).update s.heap.objs.size (Obj.mapSeq (·++vs.toArray))).push (seqObj "list" vs.toArray 0)).get? b=some o:=fun b o q=>by
  have hlt:b < s.heap.objs.size:=Heap.lt_size q;rw [Heap.get?_push_ne _ _ _ (by rw [hsz];exact Nat.ne_of_lt (Nat.lt_succ_of_lt hlt)),Heap.get?_update_ne _ _ _ _ (Nat.ne_of_lt hlt),Heap.get?_push_ne _ _ _ (Nat.ne_of_lt hlt)];exact q
 have hsz3:(((s.heap.push (seqObj "list" #[] 0)).update s.heap.objs.size (Obj.mapSeq (·++vs.toArray))).push (seqObj "list" vs.toArray 0)).objs.size=s.heap.objs.size+2:=by rw [size_push',hsz]
 show wpAny _ _ _ _ _ { s with heap:=((s.heap.push (seqObj "list" #[] 0)).update s.heap.objs.size (Obj.mapSeq (·++vs.toArray))).push (seqObj "list" vs.toArray 0) };rw [hsz];generalize ((s.heap.push (seqObj "list" #[] 0)).update s.heap.objs.size (Obj.mapSeq (·++vs.toArray))).push (seqObj "list" vs.toArray 0)=h3 at hoL keep hsz3 ⊢;obtain ⟨a,ea⟩ : ∃a,a=s.heap.objs.size+1:=⟨_,rfl⟩;rw [<-ea] at hoL ⊢;refine wpAny_bind (wpAny_holding (wpAny_call_entry_kw slot_list_sort ⟨_,hoL,rfl⟩ entry_list_sort ?body (ksk_l1 _ _)))
 case body =>
  show wpAny (model X.prog X.w) X.A.in1.in1 (Builtin.«list.sort» ⟨[.ref a],[(Str.ofString "key",.ref q)]⟩) _ _ _;rw [ksk_t1];have ha:a < h3.objs.size:=by omega
  have s1:=Heap.SameBut.update h3 a (Obj.mapSeq fun _=>(#[]:Array Value));obtain ⟨e1,ho1⟩ : ∃e1,(h3.update a (Obj.mapSeq fun _=>(#[]:Array Value))).get? a=some (seqObj "list" #[] e1):=⟨_,get?_update_seq hoL fun _=>#[]⟩;unfold ksk_tree;refine wpAny_bind (listItems_at hoL rfl ?_);refine wpAny_bind (listUpdate_at hoL rfl ?_ (by rw [List.size_toArray];omega) (Nat.zero_le _));refine wpAny_bind (seqEpoch_at ho1 rfl ?_);refine wpAny_bind (wpAny_newTuple ?_ hz');refine wpAny_bind (wpAny_newList ?_ (Nat.zero_le _));refine wpAny_holding ?_;have hz4:((h3.update a (Obj.mapSeq fun _=>(#[]:Array Value))).push (seqObj "tuple" vs.toArray 0)).objs.size=s.heap.objs.size+3:=by rw [size_push',Heap.size_update,hsz3]
  show wpAny _ _ (ksk_rest a (.ref q) false vs.toArray e1 (.ref ((h3.update a (Obj.mapSeq fun _=>(#[]:Array Value))).push (seqObj "tuple" vs.toArray 0)).objs.size)) _ _ { s with heap:=((h3.update a (Obj.mapSeq fun _=>(#[]:Array Value))).push (seqObj "tuple" vs.toArray 0)).push (seqObj "list" #[] 0) };obtain ⟨kS,ek⟩ : ∃kS,kS=((h3.update a (Obj.mapSeq fun _=>(#[]:Array Value))).push (seqObj "tuple" vs.toArray 0)).objs.size:=⟨_,rfl⟩;rw [<-ek] at hz4 ⊢;have kp6:∀b o,s.heap.get? b=some o->(((h3.update a (Obj.mapSeq fun _=>(#[]:Array Value))).push (seqObj "tuple" vs.toArray 0)).push (seqObj "list" #[] 0)).get? b=some o:=fun b o eb=>by
   refine Heap.get?_push_of_some _ (Heap.get?_push_of_some _ ?_);have hlt:b < s.heap.objs.size:=Heap.lt_size eb;exact (s1.2 b (Nat.ne_of_lt (by rw [ea];exact Nat.lt_succ_of_lt hlt))).trans (keep b o eb)
  have ga:(((h3.update a (Obj.mapSeq fun _=>(#[]:Array Value))).push (seqObj "tuple" vs.toArray 0)).push (seqObj "list" #[] 0)).get? a=some (seqObj "list" #[] e1):=Heap.get?_push_of_some _ (Heap.get?_push_of_some _ ho1);have gk:(((h3.update a (Obj.mapSeq fun _=>(#[]:Array Value))).push (seqObj "tuple" vs.toArray 0)).push (seqObj "list" #[] 0)).get? kS=some (seqObj "list" #[] 0):=by rw [ek];exact Heap.get?_push_size _ rfl
  generalize ((h3.update a (Obj.mapSeq fun _=>(#[]:Array Value))).push (seqObj "tuple" vs.toArray 0)).push (seqObj "list" #[] 0)=h6 at kp6 ga gk ⊢;have na:H a=none:=I.hok.fresh (by omega);have nk:H kS=none:=I.hok.fresh (by omega);have pa:Apart X pins a:=(I.fpOk (H':=H) (by omega) na).apart;have pk:Apart X pins kS:=(I.fpOk (H':=H) (by omega) nk).apart;have hak:kS≠a:=by omega
  have pk' : Apart X ((a,seqObj "list" #[] e1)::pins) kS:=⟨pk.l,pk.f,pk.x,pk.c,fun p hp=>by
   rcases List.mem_append.mp hp with z | z
   ·exact pk.p p (List.mem_append_left _ z)
   ·rcases List.mem_cons.mp z with rfl | z
    ·exact hak.symm
    ·exact pk.p p (List.mem_append_right _ z)⟩
  have I6:Inv X pins σ H { s with heap:=h6 }:=I.kept (t':=s.toks) kp6;have I7:Inv X ((kS,seqObj "list" #[] 0)::(a,seqObj "list" #[] e1)::pins) σ H { s with heap:=h6 }:=I6.pins_of fun p hp=>by
   rcases List.mem_cons.mp hp with rfl | hp
   ·exact ⟨gk,nk,pk.l,pk.f,fun v z=>by cases z⟩
   ·rcases List.mem_cons.mp hp with rfl | hp
    ·exact ⟨ga,na,pa.l,pa.f,fun v z=>by cases z⟩
    ·exact I6.pin p (List.mem_append_right _ hp)
  refine zvl (X:=X.inn) (pins:=pins) KC I7.inn al R rv rws hk hz' ⟨pk'.l,pk'.f,pk'.x,pk'.c,pk'.p⟩ fun s' H' F' keys e kvs I8 s8 R8 rk rp=>?_;have I8':=I8.out;refine aG fun _ qG=>?_;obtain ⟨g1,g2,_⟩:=I8'.pin (kS,seqObj "list" keys e) (List.mem_append_right _ List.mem_cons_self);obtain ⟨g3,g4,_⟩:=I8'.pin (a,seqObj "list" #[] e1) (List.mem_append_right _ (List.mem_cons_of_mem _ List.mem_cons_self));refine qG ?_;clear qG;have hks:keys.size=vs.length:=by
   have a1:kvs.length=keys.size:=rk.length.trans Array.length_toList;have a2:ks.length=kvs.length:=rp.length;omega
  refine aG fun _ qG=>?_;obtain ⟨κ,kf,bf,le,kd,C,O,hb,fn⟩:=hs (A:=X.A.in1.in1) (E:=E) (vs:=vs) I8' R8.sub (by show X.A.units+1+1+2 < cLine;omega) rk rp rv (rws.mono s8) hks;refine qG ?_;clear qG;refine zze (kf:=kf) O hb g1 g3 hak hks hz' kd C fun r h' c pm pw ga' kp'=>⟨_,rfl,?_⟩;obtain ⟨ov,o1,o2,lo⟩:=fn r pm pw;have lo:ov.length<=sizeLine:=by omega
  have I9:Inv X pins σ H' s':=I8'.pins_of fun p hp=>I8'.pin p (List.mem_append_right _ (List.mem_cons_of_mem _ (List.mem_cons_of_mem _ hp)));have I10:Inv X pins σ (upd H' a (.lst ov)) { s' with heap:=h' }:=I9.adopt (t':=s'.toks) (ch:=[a,kS]) (fun b o hb eb=>kp' b o (fun z=>hb (by simp [z])) (fun z=>hb (by simp [z])) eb) (fun b hb=>by
   rcases List.mem_cons.mp hb with rfl | hb
   ·exact pa.fp g4
   ·rw [List.mem_singleton.mp hb];exact pk.fp g2) List.mem_cons_self ⟨lo,r.map (·.2),c,o1,ga'⟩
  refine wpAny_pure ⟨_,rfl,.ref a,_,I10,rfl,?_⟩;refine aG fun _ qG=>?_;obtain ⟨F9,s9,R9,y9⟩:=(Out.lst (K:=X.K) (F:=F') (H:=H') (p:=a) g4 o2).close R8;refine qG ?_;clear qG;exact h F9 _ _ (s8.trans s9) R9 y9
end
end L2
namespace L2
open PySem PySem.Spec PyProof.Rows
open Classical in
section
variable {K:PySem.W.Frag}{F H:Hp}
end
end L2
namespace L2
open PySem PySem.Spec PyProof.Rows
section
variable {prog:Program}{w:World}{A:Around}{E:Value->Shared->Prop}{s:Shared}{a:Addr}{vs:List Value}{P:PySem.Fin->Shared->Prop}
end
section
variable {X:Cx}
end
end L2
namespace L2
open PySem PySem.Spec PyProof.Rows
structure Sx where
 N:List Str
 kd:List (Str × NameKind)
 bn:List Str
 fs:List (Str × (List Bool × Fn))
 mp:List Nat
 top:Bool
 nm:Str := ""
 dp:Nat:=0
noncomputable def Sx.rd (S:Sx) (x:Str):Option Nat:=if x == ("__debug__" : Str) || x == ("__classdict__" : Str) then none else match S.kd.lookup x with
 | some .local=>S.N.findIdx? (· == x)
 | some .cell=>S.N.findIdx? (· == x)
 | some .free=>S.N.findIdx? (· == x)
 | _=>none
noncomputable def Sx.wr (S:Sx) (x:Str):Option Nat:=match S.kd.lookup x with
 | some .local=>S.N.findIdx? (· == x)
 | some .cell=>S.N.findIdx? (· == x)
 | _=>none
noncomputable def Sx.bl (S:Sx) (x:Str):Bool:=S.kd.lookup x == some .globalImplicit && S.bn.contains x
structure CxOk (X:Cx) (S:Sx) (d:Nat):Prop where
 N:X.N=S.N
 nd:S.N.Nodup
 loc:∀x,S.kd.lookup x=some .local->X.env.scope.names.lookup x=some .local
 cel:∀x,S.kd.lookup x=some .cell->X.env.scope.names.lookup x=some .cell/\X.fn x=true
 vis:∀x,S.kd.lookup x=some .cell\/S.kd.lookup x=some .free->X.env.scope.names.lookup x=some .cell\/X.env.scope.names.lookup x=some .free
 gl:∀x,S.kd.lookup x=some .globalImplicit->Gl X x
 calm:X.calm=true
 xe:X.xe=fun _ _=>False
 bn:∀x∈S.bn,X.mg x=none
 fs:∀x m Φ,S.fs.lookup x=some (m,Φ)->∃ps,ps.length=m.length/\Cal X.prog X.w X.K X.mg X.base d x ps (spF X.K m Φ)
 room:Room d X.A
 sl:X.A.units+16 * d+205 < cLine
 bk:X.env.blockKind=.function
 lam:S.nm∈lams->∃c P,PySem.W.tabIn X.K S.nm=some (c,P)/\PySem.W.codeHdIn X.K c P=true/\X.env.code=.ref c/\X.env.qual=S.nm++".<locals>."
 dpo:S.dp<=d
 sg:("g SIGNS" : Str)∈S.bn->∃t,X.mg "SIGNS" = some (.str "abcdef" t)
theorem ze6 {N:List Str}{x:Str}{i:Nat} (h:N.findIdx? (· == x)=some i):N[i]?=some x:=by
 obtain ⟨hl,h1,_⟩:=List.findIdx?_eq_some_iff_getElem.mp h;rw [List.getElem?_eq_getElem hl];have:N[i]=x:=by simpa using h1
 rw [this]
section
variable {X:Cx}{S:Sx}{d:Nat}
theorem zsg (C:CxOk X S d) {x:Str}{i:Nat}{pos:Pos} (h:S.rd x=some i):PE X (.Name x pos) (tVar i):=by
 unfold Sx.rd at h;split at h
 ·exact noSome h
 ·rename_i z;rw [Bool.or_eq_true,not_or,Bool.not_eq_true,Bool.not_eq_true] at z;split at h
  ·rename_i e;exact zq6 (by rw [C.N];exact ze6 h) (.inl (C.loc x e)) z.1 z.2
  ·rename_i e;exact zq6 (by rw [C.N];exact ze6 h) (.inr (C.vis x (.inl e))) z.1 z.2
  ·rename_i e;exact zq6 (by rw [C.N];exact ze6 h) (.inr (C.vis x (.inr e))) z.1 z.2
  ·exact noSome h
theorem z0g (C:CxOk X S d) {x:Str}{i:Nat} (h:S.wr x=some i):X.N[i]?=some x/\Loc X.env.scope x/\(X.fn x=true\/X.env.scope.names.lookup x=some .local):=by
 unfold Sx.wr at h;split at h
 ·rename_i e;exact ⟨by rw [C.N];exact ze6 h,.inl (C.loc x e),.inr (C.loc x e)⟩
 ·rename_i e;exact ⟨by rw [C.N];exact ze6 h,.inr (C.cel x e).1,.inl (C.cel x e).2⟩
 ·exact noSome h
theorem zed (C:CxOk X S d) {x:Str} (h:S.bl x=true):Gl X x/\X.mg x=none:=by
 unfold Sx.bl at h;rw [Bool.and_eq_true] at h;exact ⟨C.gl x (by simpa using h.1),C.bn x (by simpa using h.2)⟩
theorem ndN (C:CxOk X S d):X.N.Nodup:=by rw [C.N];exact C.nd
end
noncomputable def zf3:Expr->Bool
 | .Set ..=>false
 | _=>true
noncomputable def zbk:Expr->Bool
 | .Slice ..=>false
 | _=>true
noncomputable def ze1:Expr->Bool
 | .ListComp ..=>false
 | .SetComp ..=>false
 | .DictComp ..=>false
 | _=>true
noncomputable def zmw:Expr->Bool
 | .UnaryOp .Not _ _=>false
 | .BoolOp ..=>false
 | .IfExp ..=>false
 | .Compare ..=>false
 | _=>true
theorem zde {e:Expr}{env:Env} (h:zf3 e=true):∀x,foldedSetIterable e env x=pure x:=by
 intro x;cases e<;>first | rfl | (cases h)
theorem zgm {op:CmpOp}{e:Expr} (h:zf3 e=true):behindInMarks op e=false:=by
 cases e<;>first | rfl | (cases h)
theorem zjo {op op' : CmpOp}{b c:Expr} (h:zf3 c=true):lastMarks [op,op'] [b,c]=false:=zgm h
theorem zd2 {e:Expr} (h:zbk e=true):zow e:=fun o i=>by
 cases e<;>first | rfl | (cases h)
theorem zmk {e:Expr}{t:Option Expr}{l:Nat}{env:Env} (h:ze1 e=true):swapsWith e t l env=pure false:=by
 cases e<;>first | rfl | (cases h)
theorem znz {e:Expr}{env:Env} (h:zmw e=true):∀whole,isTrue e env whole=(do let v <- whole;standAt e.pos;holding [v] (truthy v)):=by
 intro whole;cases e with
 | UnaryOp op _ _=>cases op<;>first | rfl | (cases h)
 | _=>first | rfl | (cases h)
theorem zgg {es:List Expr}{env:Env}{pos:Pos} (h:es.all zaf=true):(backTo pos (starEach es env)).any (·.1)=false:=by
  induction es with
  | nil=>rfl
  | cons e es ih =>
    rw [List.all_cons,Bool.and_eq_true] at h;rw [zad h.1];show (false || (backTo pos (starEach es env)).any (·.1))=false;rw [ih h.2]
    rfl
noncomputable def cPow (i j:Int):Bool:=decide (0<=j) && decide (j<=1000000) && decide (i.natAbs < 2 ^ 64)
noncomputable def cMul (i j:Int):Bool:=(decide (-(2 ^ 64) < i) && decide (i < 2 ^ 64)) || (decide (-(2 ^ 64) < j) && decide (j < 2 ^ 64))
noncomputable def zoc (i j:Int):Bool:=decide (Builtin.Int.intBits i<=2 ^ 20) && decide (Builtin.Int.intBits j<=2 ^ 20)
noncomputable def cDiv (i j:Int):Bool:=decide (0 < j) && decide (j.natAbs.log2 < 9000)
noncomputable def yes2 (_ _:Int):Bool:=true
noncomputable def oAdd:O2:=oOr (oI yes2 fun i j=>.int (i+j)) (oOr oCat (oOr ztr (oOr z0k zvr)))
noncomputable def oMult:O2:=oOr (oI cMul fun i j=>.int (i * j)) (oOr (oI zoc fun i j=>.int (i * j)) oRep)
noncomputable def binO:Operator->Option O2
 | .Add=>some oAdd
 | .Sub=>some (oI yes2 fun i j=>.int (i - j))
 | .Mult=>some oMult
 | .FloorDiv=>some (oI cDiv fun i j=>.int (i / j))
 | .Mod=>some (oI (fun _ j=>decide (0 < j)) fun i j=>.int (i % j))
 | .Pow=>some (oI cPow fun i j=>.int (i ^ j.toNat))
 | .LShift=>some (oI cPow fun i j=>.int (i * 2 ^ j.toNat))
 | .RShift=>some (oI (fun _ j=>decide (0<=j)) fun i j=>.int (i / 2 ^ j.toNat))
 | .BitAnd=>some (oI yes2 fun i j=>.int (Builtin.bitAnd i j))
 | .BitOr=>some (oI yes2 fun i j=>.int (Builtin.bitOr i j))
 | .BitXor=>some (oI yes2 fun i j=>.int (Builtin.bitXor i j))
 | _=>none
theorem zr5 {i j:Int} (h:cPow i j=true):CPow i j:=by
 unfold cPow at h;rw [Bool.and_eq_true,Bool.and_eq_true] at h;exact ⟨of_decide_eq_true h.1.1,of_decide_eq_true h.1.2,of_decide_eq_true h.2⟩
theorem zyu {i j:Int} (h:cMul i j=true):CMul i j:=by
 unfold cMul at h;rw [Bool.or_eq_true,Bool.and_eq_true,Bool.and_eq_true] at h;rcases h with h | h
 ·exact .inl ⟨of_decide_eq_true h.1,of_decide_eq_true h.2⟩
 ·exact .inr ⟨of_decide_eq_true h.1,of_decide_eq_true h.2⟩
theorem ztm {i j:Int} (h:zoc i j=true):z0m i j:=by
 unfold zoc at h;rw [Bool.and_eq_true] at h;exact ⟨of_decide_eq_true h.1,of_decide_eq_true h.2⟩
theorem zy5 {i j:Int} (h:cDiv i j=true):0 < j/\j.natAbs.log2 < 9000:=by
 unfold cDiv at h;rw [Bool.and_eq_true] at h;exact ⟨of_decide_eq_true h.1,of_decide_eq_true h.2⟩
section
variable {X:Cx}
theorem zxn {op:Operator}{o:O2} (h:binO op=some o):∃r,OpR X (binaryOp op) r/\OpS X.K r o:=by
 cases op with
 | Add=>obtain rfl:=sI h;exact ⟨_,z2u.or (z05.or (zxy.or (zxm.or znm))),(zdc fun _ _ _=>.int _).or (zyt.or (zt0.or (zuj.or ztp)))⟩
 | Sub=>obtain rfl:=sI h;exact ⟨_,z01,zdc fun _ _ _=>.int _⟩
 | Mult=>obtain rfl:=sI h;exact ⟨_,z20.or (zzs.or z2b),(zlr (fun _ _=>zyu) fun _ _ _=>.int _).or ((zlr (fun _ _=>ztm) fun _ _ _=>.int _).or zxu)⟩
 | FloorDiv=>obtain rfl:=sI h;exact ⟨_,zvx,zlr (fun _ _=>zy5) fun _ _ _=>.int _⟩
 | Mod=>obtain rfl:=sI h;exact ⟨_,z17,zlr (fun _ _=>of_decide_eq_true) fun _ _ _=>.int _⟩
 | Pow=>obtain rfl:=sI h;exact ⟨_,z32,zlr (fun _ _=>zr5) fun _ _ _=>.int _⟩
 | LShift=>obtain rfl:=sI h;exact ⟨_,z1q,zlr (fun _ _=>zr5) fun _ _ _=>.int _⟩
 | RShift=>obtain rfl:=sI h;exact ⟨_,z2z,zlr (fun _ _=>of_decide_eq_true) fun _ _ _=>.int _⟩
 | BitAnd=>obtain rfl:=sI h;exact ⟨_,z1r,zdc fun _ _ _=>.int _⟩
 | BitOr=>obtain rfl:=sI h;exact ⟨_,z5a,zdc fun _ _ _=>.int _⟩
 | BitXor=>obtain rfl:=sI h;exact ⟨_,z1c,zdc fun _ _ _=>.int _⟩
 | _=>exact noSome h
noncomputable def cmpO:CmpOp->Option O2
 | .Eq=>some oEq
 | .NotEq=>some oNe
 | .Lt=>some (oI yes2 fun i j=>.bl (decide (i < j)))
 | .LtE=>some (oI yes2 fun i j=>.bl (decide (i<=j)))
 | .Gt=>some (oI yes2 fun i j=>.bl (decide (j < i)))
 | .GtE=>some (oI yes2 fun i j=>.bl (decide (j<=i)))
 | _=>none
theorem zks {kr:Nat} (hr:Room kr X.A) {op:CmpOp}{o:O2} (h:cmpO op=some o):∃r,OpR X (compareOp op) r/\OpS X.K r o:=by
 cases op with
 | Eq=>obtain rfl:=sI h;exact ⟨_,.or z4v (z0y hr),z0o⟩
 | NotEq=>obtain rfl:=sI h;exact ⟨_,.or z4i (z1b hr),z23⟩
 | Lt=>obtain rfl:=sI h;exact ⟨_,z2k,zdc fun _ _ _=>.bl _⟩
 | LtE=>obtain rfl:=sI h;exact ⟨_,z4z,zdc fun _ _ _=>.bl _⟩
 | Gt=>obtain rfl:=sI h;exact ⟨_,z4q,zdc fun _ _ _=>.bl _⟩
 | GtE=>obtain rfl:=sI h;exact ⟨_,z5h,zdc fun _ _ _=>.bl _⟩
 | _=>exact noSome h
end
noncomputable def zap (f:Sx->Expr->Option GE) (S:Sx) (e:Expr):Option GA:=match e with
 | .Name x _=>(S.rd x).bind fun i=>some (zaa i)
 | _=>(f S e).bind fun g=>some (gArg g)
noncomputable def asL (f:Expr->Option GA):List Expr->Option GAs
 | []=>some gA0
 | e::es=>if zaf e then (f e).bind fun a=>(asL f es).bind fun as=>some (gCns a as) else none
noncomputable def asM (f:Sx->Expr->Option GE) (S:Sx):List Expr->List Bool->Option GAs
 | [],[]=>some gA0
 | e::es,b::m=>if zaf e then (if b then zap f S e else (f S e).bind fun g=>some (gArg g)).bind fun a=>(asM f S es m).bind fun as=>some (gCns a as) else none
 | _,_=>none
noncomputable def za2 (f:Sx->Expr->Option GE):Prop:=∀X S d,CxOk X S d->∀e g,f S e=some g->PE X e (tE X.K g)
noncomputable def zix (f:Sx->Expr->Option GT):Prop:=∀X S d,CxOk X S d->∀e g,f S e=some g->PT X e (tT X.K g)
section
variable {X:Cx}{S:Sx}{d:Nat}{f:Sx->Expr->Option GE}
theorem zac (Hf:za2 f) (C:CxOk X S d) {e:Expr}{a:GA} (h:zap f S e=some a):PE X e (tA X.K a):=by
 unfold zap at h;split at h
 ·obtain ⟨i, hi, h⟩ := bS h;obtain rfl:=sI h;exact (zsg C hi).wk fun _ _ _=>zpv
 ·obtain ⟨g, hg, h⟩ := bS h;obtain rfl:=sI h;exact (Hf X S d C _ _ hg).wk fun _ _ _=>zet
theorem zff {fa:Expr->Option GA} (Hf:∀e a,fa e=some a->PE X e (tA X.K a)):∀{es:List Expr}{as:GAs},asL fa es=some as->PA X es (tAs X.K as)/\es.all zaf=true
  | [],_,h=>by obtain rfl:=sI h;exact ⟨zbt.wk fun _ _ _=>zmn,rfl⟩
  | e::es,_,h=>by
    unfold asL at h;split at h
    · rename_i z
      obtain ⟨a,ha,h⟩:=bS h;obtain ⟨as,has,h⟩:=bS h;obtain rfl:=sI h;obtain ⟨p,q⟩:=zff Hf has;exact ⟨(pac (Hf e a ha) p z).wk fun _ _ _=>zm9,by rw [List.all_cons,z,q];rfl⟩
    · exact noSome h
theorem zw2 (Hf:za2 f) (C:CxOk X S d):∀{es:List Expr}{m:List Bool}{as:GAs},asM f S es m=some as->PA X es (tAs X.K as)/\es.all zaf=true
  | [],[],_,h=>by obtain rfl:=sI h;exact ⟨zbt.wk fun _ _ _=>zmn,rfl⟩
  | e::es,b::m,_,h=>by
    unfold asM at h;split at h
    · rename_i z
      obtain ⟨a,ha,h⟩:=bS h;obtain ⟨as,has,h⟩:=bS h;obtain rfl:=sI h;obtain ⟨p,q⟩:=zw2 Hf C has;have pe:PE X e (tA X.K a):=by
        cases b with
        | true=>exact zac Hf C (by simpa using ha)
        | false =>
          obtain ⟨g,hg,ha⟩:=bS (show (f S e).bind _=some a from by simpa using ha);obtain rfl:=sI ha;exact (Hf X S d C _ _ hg).wk fun _ _ _=>zet
      exact ⟨(pac pe p z).wk fun _ _ _=>zm9,by rw [List.all_cons,z,q];rfl⟩
    · exact noSome h
  | [],_::_,_,h=>by exact noSome h
  | _::_,[],_,h=>by exact noSome h
end
noncomputable def cmpE (f:Sx->Expr->Option GE) (S:Sx) (a:Expr) (ops:List CmpOp) (cs:List Expr):Option GE:=match ops,cs with
 | [op],[b]=>if zf3 b then (zap f S a).bind fun x=>(zap f S b).bind fun y=>(cmpO op).bind fun o=>some (gOp2 o x y) else none
 | [op,op'],[b,c]=>if zf3 c then (zap f S a).bind fun x=>(zap f S b).bind fun y=>(zap f S c).bind fun z=>(cmpO op).bind fun o=>(cmpO op').bind fun o'=>some (zh2 o o' x y z) else none
 | _,_=>none
noncomputable def z0e (f:Expr->Option GE) (op:BoolOp):Expr->List Expr->Option GE
 | v,[]=>f v
 | v,u::us=>match op with | .And=>(f v).bind fun a=>(z0e f op u us).bind fun b=>some (gAnd a b) | .Or=>none
noncomputable def zxx (f:Expr->Option GT) (op:BoolOp):Expr->List Expr->Option GT
 | v,[]=>f v
 | v,u::us=>(f v).bind fun a=>(zxx f op u us).bind fun b=>some (match op with | .And=>zfe a b | .Or=>gOrT a b)
section
variable {X:Cx}{S:Sx}{d:Nat}{f:Sx->Expr->Option GE}
theorem zy0 (Hf:za2 f) (C:CxOk X S d) {a:Expr}{ops:List CmpOp}{cs:List Expr}{g:GE}{pos:Pos} (h:cmpE f S a ops cs=some g):PE X (.Compare a ops cs pos) (tE X.K g)/\PT X (.Compare a ops cs pos) (tT X.K (zah g)):=by
 unfold cmpE at h;split at h
 ·rename_i op b;split at h
  ·rename_i z;refine aG fun _ qG=>?_;obtain ⟨x,hx,h⟩:=bS h;obtain ⟨y,hy,h⟩:=bS h;obtain ⟨o,ho,h⟩:=bS h;refine qG ?_;clear qG;obtain rfl:=sI h;obtain ⟨r,h1,h2⟩:=zks (X:=X) C.room ho;exact ⟨(zqi h1 (zac Hf C hx) (zac Hf C hy) (zgm z)).wk fun _ _ _=>zbh h2,(zph h1 (zac Hf C hx) (zac Hf C hy) (zgm z)).wk fun _ _ _=>zdm fun _ _ _=>zbh h2⟩
  ·exact noSome h
 ·rename_i op op' b c;split at h
  ·rename_i z;refine aG fun _ qG=>?_;obtain ⟨x,hx,h⟩:=bS h;obtain ⟨y,hy,h⟩:=bS h;obtain ⟨w,hw,h⟩:=bS h;obtain ⟨o,ho,h⟩:=bS h;obtain ⟨o',ho',h⟩:=bS h;refine qG ?_;clear qG;obtain rfl:=sI h;refine aG fun _ qG=>?_;obtain ⟨r,h1,h2⟩:=zks (X:=X) C.room ho;obtain ⟨r',h1',h2'⟩:=zks (X:=X) C.room ho';refine qG ?_;clear qG;exact ⟨(zt4 h1 h1' (zac Hf C hx) (zac Hf C hy) (zac Hf C hw) (zjo z)).wk fun _ _ _=>zfz h2 h2',(zul h1 h1' (zac Hf C hx) (zac Hf C hy) (zac Hf C hw) (zjo z)).wk fun _ _ _=>zdm fun _ _ _=>zfz h2 h2'⟩
  ·exact noSome h
 ·exact noSome h
theorem zma {fe:Expr->Option GE} (Hf:∀e g,fe e=some g->PE X e (tE X.K g)) {op:BoolOp}{pos:Pos}:∀{v:Expr}{vs:List Expr}{g:GE},z0e fe op v vs=some g->PE X (.BoolOp op (v::vs) pos) (tE X.K g)
  | v,[],g,h=>zw0 (Hf v g h)
  | v,u::us,g,h=>by
    cases op with
    | And =>
      obtain ⟨a,ha,h⟩:=bS h;obtain ⟨b,hb,h⟩:=bS h;obtain rfl:=sI h;exact (z3p (Hf v a ha) (zma Hf hb)).wk fun _ _ _=>zvd
    | Or=>exact noSome h
theorem zhm {fe:Expr->Option GT} (Hf:∀e g,fe e=some g->PT X e (tT X.K g)) {op:BoolOp}{pos:Pos}:∀{v:Expr}{vs:List Expr}{g:GT},zxx fe op v vs=some g->PW X (.BoolOp op (v::vs) pos) (tT X.K g)
  | v,[],g,h=>by
    cases op with
    | And=>exact zxz (Hf v g h)
    | Or=>exact z15 (Hf v g h)
  | v,u::us,g,h=>by
    obtain ⟨a,ha,h⟩:=bS h;obtain ⟨b,hb,h⟩:=bS h;obtain rfl:=sI h;cases op with
    | And=>exact (z02 (Hf v a ha) (zhm Hf hb)).wk fun _ _ _=>zo7
    | Or=>exact (z38 (Hf v a ha) (zhm Hf hb)).wk fun _ _ _=>zvp
end
end L2
namespace L2
open PySem PySem.Spec PyProof.Rows
theorem z3u:bootBuiltins "min" = some (.builtin "min"):=by decide +kernel
theorem zp2:bootBuiltins "repr" = some (.builtin "repr"):=by decide +kernel
theorem z2d:bootBuiltins "max" = some (.builtin "max"):=by decide +kernel
noncomputable def bltO (x:Str):Option ON :=
 if x == ("len" : Str) then some oLen else if x == ("abs" : Str) then some oAbs else if x == ("int" : Str) then some oInt else if x == ("tuple" : Str) then some ze0 else if x == ("all" : Str) then some (oBl fun bs=>bs.all id) else if x == ("any" : Str) then some (oBl fun bs=>bs.any id)
 else if x == ("min" : Str) then some oMin else if x == ("max" : Str) then some oMax else none
section
variable {X:Cx}{S:Sx}{d:Nat}
set_option maxHeartbeats 4000000 in
theorem zzd (C:CxOk X S d) {x:Str}{o:ON}{e:Expr}{es:List Expr}{t:TA}{p pos:Pos} (hb:S.bl x=true) (h:bltO x=some o) (ha:PA X (e::es) t) (hst:(e::es).all zaf=true):∃r,PE X (.Call (.Name x p) (e::es) [] pos) (tCB r t)/\OpSN X.K r o:=by
 obtain ⟨g,m⟩:=zed C hb;rw [List.all_cons,Bool.and_eq_true] at hst;have s1:=zad (env:=X.env) (es:=es) hst.1;have s2:=zgg (env:=X.env) (pos:=pos) hst.2;unfold bltO at h;split at h
 ·rename_i z;obtain rfl:=sI h;have e:=eq_of_beq z;subst e;exact ⟨_,za5 zd7 g m zv6 ha (by decide) (by decide) s1 s2,oLen_ok⟩
 split at h
 ·rename_i z;obtain rfl:=sI h;have e:=eq_of_beq z;subst e;exact ⟨_,za5 zun g m z1k ha (by decide) (by decide) s1 s2,zxi⟩
 split at h
 ·rename_i z;obtain rfl:=sI h;have e:=eq_of_beq z;subst e;exact ⟨_,zhu zrp g m zwr ha (by decide) (by decide) s1 s2,zzq⟩
 split at h
 ·rename_i z;obtain rfl:=sI h;have e:=eq_of_beq z;subst e;exact ⟨_,zhu zhg g m zmo ha (by decide) (by decide) s1 s2,zo4⟩
 split at h
 ·rename_i z;obtain rfl:=sI h;have e:=eq_of_beq z;subst e;exact ⟨_,za5 (zsz C.calm) g m z29 ha (by decide) (by decide) s1 s2,zwj⟩
 split at h
 ·rename_i z;obtain rfl:=sI h;have e:=eq_of_beq z;subst e;exact ⟨_,za5 (zvy C.calm) g m z3g ha (by decide) (by decide) s1 s2,zwj⟩
 split at h
 ·rename_i z;obtain rfl:=sI h;have e:=eq_of_beq z;subst e;exact ⟨_,za5 (zr9 C.calm) g m z3u ha (by decide) (by decide) s1 s2,zyf⟩
 split at h
 ·rename_i z;obtain rfl:=sI h;have e:=eq_of_beq z;subst e;exact ⟨_,za5 (zqw C.calm) g m z2d ha (by decide) (by decide) s1 s2,zyn⟩
 exact noSome h
noncomputable def zzx (x:Str):Option ON:=if x == ("repr" : Str) then some zlg else bltO x
theorem zub (C:CxOk X S d) {x:Str}{o:ON}{e:Expr}{es:List Expr}{t:TA}{p pos:Pos} (hb:S.bl x=true) (h:zzx x=some o) (ha:PA X (e::es) t) (hst:(e::es).all zaf=true):∃r,PE X (.Call (.Name x p) (e::es) [] pos) (tCB r t)/\OpSN X.K r o:=by
 unfold zzx at h;split at h
 ·rename_i z;obtain rfl:=sI h;have e:=eq_of_beq z;subst e;obtain ⟨g,m⟩:=zed C hb;rw [List.all_cons,Bool.and_eq_true] at hst;exact ⟨_,za5 (zju C.room) g m zp2 ha (by decide) (by decide) (zad hst.1) (zgg hst.2),oRepr_ok⟩
 ·exact zzd C hb h ha hst
end
noncomputable def kdOf (x:Str):Option Kd:=if x == ("int" : Str) then some .int else if x == ("bool" : Str) then some .bool else if x == ("str" : Str) then some .str else if x == ("tuple" : Str) then some .tuple else if x == ("list" : Str) then some .list else none
theorem zxl {x:Str}{k:Kd} (h:kdOf x=some k):bootBuiltins x=some (.type k.nm)/\x≠("__name__" : Str)/\(x == ("__debug__" : Str))=false:=by
 unfold kdOf at h;split at h
 ·rename_i z;obtain rfl:=sI h;have e:=eq_of_beq z;subst e;exact ⟨zwr,by decide,by decide⟩
 split at h
 ·rename_i z;obtain rfl:=sI h;have e:=eq_of_beq z;subst e;exact ⟨zxk,by decide,by decide⟩
 split at h
 ·rename_i z;obtain rfl:=sI h;have e:=eq_of_beq z;subst e;exact ⟨z3z,by decide,by decide⟩
 split at h
 ·rename_i z;obtain rfl:=sI h;have e:=eq_of_beq z;subst e;exact ⟨zmo,by decide,by decide⟩
 split at h
 ·rename_i z;obtain rfl:=sI h;have e:=eq_of_beq z;subst e;exact ⟨zxp,by decide,by decide⟩
 exact noSome h
noncomputable def zfl:Expr->Bool
 | .Call _ _ _ _=>true
 | _=>false
theorem zhl {o:Expr}{a:Str}{env:Env}{w:Sem Value} (h:zfl o=false):attributeBase o a env w=w:=by
 cases o<;>first | rfl | (cases h)
noncomputable def zzi (f:Sx->Expr->Option GE) (S:Sx) (o:Expr) (name:Str) (apos:Pos) (args:List Expr) (cpos:Pos):Option GE :=
  if !(apos.endLine == cpos.line) || zfl o then none else match args with
  | [e]=>if !zaf e then none else match o with
    | .Name x _=>(S.rd x).bind fun i=>(f S e).bind fun g=>if name == ("append" : Str) then some (gApp i g) else none
    | _=>none
  | _=>none
theorem zgn {e:Expr}{env:Env}{cpos:Pos} (h:zaf e=true):((backTo cpos (starEach [e] env)).all (fun x=>!x.1) && (backToKw cpos (keywordEach [] env)).all (fun x=>x.1.isSome) && decide (([e]:List Expr).length+([]:List Keyword).length+(if ([]:List Keyword).isEmpty then 0 else 1) < 30))=true:=by
 rw [zad h];rfl
section
variable {X:Cx}{S:Sx}{d:Nat}{f:Sx->Expr->Option GE}
theorem zs9 (Hf:za2 f) (C:CxOk X S d) {o:Expr}{name:Str}{apos cpos:Pos}{args:List Expr}{g:GE} (h:zzi f S o name apos args cpos=some g):PE X (.Call (.Attribute o name apos) args [] cpos) (tE X.K g):=by
 unfold zzi at h;split at h
 ·exact noSome h
 ·rename_i z;rw [Bool.or_eq_true,not_or,Bool.not_eq_true,Bool.not_eq_true,Bool.not_eq_false'] at z;have hb:=zhl (a:=name) (env:=X.env) (w:=eval o X.env) z.2;split at h
  ·rename_i e;split at h
   ·exact noSome h
   ·rename_i y;rw [Bool.not_eq_true,Bool.not_eq_false'] at y;split at h
    ·rename_i x px;obtain ⟨i,hi,h⟩:=bS h;obtain ⟨ge,hg,h⟩:=bS h;have pa:PA X [e] (zcp (tE X.K ge) tNil):=pac (Hf X S d C _ _ hg) zbt y;split at h
     ·rename_i q;obtain rfl:=sI h;have e':=eq_of_beq q;subst e';exact (zv3 PySem.F.plainAttrs_list PySem.F.slot_list_append PySem.F.type_list_append zjs (zsg C hi) pa hb (zgn y) z.1 (zad y) rfl).wk fun _ _ _=>zux
     ·exact noSome h
    ·exact noSome h
  ·exact noSome h
end
noncomputable def zzu (f:Sx->Expr->Option GE) (S:Sx) (x:Str) (args:List Expr):Option GE:=if x == ("__debug__" : Str) then none else match args with
  | []=>none
  | e::es=>match S.fs.lookup x with
    | some (m,Φ)=>if S.kd.lookup x == some .globalImplicit then (asM f S (e::es) m).bind fun as=>some (zae m Φ as) else none
    | none=>if x == ("isinstance" : Str) && S.bl x then (match e,es with
        | e,[.Name t _]=>if zaf e && S.bl t then (kdOf t).bind fun k=>(zap f S e).bind fun a=>some (gOp1 (oIsi k) a) else none
        | _,_=>none)
      else if S.bl x then (zzx x).bind fun o=>(asL (zap f S) (e::es)).bind fun as=>some (gOpN o as) else none
theorem zvh {X:Cx}{S:Sx}{d:Nat}{f:Sx->Expr->Option GE} (Hf:za2 f) (C:CxOk X S d) {x:Str}{args:List Expr}{g:GE}{p pos:Pos} (h:zzu f S x args=some g):PE X (.Call (.Name x p) args [] pos) (tE X.K g):=by
 unfold zzu at h;split at h
 ·exact noSome h
 ·rename_i hdb;rw [Bool.not_eq_true] at hdb;split at h
  ·exact noSome h
  ·rename_i e es;split at h
   ·rename_i m Φ hfs;split at h
    ·rename_i hgl;obtain ⟨as,has,h⟩:=bS h;obtain rfl:=sI h;obtain ⟨ps,hl,cal⟩:=C.fs x m Φ hfs;obtain ⟨pa,st⟩:=zw2 Hf C has;rw [List.all_cons,Bool.and_eq_true] at st;exact (z0v cal C.room (C.gl x (by simpa using hgl)) pa (Nat.le_refl _) hdb (zad st.1) (zgg st.2)).wk fun _ _ _=>zpe
    ·exact noSome h
   ·split at h
    ·rename_i hi;rw [Bool.and_eq_true] at hi;have e':=eq_of_beq hi.1;subst e';obtain ⟨gI,mI⟩:=zed C hi.2;split at h
     ·rename_i t pt;split at h
      ·rename_i z;rw [Bool.and_eq_true] at z;obtain ⟨k,hk,h⟩:=bS h;obtain ⟨a,ha,h⟩:=bS h;obtain rfl:=sI h;obtain ⟨k1,k2,k3⟩:=zxl hk;obtain ⟨gT,mT⟩:=zed C z.2;have pt' : PE X (.Name t pt) (tC (.ty k.nm)):=zw4 gT mT k1 rfl k2 k3;have pa:PA X [e,.Name t pt] (zcp (tA X.K a) (zcp (tC (.ty k.nm)) tNil)):=pac (zac Hf C ha) (pac pt' zbt rfl) z.1;exact (za5 zs5 gI mI zhp pa (by decide) hdb (zad z.1) rfl).wk fun _ _ _=>zs8
      ·exact noSome h
     ·exact noSome h
    ·split at h
     ·rename_i hb;obtain ⟨o,ho,h⟩:=bS h;obtain ⟨as,has,h⟩:=bS h;obtain rfl:=sI h;obtain ⟨pa,st⟩:=zff (fun e a ha=>zac Hf C ha) has;obtain ⟨r,h1,h2⟩:=zub (pos:=pos) (p:=p) C hb ho pa st;exact h1.wk fun _ _ _=>zgr h2
     ·exact noSome h
noncomputable def zyv (f:Sx->Expr->Option GE) (S:Sx) (tg e:Expr):Option GL:=if !zf3 e then none else match e with
  | .Call (.Name x _) args [] _ =>
    if x == ("range" : Str) && S.bl x then (match args with
      | [a]=>if zaf a then (asL (zap f S) [a]).bind fun as=>some (zc7 as) else none
      | _=>none)
    else if x == ("enumerate" : Str) && S.bl x then (match args,tg with
      | [a],.Tuple _ _ _=>if zaf a then (f S a).bind fun g=>some (zn9 g) else none
      | _,_=>none)
    else if x == ("reversed" : Str) && S.bl x then (match args with
      | [a]=>if zaf a then (f S a).bind fun g=>some (gRev g) else none
      | _=>none)
    else if x == ("zip" : Str) && S.bl x then (match args,tg with
      | [a,b],.Tuple _ _ _=>if zaf a && zaf b then (f S a).bind fun g=>(f S b).bind fun g'=>some (gZip g g') else none
      | _,_=>none)
    else (f S e).bind fun g=>some (zda g)
  | _=>(f S e).bind fun g=>some (zda g)
theorem zu2 {X:Cx}{S:Sx}{d:Nat}{f:Sx->Expr->Option GE} (Hf:za2 f) (C:CxOk X S d) {tg e:Expr}{g:GL} (h:zyv f S tg e=some g):PI X tg e (tI X.K g)/\∀x,foldedSetIterable e X.env x=pure x:=by
 unfold zyv at h;split at h
 ·exact noSome h
 ·rename_i hs;rw [Bool.not_eq_true,Bool.not_eq_false'] at hs;refine ⟨?_,zde hs⟩;split at h
  ·rename_i x px args pc;split at h
   ·rename_i z;rw [Bool.and_eq_true] at z;have e':=eq_of_beq z.1;subst e';obtain ⟨gl,mg⟩:=zed C z.2;split at h
    ·rename_i a;split at h
     ·rename_i y;obtain ⟨as,has,h⟩:=bS h;obtain rfl:=sI h;obtain ⟨pa,_⟩:=zff (fun e a ha=>zac Hf C ha) has;exact (zqk gl mg pa (zad y)).wk fun _ _ _=>zrn
     ·exact noSome h
    ·exact noSome h
   ·split at h
    ·rename_i z;rw [Bool.and_eq_true] at z;have e':=eq_of_beq z.1;subst e';obtain ⟨gl,mg⟩:=zed C z.2;split at h
     ·rename_i a es k1 p1;split at h
      ·rename_i y;obtain ⟨ge,hg,h⟩:=bS h;obtain rfl:=sI h;exact (zs1 gl mg (pac (Hf X S d C _ _ hg) zbt y) (zad y)).wk fun _ _ _=>zsp
      ·exact noSome h
     ·exact noSome h
    ·split at h
     ·rename_i z;rw [Bool.and_eq_true] at z;have e':=eq_of_beq z.1;subst e';obtain ⟨gl,mg⟩:=zed C z.2;split at h
      ·rename_i a;split at h
       ·rename_i y;obtain ⟨ge,hg,h⟩:=bS h;obtain rfl:=sI h;exact (z1s gl mg (pac (Hf X S d C _ _ hg) zbt y) (zad y)).wk fun _ _ _=>ztd
       ·exact noSome h
      ·exact noSome h
     ·split at h
      ·rename_i z;rw [Bool.and_eq_true] at z;have e':=eq_of_beq z.1;subst e';obtain ⟨gl,mg⟩:=zed C z.2;split at h
       ·rename_i a b es k1 p1;split at h
        ·rename_i y;rw [Bool.and_eq_true] at y;refine aG fun _ qG=>?_;obtain ⟨ge,hg,h⟩:=bS h;obtain ⟨ge',hg',h⟩:=bS h;refine qG ?_;clear qG;obtain rfl:=sI h;exact (z2e gl mg (pac (Hf X S d C _ _ hg) (pac (Hf X S d C _ _ hg') zbt y.2) y.1) (by rw [zad y.1,zad y.2];rfl) (zad y.2)).wk fun _ _ _=>zum
        ·exact noSome h
       ·exact noSome h
      ·obtain ⟨ge, hg, h⟩ := bS h;obtain rfl:=sI h;exact (zww (Hf X S d C _ _ hg)).wk fun _ _ _=>zji
  ·obtain ⟨ge, hg, h⟩ := bS h;obtain rfl:=sI h;exact (zww (Hf X S d C _ _ hg)).wk fun _ _ _=>zji
noncomputable def zl1 (S:Sx):List Expr->Option (List Nat)
 | []=>some []
 | .Name x _::es=>(S.wr x).bind fun i=>(zl1 S es).bind fun is=>some (i::is)
 | _=>none
noncomputable def tgE (S:Sx):Expr->Option Tg
 | .Name x _=>(S.wr x).bind fun i=>some (.nm i)
 | .Tuple es _ _=>(zl1 S es).bind fun is=>some (.tp is)
 | _=>none
section
variable {X:Cx}{S:Sx}{d:Nat}
theorem zoj (C:CxOk X S d):∀(es:List Expr) {is:List Nat},zl1 S es=some is->PGs X es (zf5 is)/\(assignEach es X.env).length=is.length/\(assignEach es X.env).findIdx? (·.1)=none:=by
  intro es
  induction es with
  | nil=>intro is h;obtain rfl:=sI h;exact ⟨zyh,rfl,rfl⟩
  | cons e es ih =>
    intro is h;obtain ⟨x,p,rfl⟩ : ∃x p,e=.Name x p:=by
      cases e with
      | Name x p=>exact ⟨x,p,rfl⟩
      | _=>exact noSome h
    refine aG fun _ qG=>?_;obtain ⟨i,hi,h⟩:=bS (show (S.wr x).bind _=_ from h);obtain ⟨is,his,h⟩:=bS h;refine qG ?_;clear qG;obtain rfl:=sI h;refine aG fun _ qG=>?_;obtain ⟨a,b,c⟩:=ih his;obtain ⟨w1,w2,w3⟩:=z0g C hi;refine qG ?_;clear qG;refine ⟨zvs (zp5 (ndN C) w1 w2 w3) a rfl,congrArg (· + 1) b,?_⟩;show List.findIdx? (·.1) ((false,assign (.Name x p) X.env)::assignEach es X.env)=none;rw [List.findIdx?_cons,c]
    rfl
theorem zwu (C:CxOk X S d) {e:Expr}{T:Tg} (h:tgE S e=some T):PG X e (TGof X.K T):=by
 unfold tgE at h;split at h
 ·obtain ⟨i, hi, h⟩ := bS h;obtain rfl:=sI h;obtain ⟨w1,w2,w3⟩:=z0g C hi;exact zp5 (ndN C) w1 w2 w3
 ·obtain ⟨is, his, h⟩ := bS h;obtain rfl:=sI h;obtain ⟨a,b,c⟩:=zoj C _ his;exact zxf C.calm a b c
 ·exact noSome h
end
end L2
namespace L2
open PySem PySem.Spec PyProof.Rows
noncomputable def zy4 (te:GE):Fn:=zai [false] 1 (gRet te)
noncomputable def lamΦ (te:GE) (w:W):Option W:=(zy4 te [w]).bind fun p=>if p.1.length=1 then some p.2.1 else none
noncomputable def zpa (te:GE) (a:GA):GE:=fun en=>(a en).bind fun p=>(resA p.1 p.2).bind fun w=>(seqL w).bind fun ws=>(mapO (lamΦ te) ws).bind fun ks=>(zru ks ws).bind fun out=>some (p.1,(.lst out,true))
theorem zhv {scope:Scope}{env:Env} (h:(scope.names.all fun p=>!(p.2 == NameKind.free))=true):closureFor scope env=pure []:=by
  unfold closureFor;have go:∀(names:List (Str × NameKind)) (cs:List (Str × Addr)),(names.all fun p=>!(p.2 == NameKind.free))=true->(forIn names cs fun (p:Str × NameKind) cs=>(if p.2 == NameKind.free then do let c <- cellOf env p.1;pure (ForInStep.yield ((p.1,c)::cs)) else pure (ForInStep.yield cs):Sem (ForInStep (List (Str × Addr)))))=pure cs:=by
    intro names
    induction names with
    | nil=>intro cs _;rw [List.forIn_nil]
    | cons p r ih =>
      intro cs h;rw [List.all_cons,Bool.and_eq_true] at h;rw [List.forIn_cons];have e:(p.2 == NameKind.free)=false:=by simpa using h.1
      simp only [e,Bool.false_eq_true,if_false,pure_bind];exact ih cs h.2
  have:=go scope.names [] h;simpa using this
theorem z0b {P:Program}{w:World}{K:PySem.W.Frag}{mg:Str->Option Value}{base:Heap}{k:Nat}{f c' : Addr}{qual:Str}{params:Arguments}{body:Expr}{scope:Scope}{pm ctv:Value}{N ps:List Str}{A:Around}{outer:List Env}{s:Shared}{H:Hp}{us:List Value}{vs:List V}{Q:VK}{E:XK}
  (ho:s.heap.get? f=some (PySem.W.kla_obj "<lambda>" qual params body scope [] pm c' ctv)) (hcd:s.heap.CodeRec (.ref c') qual) (S:FnScope N ps scope) (hr:Room (k+1) A) (e0:Env0 P w K mg base A outer s H)
  (hb:bindArgs (PySem.W.kla_fn "<lambda>" qual params body scope [] pm (.ref c') ctv) ⟨us,[]⟩=pure (ps.zip us)) (r:Vals vs us) (hl:vs.length=ps.length)
  (hbody:Room k (A.deeper (envOfC qual scope s.heap.objs.size f (.ref c')))->∃t,PE (cxOf CX0 P w K mg base N qual scope f (.ref c') A outer s H E).nox body t/\t (start N vs) H Q) :
  codeAny (model P w) A (.call (.ref f) ⟨us,[]⟩) (CR CX0 outer P w H s Q E) s:=by
 have lim:s.heap.NoLimit:=e0.mod.nolimit.keeps fun b o e=>(e0.bs b o e).1;have hkind:∀y∈ps.zip us,scope.names.lookup y.1=some .local\/(scope.names.lookup y.1=some .cell/\((cellsFrom (s.heap.objs.size+1) scope.names []).lookup y.1).isSome=true):=fun ⟨n,v⟩ hy=>by
  rcases S.par n (List.of_mem_zip hy).1 with q | q
  ·exact .inl q
  ·exact .inr ⟨q,PySem.W.cellsFrom_some _ _ _ (.inl q)⟩
 refine PySem.W.kla_callFunE hr.depth ho rfl S.co S.gen rfl hcd ?_;rw [hb];refine wpAny_pure (wpAny_newFunctionEnv_cells S.kind hkind fun env he s1 x=>?_);subst he;refine ⟨lim.keeps x.toInCall.keep,PySem.W.kla_codeExpr ?_⟩;obtain ⟨t,ht,hq⟩:=hbody (hr.deeper _);have I:Inv (cxOf CX0 P w K mg base N qual scope f (.ref c') A outer s H E) [] (start N vs) H s1:=zhr S hr.hd e0 hl r x;refine wpAny_mono (ht.nox [] s1 (start N vs) H Q I hq) (fun u s' hs=>?_) fun e s' hs=>hs;obtain ⟨v,H',J,rv,q⟩:=hs;exact ⟨v,H',J.os,J.bare,J.base,J.hok,rv,q⟩
noncomputable def ze3 (params:Arguments):Option Str:=match params.posonlyargs,params.args,params.vararg,params.kwonlyargs,params.kwarg,params.defaults,params.kw_defaults with
 | [],[a],none,[],none,[],[]=>some a.arg
 | _,_,_,_,_,_,_=>none
theorem zud {params:Arguments}{p:Str} (hp:ze3 params=some p) {qual:Str}{body:Expr}{scope:Scope}{pm ctv:Value}{c' : Addr}{u:Value}:bindArgs (PySem.W.kla_fn "<lambda>" qual params body scope [] pm (.ref c') ctv) ⟨[u],[]⟩=pure ([p].zip [u]):=by
 refine aG fun _ qG=>?_;obtain ⟨po,ar,va,ko,kd,ka,df⟩:=params;refine qG ?_;clear qG;unfold ze3 at hp;split at hp
 ·rename_i a q1 q2 q3 q4 q5 q6 q7;simp only at q1 q2 q3 q4 q5 q6 q7;subst q1 q2 q3 q4 q5 q6 q7;obtain rfl:=sI hp;have e:([(a.arg,u)]:List (Str × Value)).lookup a.arg=some u:=by simp [List.lookup]
  have d:seqItems? (Value.none)=(pure none:Sem _):=rfl;unfold bindArgs;simp [e,d]
 ·exact noSome hp
noncomputable def zld (scope:Scope) (p:Str):Bool:=decide (scope.kind=.function) && !scope.isCoroutine && !scope.isGenerator && decide (scope.names.lookup p=some .local) && (scope.names.all fun q=>!(q.2 == NameKind.free))
theorem zvc {scope:Scope}{p:Str} (h:zld scope p=true):FnScope [p] [p] scope:=by
 unfold zld at h;simp only [Bool.and_eq_true,Bool.not_eq_true',decide_eq_true_eq] at h;obtain ⟨⟨⟨⟨h1,h2⟩,h3⟩,h4⟩,h5⟩:=h;refine ⟨h1,h2,h3,by simp,rfl,fun x hx=>.inl (by rw [List.mem_singleton.mp hx];exact h4),fun y hy z=>?_⟩;have:=List.all_eq_true.mp h5 y hy;rw [z] at this;cases this
noncomputable def lamS (S:Sx) (scope:Scope) (p:Str):Sx:={ N:=[p],kd:=scope.names,bn:=S.bn,fs:=[],mp:=[],top:=true }
section
variable {X:Cx}{S:Sx}{d:Nat}
theorem zt6 {fE:Sx->Expr->Option GE} (HE:za2 fE) {f c' : Addr}{qual:Str}{params:Arguments}{body:Expr}{scope:Scope}{pm ctv:Value}{p:Str}{te:GE} (hp:ze3 params=some p) (hs:zld scope p=true) (ht:fE (lamS S scope p) body=some te) (hbn:∀x∈S.bn,X.mg x=none) (hsg:("g SIGNS" : Str)∈S.bn->∃t,X.mg "SIGNS" = some (.str "abcdef" t)) (hr:Room 1 X.A) :
    KCall X (.ref f) (lamΦ te) (fun pins F=>(f,PySem.W.kla_obj "<lambda>" qual params body scope [] pm c' ctv)∈pins/\F c'=some (.ext (zcl c' qual))) where
  mono:=fun h hp sm=>⟨hp _ h.1,sm _ _ h.2⟩
  run:=fun pins s σ H F pr en w k v u al I R rp ru hΦ=>by
    have FS:=zvc hs;refine aG fun _ qG=>?_;obtain ⟨⟨ws',r⟩,e1,e2⟩:=bS hΦ;refine qG ?_;clear qG;split at e2
    · rename_i hl1
      obtain rfl:=sI e2;have cr:s.heap.CodeRec (.ref c') qual:=by
        refine aG fun _ qG=>?_;obtain ⟨φ,_,_⟩:=(show zbd X.prog X.w H s.heap c' (.ext (zcl c' qual)) from I.hok c' _ (R.sub _ _ al.2));obtain ⟨oc,vs,t,g1,g2,g3⟩:=φ;refine qG ?_;clear qG;exact ⟨c',oc,vs,t,rfl,g1,g2,g3⟩
      have ho:=(I.pin _ (List.mem_append_right _ al.1)).1;have bk:zaq (zau [(Sum.inl w:W ⊕ Nat)]) en (zav [false] ws')=en:=by
        unfold zaq;apply List.ext_getElem?;intro i;rw [List.getElem?_mapIdx];cases en[i]? with
        | none=>rfl
        | some x=>rfl
      have sp:spF X.K [false] (zy4 te) [v] H (fun v' H'=>∃F',Same F F'/\Rel X.K F' pr en σ H'/\Rep X.K F' r.1 v') E0:=by
        refine zrm (xs:=[.inl w]) (en':=en) (r:=r) R (.cons rp .nil) ?_ fun F' H' v' s' R' y=>?_
        · show (if (true && true && _) = true then _ else none) = _
          rw [if_pos (by rfl)];show ((zy4 te) [w]).bind _=_;rw [e1];show (if ws'.length=1 then some (zaq (zau [(Sum.inl w:W ⊕ Nat)]) en (zav [false] ws'),r) else none)=_;rw [if_pos hl1,bk]
        · refine aG fun Gg qG => ?_
          obtain ⟨F'',s'',R'',y''⟩:=y.freeze R';refine qG ?_;clear qG;exact ⟨F'',s'.trans s'',R'',y''⟩
      refine wpAny_call (codeAny_mono (z0b (N:=[p]) (ps:=[p]) (E:=E0) (Q:=fun v' H'=>∃F',Same F F'/\Rel X.K F' pr en σ H'/\Rep X.K F' r.1 v') ho cr FS hr I.env0 ?bind (.cons ru .nil) rfl fun hr'=>?body) fun res s' hq=>?_)
      case bind =>
        exact zud hp
      case body =>
        have rd:=zsc (N:=[p]) sp;have C:CxOk (cxOf CX0 X.prog X.w X.K X.mg X.base [p] qual scope f (.ref c') X.A X.stack s H E0).nox (lamS S scope p) 0:={
          N:=rfl
          nd:=by show [p].Nodup;simp
          loc:=fun x e=>e
          cel:=fun x e=>⟨e,rfl⟩
          vis:=fun x e=>e
          gl:=fun x e=>e
          calm:=rfl
          xe:=rfl
          bn:=hbn
          fs:=fun x m Φ e=>by exact noSome e
          room:=hr'
          sl:=by have:=hr.un;show X.A.units+3+16 * 0+205 < cLine;omega
          bk:=by
            show (if scope.kind.isAnnotationScope then ScopeKind.function else scope.kind)=.function;rw [FS.kind];rfl
          lam:=fun h=>absurd (show ("" : Str)∈lams from h) (by decide +kernel)
          dpo:=Nat.zero_le _
          sg:=hsg }
        exact ⟨_,HE _ _ _ C _ _ ht,zm2 rd⟩
      cases res with
      | error e=>exact hq.elim
      | ok fl =>
        cases fl with
        | ret u' =>
          refine aG fun _ qG=>?_;obtain ⟨v',H',I',rv',F',s1,R1,y1⟩:=I.after hq;refine qG ?_;clear qG;exact ⟨v',F',H',I',s1,R1,rv',y1⟩
        | next=>exact False.elim hq
        | brk=>exact False.elim hq
        | cont=>exact False.elim hq
    · exact noSome e2
variable {pins:List (Addr × Obj)}{σ:St}{H F:Hp}{s:Shared}{pr:Prt}{en:En}
theorem zvt (C:CxOk X S d) (hn:S.nm∈lams) {params:Arguments}{body:Expr}{scope:Scope}{pos:Pos}{p:Str} (hp:ze3 params=some p) (hs:zld scope p=true) (I:Inv X pins σ H s) (R:Rel X.K F pr en σ H) {Q:Value->Shared->Prop}{E:Value->Shared->Prop}
    (h:∀f c' pm ctv s' H' F',Inv X pins σ H' s'->Same F F'->Rel X.K F' pr en σ H'->s'.heap.get? f=some (PySem.W.kla_obj "<lambda>" (lamQ S.nm) params body scope [] pm c' ctv)->H' f=none->Apart X pins f->F' c'=some (.ext (zcl c' (lamQ S.nm)))->Q (.ref f) s') :
    wpAny (model X.prog X.w) X.A (eval (.Lambda params body scope pos) X.env) Q E s:=by
  refine aG fun _ qG=>?_;obtain ⟨c,P,ht,hc,ecd,eq⟩:=C.lam hn;obtain ⟨ps,t1,t2,t3,t4,t5⟩:=R.tb.2 S.nm hn c P ht;refine qG ?_;clear qG;have hcl:closureFor scope X.env=pure []:=zhv (by unfold zld at hs;simp only [Bool.and_eq_true] at hs;exact hs.2);have hg:=I.mod.glob.keeps I.bk;have CH:PySem.W.CodeHd s.heap c P:=PySem.W.codeHd_of_K I.kIn hc;have hP:s.heap.get? P=some (PySem.W.tabObj ps):=I.hok P _ t1;have hgP:mainGlobals≠P:=fun z=>by
    refine aG fun _ qG=>?_;obtain ⟨o,es,ep,g1,g2,_⟩:=hg;refine qG ?_;clear qG;rw [z,hP] at g1;obtain rfl:=sI g1;cases g2
  refine aG fun _ qG=>?_;obtain ⟨bm,ob,b1,b2,b3,b4,b5,b6⟩:=I.mod.bmn;refine qG ?_;clear qG;have b3':=I.bk _ _ b3;have hbG:bm≠mainGlobals:=fun z=>by
    refine aG fun _ qG=>?_;obtain ⟨o,es,ep,g1,g2,_⟩:=hg;refine qG ?_;clear qG;rw [z,g1] at b3';obtain rfl:=sI b3';rw [g2] at b6;cases b6
  have hbP:bm≠P:=fun z=>by
    rw [z,hP] at b3';obtain rfl:=sI b3';cases b4
  have hbm:s.heap.BuiltinsAt X.mg P:=⟨bm,ob,b1,b2,hbG,hbP,b3',b4,b5,b6⟩;have hdef:defaultsOf params X.env=([],[]):=by
    refine aG fun _ qG=>?_;obtain ⟨po,ar,va,ko,kd,ka,df⟩:=params;refine qG ?_;clear qG;unfold ze3 at hp;split at hp
    · rename_i a q1 q2 q3 q4 q5 q6 q7
      simp only at q1 q2 q3 q4 q5 q6 q7;subst q1 q2 q3 q4 q5 q6 q7
      rfl
    · cases hp
  have eq' : X.env.qual++"<lambda>" = lamQ S.nm:=by rw [eq];rfl
  refine PySem.W.kla_eval hdef ?_;rw [eq'];cases hf:codeAmong pos ps.toList with
  | some cv =>
    obtain ⟨c',rfl,hc'⟩:=t5 pos cv hf;refine PySem.W.kla_makeFunctionHit hcl I.ok.glob hg ecd CH hP t4 hf hbm fun ctv h' tk k hz=>?_;have k2:∀b o,s.heap.get? b=some o->(h'.push (PySem.W.kla_obj "<lambda>" (lamQ S.nm) params body scope [] ((X.mg "__name__").getD .none) c' ctv)).get? b=some o:=fun b o e=>Heap.get?_push_of_some _ (k b o e);exact h h'.objs.size c' _ ctv _ H F (I.kept k2) (.refl F) R (Heap.get?_push_size _ rfl) (I.hok.fresh hz) (I.fpOk (H':=H) hz (I.hok.fresh hz)).apart hc'
  | none =>
    refine PySem.W.kla_makeFunction hcl I.ok.glob hg ecd CH hP t4 hf hgP hbm fun c' ctv h' tk hx hge hlt hrec htb=>?_;have hn' : H c'=none:=I.hok.fresh hge;have nP:c'≠P:=fun z=>by rw [z,t1] at hn';cases hn'
    obtain ⟨ps',eps⟩ : ∃ps',ps'=ps++#[rawInt pos.line,rawInt pos.col,.ref c']:=⟨_,rfl⟩;rw [<-eps] at htb;have sizes:s.heap.objs.size<=h'.objs.size:=Nat.le_of_lt (Nat.lt_of_le_of_lt hge hlt);have neP:∀b,H b=none->b≠P:=fun b e z=>by rw [z,t1] at e;cases e
    let fo:=PySem.W.kla_obj "<lambda>" (lamQ S.nm) params body scope [] ((X.mg "__name__").getD .none) c' ctv
    have k2:∀b o,b≠P->s.heap.get? b=some o->(h'.push fo).get? b=some o:=fun b o hb e=>Heap.get?_push_of_some _ (hx b o hb e)
    let H' : Hp:=upd (upd H P (.tbl ps')) c' (.ext (zcl c' (lamQ S.nm)))
    have hH:∀b,b≠P->b≠c'->H' b=H b:=fun b h1 h2=>by show upd (upd H P _) c' _ b=_;rw [upd_ne h2,upd_ne h1]
    have hHP:H' P=some (.tbl ps'):=by show upd (upd H P _) c' _ P=_;rw [upd_ne nP.symm,upd_same]
    have hHc:H' c'=some (.ext (zcl c' (lamQ S.nm))):=upd_same;have nc:∀b o,s.heap.get? b=some o->b≠c':=fun b o e z=>by subst z;exact absurd (Heap.lt_size e) (Nat.not_lt_of_le hge)
    have nH:∀b u,H b=some u->b≠c':=fun b u e z=>by rw [z,hn'] at e;cases e
    have ntb:∀b u,H b=some u->(∀q,u≠.tbl q)->b≠P:=fun b u e hu z=>by rw [z,t1] at e;obtain rfl:=sI e;exact hu _ rfl
    have I' : Inv X pins σ H' { s with heap:=h'.push fo,toks:=tk }:=by
      refine I.step (g':=s.gens) (d':=s.drawn) (ch:=[]) (fun b hb=>by cases hb) (fun b o _ _ _ e n=>k2 b o (neP b n) e) (fun b o _ _ _ e n=>⟨o.slots,k2 b o (neP b n) e⟩) (fun b u _ e n=>by rw [hH b (neP b n) (nc b u e)];exact n)
        (fun b u _ e=>?_) (fun b xs e=>by rw [hH b (ntb b _ e fun _ z=>by cases z) (nH b _ e)];exact e) (fun b u xs e=>by rw [hH b (ntb b _ e fun _ z=>by cases z) (nH b _ e)];exact e) (fun b qs e=>?_) (fun m hm=>?_) (fun b u e=>?_) I.bare
      · by_cases hb : b = P
        · subst hb;exact ⟨_,Heap.get?_push_of_some _ htb⟩
        · exact ⟨u,k2 b u hb e⟩
      · by_cases hb : b = P
        · subst hb
          rw [t1] at e;cases e;exact ⟨#[rawInt pos.line,rawInt pos.col,.ref c'],by rw [hHP,eps]⟩
        · exact ⟨#[],by rw [hH b hb (nH b _ e),e];simp⟩
      · refine aG fun Gg qG => ?_
        obtain ⟨o,es,ep,ho,r⟩:=hm;refine qG ?_;clear qG;exact ⟨o,es,ep,k2 _ o (neP _ I.free) ho,r⟩
      · by_cases hb : b = c'
        · subst hb
          rw [hHc] at e;obtain rfl:=sI e;refine aG fun _ qG=>?_;obtain ⟨c2,oc,vs,t,e2,hoc,hd,hv⟩:=hrec;refine qG ?_;clear qG;cases e2;refine ⟨⟨oc,vs,t,Heap.get?_push_of_some _ hoc,hd,hv⟩,⟨oc,Heap.get?_push_of_some _ hoc⟩,fun h1 h2 ⟨oc,vs,t,g1,g2,g3⟩ kk=>⟨oc,vs,t,kk oc g1,g2,g3⟩⟩
        · by_cases hb2 : b = P
          · subst hb2
            rw [hHP] at e;obtain rfl:=sI e;exact Heap.get?_push_of_some _ htb
          · rw [hH b hb2 hb] at e
            refine (I.hok b u e).stay (fun c v hc q=>k2 c v ?_ q) (fun c q=>by rw [hH c (ntb c _ q fun _ z=>by cases z) (nH c _ q)];exact q) fun c xs q=>by rw [hH c (ntb c _ q fun _ z=>by cases z) (nH c _ q)];exact q
            rcases hc with z | z
            · rw [z];exact hb2
            · exact ntb c _ z fun _ y=>by cases y
    have fc:F c'=none:=R.sub.free hn';have sF:Same F (upd F c' (.ext (zcl c' (lamQ S.nm)))):=Same.new fc _;have R' : Rel X.K (upd F c' (.ext (zcl c' (lamQ S.nm)))) pr en σ H':=by
      refine ⟨R.len,fun b u e=>?_,fun i w e=>?_,fun i w e=>?_,R.inj,fun b o q=>?_,R.tb.1,fun x hx' c0 P0 e0=>?_⟩
      · by_cases hb : b = c'
        · subst hb;rw [upd_same] at e;rw [hHc];exact e
        · rw [upd_ne hb] at e
          have e':=R.sub _ _ e;rw [hH b (fun z=>by rw [z,t2] at e;cases e) hb];exact e'
      · obtain ⟨v, g1, g2⟩ := R.val i w e
        exact ⟨v,g1,g2.mono sF⟩
      · refine aG fun Gg qG => ?_
        obtain ⟨a,o,w',g1,g2,g3,g4,g5⟩:=R.own i w e;refine qG ?_;clear qG;have na:a≠c':=nH a _ g3;exact ⟨a,o,w',g1,g2,by rw [hH a (ntb a _ g3 fun _ z=>by cases g5<;>cases z) na];exact g3,by rw [upd_ne na];exact g4,g5.mono sF⟩
      · obtain ⟨g1, g2, g3⟩ := R.prt b o q
        have nb:b≠c':=nH b _ g1;exact ⟨by rw [hH b (fun z=>by subst z;exact t3 o q) nb];exact g1,by rw [upd_ne nb];exact g2,g3⟩
      · refine aG fun Gg qG => ?_
        obtain ⟨qs,u1,u2,u3,u4,u5⟩:=R.tb.2 x hx' c0 P0 e0;refine qG ?_;clear qG;by_cases hp0:P0=P
        · subst hp0
          have ex:x=S.nm:=R.tb.1.1 x hx' S.nm hn c0 c P0 e0 ht;subst ex;rw [t1] at u1;cases u1;refine ⟨ps',hHP,by rw [upd_ne nP.symm];exact t2,t3,?_,fun pos2 cv e2=>?_⟩
          · rw [eps]
            have:=TriplesOk_snoc pos.line pos.col (.ref c') ps.toList t4;simpa using this
          · rw [eps] at e2
            have e3:codeAmong pos2 (ps.toList++[rawInt pos.line,rawInt pos.col,.ref c'])=some cv:=by simpa using e2
            have gen:∀l:List Value,TriplesOk l->codeAmong pos2 (l++[rawInt pos.line,rawInt pos.col,.ref c'])=some cv->codeAmong pos2 l=some cv\/cv=.ref c':=fun l hl=>by
              fun_induction TriplesOk l with
              | case1 =>
                intro z;show _\/_
                right
                simp only [List.nil_append,rawInt,codeAmong] at z;split at z
                · exact (sI z).symm
                · cases z
              | case2 a b c d e rest ih =>
                intro z;simp only [List.cons_append,codeAmong] at z ⊢;split at z
                · rename_i q;rw [if_pos q];exact .inl z
                · rename_i q;rw [if_neg q];exact ih hl z
              | case3=>exact hl.elim
            rcases gen ps.toList t4 e3 with z | z
            · obtain ⟨c2, q1, q2⟩ := u5 pos2 cv z
              exact ⟨c2,q1,sF _ _ q2⟩
            · exact ⟨c',z,upd_same⟩
        · have np0 : P0 ≠ c' := nH P0 _ u1
          refine ⟨qs,by rw [hH P0 hp0 np0];exact u1,by rw [upd_ne np0];exact u2,u3,u4,fun pos2 cv e2=>?_⟩;obtain ⟨c2,q1,q2⟩:=u5 pos2 cv e2;exact ⟨c2,q1,sF _ _ q2⟩
    have nf:H' h'.objs.size=none:=by
      rw [hH _ (fun z=>?_) (Nat.ne_of_gt hlt)]
      · exact I.hok.fresh sizes
      · have := I.hok.fresh sizes
        rw [z,t1] at this;cases this
    exact h h'.objs.size c' _ ctv _ H' _ I' sF R' (Heap.get?_push_size _ rfl) nf (I.fpOk (H':=H) sizes (I.hok.fresh sizes)).apart upd_same
theorem ztu (h:Room 2 X.A):Room 1 X.inn.A:=⟨h.hd,by have:=h.dp;show X.A.depth+3 * 1+5 < _;omega,by have:=h.un;show X.A.units+1+1+16 * 1+200 < _;omega,h.gd⟩
noncomputable def z2x (sq:W->Option (List W)) (S2:List W->List W->Option (List W)) (te:GE) (a:GA):GE:=fun en=>(a en).bind fun p=>(resA p.1 p.2).bind fun w=>(sq w).bind fun ws=>(mapO (lamΦ te) ws).bind fun ks=>(S2 ks ws).bind fun out=>some (p.1,(.lst out,true))
theorem z0z:∀{w:W}{ws:List W},seqL w=some ws->seqW w=some ws:=fun {w ws} h=>by
 cases w<;>first | exact h | exact noSome h
theorem zuz {sq:W->Option (List W)}{S2:List W->List W->Option (List W)} (hq:∀{w ws},sq w=some ws->seqW w=some ws) (hS:∀{ks ws out},S2 ks ws=some out->zrx ks ws out) {fE:Sx->Expr->Option GE} (HE:za2 fE) (C:CxOk X S d) {e:Expr}{a:GA} (ha:zap fE S e=some a) (hns:zaf e=true) {params:Arguments}{body:Expr}{scope:Scope}{lpos kpos px pos:Pos}{p:Str}{te:GE} (hn:S.nm∈lams) (h2:2<=S.dp) (hp:ze3 params=some p) (hs:zld scope p=true) (ht:fE (lamS S scope p) body=some te) (hbl:S.bl "sorted" = true) :
    PE X (.Call (.Name "sorted" px) [e] [⟨some "key",.Lambda params body scope lpos,kpos⟩] pos) (tE X.K (z2x sq S2 te a)):=by
  intro pins s σ H Q I h;refine aG fun _ qG=>?_;refine aG fun _ qG=>?_;obtain ⟨F,pr,en,en',r,R,hg,q⟩:=h;obtain ⟨⟨e1,x⟩,h1,hg⟩:=bS hg;obtain ⟨w,hw,hg⟩:=bS hg;obtain ⟨ws,hws,hg⟩:=bS hg;obtain ⟨ks,hks,hg⟩:=bS hg;obtain ⟨out,ho,hg⟩:=bS hg;refine qG ?_;clear qG;refine qG ?_;clear qG;cases hg;obtain ⟨gl,mn⟩:=zed C hbl;have hr:Room 2 X.A:=C.room.mono (Nat.le_trans h2 C.dpo);have hst:starEach [e] X.env=(false,eval e X.env)::starEach [] X.env:=by cases e<;>first | rfl | (cases hns)
  refine wpAny_Call_Name_kw (zc4 I gl mn (show bootBuiltins "sorted" = some (.builtin "sorted") from PyProof.Rows.boot_sorted) ?_);refine PyProof.Rows.callWith_kw ?_ (by rw [hst];rfl) (by rw [hst];rfl);refine thn (zry (zac HE C ha) zbt hst pos pins s σ H (fun vs H1=>∃v F1,vs=[v]/\Same F F1/\Rel X.K F1 pr e1 σ H1/\ArgR X.K F1 σ x v) I ⟨F,pr,en,e1,x,R,h1,fun F1 H1 v s1 R1 a1=>⟨v,F1,rfl,s1,R1,a1⟩⟩) fun us s1 ⟨vs,H1,I1,rv,v,F1,ev,sm1,R1,a1⟩=>?_;subst ev;cases rv with
  | cons ru rv =>
    cases rv;refine PyProof.Rows.kws_cons (zvt C hn hp hs I1 R1 fun f c' pm ctv s2 H2 F2 I2 sm2 R2 gf nf apf gc=>PyProof.Rows.kws_nil ?_);have I3:Inv X ((f,PySem.W.kla_obj "<lambda>" (lamQ S.nm) params body scope [] pm c' ctv)::pins) σ H2 s2:=I2.pins_of fun y hy=>by
      rcases List.mem_cons.mp hy with rfl | hy
      · exact ⟨gf,nf,apf.l,apf.f,fun v z=>by cases z⟩
      · exact I2.pin y (List.mem_append_right _ hy)
    have rb:=(a1.mono sm2).repB R2 hw;refine aG fun _ qG=>?_;refine aG fun _ qG=>?_;obtain ⟨l,vvs,ev,sq,rps⟩:=rb.seqW R2.sub (hq hws);refine qG ?_;clear qG;refine qG ?_;clear qG;subst ev;cases (show _=Value.ref l from ru);refine thn (zoa (E:=X.xe) (Q:=Q) (zt6 (X:=X.inn) (S:=S) (f:=f) (c':=c') (qual:=lamQ S.nm) (pm:=pm) (ctv:=ctv) HE hp hs ht C.bn C.sg (ztu hr)) I3 ⟨List.mem_cons_self,gc⟩ R2 sq rps hks (hS ho) (by have:=hr.un;omega) fun F' H' v s' R' y=>q F' H' v (sm1.trans (sm2.trans s')) R' y) fun u s' ⟨v,H',I',rv',q'⟩=>⟨v,H',I'.pins_of fun y hy=>I'.pin y (List.mem_append_right _ (List.mem_cons_of_mem _ hy)),rv',q'⟩
noncomputable def zzw (fE:Sx->Expr->Option GE) (S:Sx) (x:Str) (e:Expr) (key:Str) (params:Arguments) (body:Expr) (scope:Scope):Option GE :=
 if x == ("sorted" : Str) && key == ("key" : Str) && S.bl x && zaf e && lams.contains S.nm && decide (2<=S.dp) then (ze3 params).bind fun p=>if zld scope p then (zap fE S e).bind fun a=>(fE (lamS S scope p) body).bind fun te=>some (zpa te a) else none else none
theorem zt2 {fE:Sx->Expr->Option GE} (HE:za2 fE) (C:CxOk X S d) {x key:Str}{e:Expr}{params:Arguments}{body:Expr}{scope:Scope}{lpos kpos px pos:Pos}{g:GE} (h:zzw fE S x e key params body scope=some g):PE X (.Call (.Name x px) [e] [⟨some key,.Lambda params body scope lpos,kpos⟩] pos) (tE X.K g):=by
 unfold zzw at h;split at h
 ·rename_i z;simp only [Bool.and_eq_true,decide_eq_true_eq,List.contains_iff_mem] at z;refine aG fun _ qG=>?_;obtain ⟨⟨⟨⟨⟨z1,z2⟩,z3⟩,z4⟩,z5⟩,z6⟩:=z;refine qG ?_;clear qG;have e1:=eq_of_beq z1;have e2:=eq_of_beq z2;subst e1 e2;obtain ⟨p,hp,h⟩:=bS h;split at h
  ·rename_i y;refine aG fun _ qG=>?_;obtain ⟨a,ha,h⟩:=bS h;obtain ⟨te,ht,h⟩:=bS h;refine qG ?_;clear qG;obtain rfl:=sI h;exact zuz (sq:=seqL) (S2:=zru) z0z ztc HE C ha z4 z5 z6 hp y ht z3
  ·exact noSome h
 ·exact noSome h
end
end L2
namespace L2
open PySem PySem.Spec PyProof.Rows
section
variable {prog:Program}{w:World}{A:Around}{E:Value->Shared->Prop}{s:Shared}
noncomputable def mxF (f:Nat->Int):Nat->Nat->Int->Int
 | _,0,b=>b
 | j,k+1,b=>mxF f (j+1) k (if f j > b then f j else b)
variable {I:Addr}{fp wr:List Addr}{n:Nat}{P:Nat->Value->Prop}{St:Nat->Heap->Prop}{R:Result->Shared->Prop}
noncomputable def maxD (f:Nat->Int) (n:Nat) (d:Int):Int:=match n with
 | 0=>d
 | n+1=>mxF f 1 n (f 0)
end
noncomputable def mxL (ns:List Int) (d:Int):Int:=maxD (fun i=>ns.getD i 0) ns.length d
noncomputable def z4r (a:GA) (g:GE):GE:=fun en=>(a en).bind fun p=>(g p.1).bind fun q=>(resA q.1 p.2).bind fun w=>(seqW w).bind fun ws=>(zc5 ws).bind fun ns=>match q.2.1 with
 | .int d=>some (q.1,(.int (mxL ns d),false))
 | _=>none
section
variable {X:Cx}{S:Sx}{d:Nat}
noncomputable def maxE (fE:Sx->Expr->Option GE) (S:Sx) (x:Str) (e:Expr) (key:Str) (ed:Expr):Option GE :=
 if x == ("max" : Str) && key == ("default" : Str) && S.bl x && zaf e then (zap fE S e).bind fun a=>(fE S ed).bind fun g=>some (z4r a g) else none
end
end L2
namespace L2
open PySem PySem.Spec PyProof.Rows
noncomputable def lrOk (j:Int):Bool:=zdq j && decide (j<=16777216)
section
variable {X:Cx}
end
end L2
namespace L2
open PySem PySem.Spec PyProof.Rows
noncomputable def fnW (Φ:Fn) (w:W):Option W:=(Φ [w]).bind fun p=>if p.1.length=1 then some p.2.1 else none
noncomputable def z1d (Φ:Fn) (a:GA):GE:=fun en=>(a en).bind fun p=>(resA p.1 p.2).bind fun w=>(seqL w).bind fun ws=>(mapO (fnW Φ) ws).bind fun ks=>(zru ks ws).bind fun out=>some (p.1,(.lst out,true))
section
variable {X:Cx}{S:Sx}{d:Nat}
noncomputable def z2j (fE:Sx->Expr->Option GE) (S:Sx) (e:Expr) (y:Str):Option GE:=if zaf e && S.bl "sorted" && S.kd.lookup y == some .globalImplicit && !(y == ("__debug__" : Str)) then (match S.fs.lookup y with
  | some (m,Φ)=>if m == [false] then (zap fE S e).bind fun a=>some (z1d Φ a) else none
  | none=>none) else none
end
end L2
namespace L2
open PySem PySem.Spec PyProof.Rows
section
variable {K:PySem.W.Frag}{σ:St}{H:Hp}
end
noncomputable def zgt (x:Expr->Option GE) (X:Cx):Prop:=∀e g,x e=some g->PE X e (tE X.K g)
section
variable {X:Cx}{S:Sx}{d:Nat}{fE:Sx->Expr->Option GE}
end
end L2
namespace L2
open PySem PySem.Spec PyProof.Rows
section
variable {K:PySem.W.Frag}{F H:Hp}
end
section
variable {X:Cx}{pins:List (Addr × Obj)}{σ:St}{H:Hp}{s:Shared}{a:Addr}
end
section
variable {K:PySem.W.Frag}{F H:Hp}{pr:Prt}{en:En}{σ:St}
end
section
variable {X:Cx}
end
section
variable {X:Cx}
end
section
variable {X:Cx}{S:Sx}{d:Nat}{fE:Sx->Expr->Option GE}
end
section
variable {X:Cx}{S:Sx}{d:Nat}{fE:Sx->Expr->Option GE}
end
end L2
namespace L2
open PySem PySem.Spec PyProof.Rows
section
variable {X:Cx}{pins:List (Addr × Obj)}{σ:St}{H:Hp}{s:Shared}{a:Addr}{y:V}{u:Value}{A:Around}{E:Value->Shared->Prop}{Q:Value->Shared->Prop}
end
section
variable {K:PySem.W.Frag}{F H:Hp}{pr:Prt}{en:En}{σ:St}
end
section
variable {X:Cx}{S:Sx}{d:Nat}{f:Sx->Expr->Option GE}
end
end L2
namespace L2
open PySem PySem.Spec PyProof.Rows
section
variable {X:Cx}{S:Sx}{d:Nat}{f:Sx->Expr->Option GE}
end
end L2
namespace L2
open PySem PySem.Spec PyProof.Rows
section
variable {prog:Program}{w:World}{A:Around}{E:Value->Shared->Prop}{s:Shared}
variable {K:Type} [DecidableEq K]
variable {I:Addr}{fp wr:List Addr}{n:Nat}{P:Nat->Value->Prop}{St:Nat->Heap->Prop}{R:Result->Shared->Prop}
end
end L2
namespace L2
open PySem PySem.Spec PyProof.Rows
section
variable {prog:Program}{w:World}{A:Around}{E:Value->Shared->Prop}{s:Shared}
end
section
variable {X:Cx}{pins:List (Addr × Obj)}{σ:St}{H:Hp}{s:Shared}{A:Around}{E:Value->Shared->Prop}
end
section
variable {K:PySem.W.Frag}{F H:Hp}
end
section
variable {X:Cx}{S:Sx}{d:Nat}{fE:Sx->Expr->Option GE}
end
end L2
namespace L2
open PySem PySem.Spec PyProof.Rows
section
variable {X:Cx}{pins:List (Addr × Obj)}{σ:St}{H:Hp}
end
section
variable {X:Cx}
variable {S:Sx}{d:Nat}{fE:Sx->Expr->Option GE}
end
end L2
namespace L2
open PySem PySem.Spec PyProof.Rows
section
variable {prog:Program}{w:World}{A:Around}{E:Value->Shared->Prop}{s:Shared}{it d v:Addr}{o:Obj}{es:Array DictEntry}{i ep:Nat}
end
section
variable {X:Cx}{tg:Expr}
end
section
variable {X:Cx}{S:Sx}{d:Nat}{f:Sx->Expr->Option GE}
end
end L2
namespace L2
open PySem PySem.Spec PyProof.Rows
section
variable {prog:Program}{w:World}{A:Around}{E:Value->Shared->Prop}{s:Shared}
end
section
variable {X:Cx}{pins:List (Addr × Obj)}{σ:St}{H:Hp}{s:Shared}{A:Around}{E:Value->Shared->Prop}
end
section
variable {X:Cx}{S:Sx}{d:Nat}{fE:Sx->Expr->Option GE}
end
end L2
namespace L2
open PySem PySem.Spec PyProof.Rows
section
variable {X:Cx}
end
section
variable {K:PySem.W.Frag}{F H:Hp}{pr pb:Prt}{en:En}{σ:St}
end
section
variable {K:PySem.W.Frag}{mp:List Nat}{pb:Prt}{acc:Addr}
end
section
variable {X:Cx}{S:Sx}{d:Nat}{f:Sx->Expr->Option GE}
end
end L2
namespace L2
open PySem PySem.Spec PyProof.Rows
noncomputable def chW (x:Str):List W:=x.cps.toList.map fun c=>W.str ⟨#[c]⟩
noncomputable def seqS:W->Option (List W)
 | .str x=>some (chW x)
 | w=>seqW w
noncomputable def Its (x:Str):It:=⟨fun i _=>i < x.cps.size,fun i H v H'=>H'=H/\∃c,x.cps[i]?=some c/\v=.str ⟨#[c]⟩,fun i _=>x.cps.size<=i⟩
noncomputable def IteS (x:Str):It:=⟨fun i _=>i < x.cps.size,fun i H v H'=>∃p c,v=.ref p/\H p=none/\H'=upd H p (.tup [.int i,.str ⟨#[c]⟩])/\x.cps[i]?=some c,fun i _=>x.cps.size=i⟩
section
variable {prog:Program}{w:World}{A:Around}{E:Value->Shared->Prop}{s:Shared}
theorem zuy {it:Addr}{x:Str}{t:Tok}{i c:Nat}{Q:Option Value->Shared->Prop} (hit:s.heap.IsStrIter it (strIterType x) x t i) (hx:x.cps[i]?=some c)
  (hQ:∀h',h'.IsStrIter it (strIterType x) x t (i+1)->Heap.SameBut it s.heap h'->Q (some (.str ⟨#[c]⟩ s.toks)) { s with heap:=h',toks:=s.toks+1 }):wpAny (model prog w) A (pyNext (.ref it)) Q E s:=by
 revert hit hQ
 unfold strIterType;split
 ·exact fun hit hQ=>wpAny_pyNext_ascii_item hit hx hQ
 ·exact fun hit hQ=>wpAny_pyNext_wide_item hit hx hQ
theorem zxr {it:Addr}{x:Str}{t:Tok}{i:Nat}{Q:Option Value->Shared->Prop} (hh:A.handled=none) (hit:s.heap.IsStrIter it (strIterType x) x t i) (hx:x.cps[i]?=none)
  (hQ:∀h',Heap.ExtBut it s.heap h'->Q none { s with heap:=h' }):wpAny (model prog w) A (pyNext (.ref it)) Q E s:=by
 revert hit
 unfold strIterType;split
 ·exact fun hit=>wpAny_pyNext_ascii_end hh hit hx hQ
 ·exact fun hit=>wpAny_pyNext_wide_end hh hit hx hQ
theorem zvf {it:Addr}{x:Str}{t:Tok}{i:Nat}{Q:Value->Shared->Prop} (hit:s.heap.IsStrIter it (strIterType x) x t i) (h:Q (.ref it) s):wpAny (model prog w) A (pyIter (.ref it)) Q E s:=by
 revert hit
 unfold strIterType;split
 ·exact fun hit=>wpAny_pyIter_striter_ascii hit h
 ·exact fun hit=>wpAny_pyIter_striter_wide hit h
theorem zh1 (hh:A.handled=none) (it:Addr) (x:Str) (t:Tok):Draws prog w A it [it] x.cps.size (fun i v=>∃c u,x.cps[i]?=some c/\v=.str ⟨#[c]⟩ u) (fun i h=>h.IsStrIter it (strIterType x) x t i):=by
 unfold strIterType;split
 ·exact Draws.strAscii hh it x t
 ·exact Draws.strWide hh it x t
theorem z11 (x:Str):["enumerate","zip","dict_itemiterator","dict_reverseitemiterator","odict_iterator","itertools.zip_longest","itertools.pairwise"].contains (strIterType x)=false:=by
 unfold strIterType;split<;>decide
end
theorem zti {P:Program}{w:World}{K:PySem.W.Frag}{tg:Expr} (x:Str) (t:Tok) (it:Addr):Turn P w K tg (Its x) [it] it (fun i h=>h.IsStrIter it (strIterType x) x t i) where
 mem:=by simp
 obj:=fun i h st b hb=>by
  have e:b=it:=by simpa using hb
  subst e;obtain ⟨o,e,c,d⟩:=st;exact ⟨o,e,fun v z=>by rw [d] at z;cases z⟩
 keep:=fun i h h' st k=>let ⟨o,e,r⟩:=st;⟨o,k it (by simp) o e,r⟩
 item:=by
  intro X hP hw hK hc i pins s σ H E I hf st hg;subst hP hw hK;have hg:i < x.cps.size:=hg;obtain ⟨f0,f1,f2,f3,f4,f5⟩:=hf it (by simp);have hx:x.cps[i]?=some x.cps[i]:=Array.getElem?_eq_getElem hg;refine zuy st hx fun h' st' sb=>?_;have I1:Inv X pins σ H { s with heap:=h',toks:=s.toks+1 }:=I.turned (t':=s.toks+1) (fun b o hb e=>(sb.2 b hb).trans e) f0 f1 f3 f4 f5;obtain ⟨o,e,c,d⟩:=id st';exact ⟨_,rfl,zon (s:={ s with heap:=h',toks:=s.toks+1 }) e c d (z11 x) ⟨.str ⟨#[x.cps[i]]⟩,H,I1,⟨_,rfl⟩,⟨rfl,_,hx,rfl⟩,st',fun b hb=>(hf b hb).1⟩⟩
 done:=by
  intro X hP hw hK hc i pins s σ H E I hf st hg;subst hP hw hK;obtain ⟨f0,f1,f2,f3,f4,f5⟩:=hf it (by simp);exact zxr (I.ok.hd hc) st (Array.getElem?_eq_none hg) fun h' eb=>⟨rfl,I.turned (t':=s.toks) (fun b o hb e=>eb b o hb e) f0 f1 f3 f4 f5⟩
 self:=fun _ _ _ _ _ st h=>zvf st h
theorem zoh {P:Program}{w:World}{K:PySem.W.Frag}{es:List Expr}{x1}{px:Pos} (x:Str) (t:Tok) (e it:Addr) (hei:e≠it):Turn P w K (.Tuple es x1 px) (IteS x) [e,it] e (fun i h=>(∃old,IsEnum h e it i old)/\h.IsStrIter it (strIterType x) x t i) where
 mem:=by simp
 obj:=fun i h st b hb=>by
  obtain ⟨⟨old,he⟩,o,hi,c,d⟩:=st;rcases List.mem_cons.mp hb with rfl | hb
  ·exact ⟨_,he,fun v z=>by cases z⟩
  ·have : b = it := by simpa using hb
   subst this;exact ⟨o,hi,fun v z=>by rw [d] at z;cases z⟩
 keep:=fun i h h' st k=>⟨let ⟨old,he⟩:=st.1;⟨old,k e (by simp) _ he⟩,let ⟨o,z,r⟩:=st.2;⟨o,k it (by simp) o z,r⟩⟩
 item:=by
  intro X hP hw hK hc i pins s σ H E I hf st hg;subst hP hw hK;obtain ⟨⟨old,he⟩,hit⟩:=st;refine wpAny_pyNext_enum_itemD (zh1 (show X.A.in1.handled=none from I.ok.hd hc) it x t) he hit hg hei (by simp [hei]) fun y h' tk hy ho hst hT' hsz hk=>⟨_,rfl,?_⟩;refine aG fun _ qG=>?_;obtain ⟨c,u,hc,rfl⟩:=hy;refine qG ?_;clear qG;refine wpAny_letOwnedTupleGo_enum ho fun h'' he'' hs''=>?_;have kk:∀b o,b ∉ [e,it]->s.heap.get? b=some o->h''.get? b=some o:=fun b o hb q=>by
   have h1:b≠e:=fun z=>hb (by simp [z]);have h2:b≠it:=fun z=>hb (by simp [z]);exact (hs''.2 b h1).trans (hk b o h1 h2 q)
  have hTe:s.heap.objs.size≠e:=fun z=>absurd (Heap.lt_size he) (by rw [z];exact Nat.lt_irrefl _);have hit'' : h''.IsStrIter it (strIterType x) x t (i+1):=let ⟨o,z,r⟩:=hst;⟨o,(hs''.2 it hei.symm).trans z,r⟩;refine ⟨.ref s.heap.objs.size,upd H s.heap.objs.size (.tup [.int i,.str ⟨#[c]⟩]),I.turnLay kk (fun b hb=>?_) hf (Nat.le_refl _) ⟨by show 2<=sizeLine;decide,[.int i tk,.str ⟨#[c]⟩ u],.cons ⟨_,rfl⟩ (.cons ⟨_,rfl⟩ .nil),?_⟩,rfl,⟨_,c,rfl,I.hok.fresh (Nat.le_refl _),rfl,hc⟩,⟨⟨_,by simpa using he''⟩,hit''⟩,fun b hb=>?_⟩
  ·rcases List.mem_cons.mp hb with rfl | hb
   ·exact ⟨_,he''⟩
   ·have : b = it := by simpa using hb
    subst this;obtain ⟨o,z,_⟩:=hit'';exact ⟨o,z⟩
  ·exact ⟨_,(hs''.2 _ hTe).trans hT',⟨rfl,_,rfl⟩,rfl⟩
  ·have:b≠s.heap.objs.size:=by
    rcases List.mem_cons.mp hb with rfl | hb
    ·exact hTe.symm
    ·have e2 : b = it := by simpa using hb
     subst e2;obtain ⟨o,z,_⟩:=hit;exact Nat.ne_of_lt (Heap.lt_size z)
   rw [upd_ne this];exact (hf b hb).1
 done:=by
  intro X hP hw hK hc i pins s σ H E I hf st hg;subst hP hw hK;have hg:x.cps.size=i:=hg;subst hg;obtain ⟨⟨old,he⟩,hit⟩:=st;obtain ⟨f0,f1,f2,f3,f4,f5⟩:=hf it (by simp);exact wpAny_pyNext_enum_endD (zh1 (show X.A.in1.handled=none from I.ok.hd hc) it x t) he hit fun h' eb=>⟨rfl,I.turned (t':=s.toks) (fun b o hb e=>eb b o hb e) f0 f1 f3 f4 f5⟩
 self:=fun _ _ _ _ _ st h=>let ⟨_,he⟩:=st.1;wpAny_pyIter_enum he h
theorem zgy (x:Str):(chW x).length=x.cps.size:=by unfold chW;simp
theorem zpg {x:Str}{i c:Nat} (h:x.cps[i]?=some c):(chW x)[i]?=some (W.str ⟨#[c]⟩):=by
 unfold chW;rw [List.getElem?_map,Array.getElem?_toList,h];rfl
section
variable {K:PySem.W.Frag}{F:Hp}
theorem z14 (x:Str):ItOk K F (Its x) (chW x) where
 go:=fun i H s hi=>by rw [zgy] at hi;exact hi
 stop:=fun H s=>by rw [zgy];exact Nat.le_refl _
 yld:=fun i H v H' s hi y=>by
  obtain ⟨e,c,hc,e2⟩:=y;subst e e2;exact ⟨_,zpg hc,.val (.str _)⟩
theorem zvi (x:Str):ItOk K F (IteS x) (zei (chW x) 0) where
 go:=fun i H s hi=>by rw [za8,zgy] at hi;exact hi
 stop:=fun H s=>by rw [za8,zgy];rfl
 yld:=fun i H v H' s hi y=>by
  obtain ⟨p,c,e,hp,e2,hc⟩:=y;subst e e2;refine ⟨_,zcn (zpg hc),?_⟩;rw [Nat.zero_add];exact .tup hp (.cons (.int _) (.cons (.str _) .nil))
end
section
variable {X:Cx}{tg:Expr}
noncomputable def z3j (K:PySem.W.Frag) (tl:TE):TI:=fun σ H R=>tl σ H fun v H1=>(∃x,v=.str x/\R (Its x) H1)\/∃a,v=.ref a/\((∃xs,SqL K H1 a xs)/\R (Itl K a) H1\/(∃xs,SqT K H1 a xs)/\R (Itt K a) H1)
theorem zzt {l:Expr}{tl:TE} (hl:PE X l tl):PI X tg l (z3j X.K tl):=fun pins s σ H R I h =>
 thn (hl pins s σ H _ I h) fun v s1 ⟨x,H1,I1,r1,q1⟩=>by
  have fp:∀b∈[s1.heap.objs.size],FpOk X pins H1 b:=fun b hb=>by
   rw [List.mem_singleton] at hb;subst hb;exact I1.fpOk (Nat.le_refl _) (I1.hok.fresh (Nat.le_refl _))
  rcases q1 with ⟨z,rfl,q⟩ | ⟨a,rfl,q1⟩
  ·obtain ⟨t, rfl⟩ := r1;exact wpAny_pyIter_strU ⟨_,_,_,_,H1,rfl,I1.kept (t':=s1.toks) fun b o e=>Heap.get?_push_of_some _ e,zti z t _,⟨_,Heap.get?_push_size _ rfl,rfl,rfl⟩,fp,q⟩
  ·cases r1;rcases q1 with ⟨⟨xs,hq⟩,q⟩ | ⟨⟨xs,hq⟩,q⟩
   ·obtain ⟨its, _, p, _⟩ := I1.list hq;exact wpAny_pyIter_list p.isList ⟨_,_,_,_,H1,rfl,I1.kept (t':=s1.toks) fun b o e=>Heap.get?_push_of_some _ e,zi5 a _,⟨_,Heap.get?_push_size _ rfl,rfl,rfl⟩,fp,q⟩
   ·obtain ⟨its, _, p, _⟩ := I1.tuple hq;exact wpAny_pyIter_tuple (show s1.heap.IsTuple a its.toArray from p) ⟨_,_,_,_,H1,rfl,I1.kept (t':=s1.toks) fun b o e=>Heap.get?_push_of_some _ e,zf2 a _,⟨_,Heap.get?_push_size _ rfl,rfl,rfl⟩,fp,q⟩
noncomputable def zwh (ta:TA):TI:=fun σ H R=>ta σ H fun vs H1=>∃x,vs=[.str x]/\R (IteS x) H1
theorem ztw {es:List Expr}{x1}{px:Pos}{l:Expr}{tl:TA}{p pos:Pos} (hg:Gl X "enumerate") (hm:X.mg "enumerate" = none) (hl:PA X [l] tl) (hs:starEach [l] X.env=[(false,eval l X.env)]:=by rfl) :
  PI X (.Tuple es x1 px) (.Call (.Name "enumerate" p) [l] [] pos) (zwh tl):=by
 intro pins s σ H R I h;refine Call_ (zc4 I hg hm boot_enumerate (PyProof.Rows.callWith_type1 (thn (hl pos pins s σ H _ I h) fun us s1 ⟨vs,H1,I1,r1,q1⟩=>?_) hs rfl));obtain ⟨x,e,q⟩:=q1;subst e;obtain ⟨u,rfl,ru⟩:=r1.one;obtain ⟨t,rfl⟩:=ru;have fp:∀b∈[s1.heap.objs.size+1,s1.heap.objs.size],FpOk X pins H1 b:=fun b hb=>by
  have e:s1.heap.objs.size<=b:=by
   rcases List.mem_cons.mp hb with rfl | hb
   ·exact Nat.le_succ _
   ·have e2 : b = s1.heap.objs.size := by simpa using hb
    rw [e2];exact Nat.le_refl _
  exact I1.fpOk e (I1.hok.fresh e)
 refine call_enumerate_str fun h' he hit hsz hk=>wpAny_pyIter_enum he ?_;exact ⟨s1.heap.objs.size+1,[s1.heap.objs.size+1,s1.heap.objs.size],_,_,H1,rfl,I1.kept (t':=s1.toks) hk,zoh x t _ _ (Nat.succ_ne_self _),⟨⟨_,by simpa using he⟩,hit⟩,fp,q⟩
end
noncomputable def zob (g:GE):GL:=fun en=>(g en).bind fun p=>(seqS p.2.1).bind fun ws=>some (p.1,ws)
noncomputable def zwl (g:GE):GL:=fun en=>(g en).bind fun p=>match p.2.1 with
 | .str x=>some (p.1,zei (chW x) 0)
 | _=>none
section
variable {K:PySem.W.Frag}{σ:St}{H:Hp}
theorem Rep.isStr {F:Hp}{x:Str}{v:V} (h:Rep K F (.str x) v):v=.str x:=by cases h;rfl
theorem zrf {g:GE}{R:It->Hp->Prop} (h:tI K (zob g) σ H R):z3j K (tE K g) σ H R:=by
 refine aG fun _ qG=>?_;obtain ⟨F,pr,en,en',ws,Re,h,q⟩:=h;obtain ⟨⟨e1,rv⟩,h1,h⟩:=bS h;obtain ⟨us,hs,h⟩:=bS h;refine qG ?_;clear qG;cases h;refine ⟨F,pr,en,e1,rv,Re,h1,fun F1 H1 v s1 R1 z=>?_⟩;obtain ⟨F2,s2,R2,y⟩:=z.freeze R1;obtain ⟨w,fl⟩:=rv;by_cases hw:∃x,w=.str x
 ·obtain ⟨x, rfl⟩ := hw;obtain rfl:=sI hs;exact .inl ⟨x,y.isStr,q F2 H1 _ (s1.trans s2) R2 (z14 x)⟩
 ·have hs:seqW w=some ws:=by
   cases w with
   | str x=>exact absurd ⟨x,rfl⟩ hw
   | _=>exact hs
  refine aG fun _ qG=>?_;obtain ⟨a,k,vs,e,hq,r⟩:=zbc y hs;refine qG ?_;clear qG;refine .inr ⟨a,e,?_⟩;cases k with
  | true=>exact .inl ⟨⟨vs,R2.sub.seq hq⟩,q F2 H1 _ (s1.trans s2) R2 (zhn hq r)⟩
  | false=>exact .inr ⟨⟨vs,zao R2.sub hq⟩,q F2 H1 _ (s1.trans s2) R2 (zwg hq r)⟩
theorem zn3 {g:GE}{R:It->Hp->Prop} (h:tI K (zwl g) σ H R):zwh (zcp (tE K g) tNil) σ H R:=by
  refine aG fun _ qG=>?_;obtain ⟨F,pr,en,en',ws,Re,h,q⟩:=h;obtain ⟨⟨e1,w,fl⟩,h1,h⟩:=bS h;refine qG ?_;clear qG;cases w with
  | str x =>
    cases h;refine ⟨F,pr,en,e1,(.str x,fl),Re,h1,fun F1 H1 v s1 R1 z=>?_⟩;obtain ⟨F2,s2,R2,y⟩:=z.freeze R1;exact ⟨x,by rw [y.isStr],q F2 H1 _ (s1.trans s2) R2 (zvi x)⟩
  | _=>exact noSome h
end
noncomputable def tN (S:Sx):Expr->Bool
 | .Name x _=>S.bn.contains ("t "++x:Str)
 | .Call (.Name x _) _ _ _=>S.bn.contains ("t "++x:Str)
 | _=>false
noncomputable def zyr (f:Sx->Expr->Option GE) (S:Sx) (tg e:Expr):Option GL:=match e with
  | .Name x p=>if tN S (.Name x p) then (f S (.Name x p)).bind fun g=>some (zob g) else none
  | .Call (.Name x _) [.Name y q] [] _=>(match tg with
    | .Tuple _ _ _=>if x == ("enumerate" : Str) && S.bl x && tN S (.Name y q) then (f S (.Name y q)).bind fun g=>some (zwl g) else none
    | _=>none)
  | _=>none
noncomputable def zs7 (f:Sx->Expr->Option GE) (S:Sx) (tg e:Expr):Option GL:=match zyr f S tg e with
 | some g=>some g
 | none=>zyv f S tg e
section
variable {X:Cx}{S:Sx}{d:Nat}{f:Sx->Expr->Option GE}
theorem zvg (Hf:za2 f) (C:CxOk X S d) {tg e:Expr}{g:GL} (h:zyr f S tg e=some g):PI X tg e (tI X.K g)/\∀x,foldedSetIterable e X.env x=pure x:=by
 unfold zyr at h;split at h
 ·split at h
  ·obtain ⟨ge, hg, h⟩ := bS h;obtain rfl:=sI h;exact ⟨(zzt (Hf X S d C _ _ hg)).wk fun _ _ _=>zrf,zde rfl⟩
  ·exact noSome h
 ·split at h
  ·split at h
   ·rename_i z;rw [Bool.and_eq_true,Bool.and_eq_true] at z;have e1:=eq_of_beq z.1.1;subst e1;obtain ⟨gl,mg⟩:=zed C z.1.2;obtain ⟨ge,hg,h⟩:=bS h;obtain rfl:=sI h;exact ⟨(ztw gl mg (pac (Hf X S d C _ _ hg) zbt rfl) (zad rfl)).wk fun _ _ _=>zn3,zde rfl⟩
   ·exact noSome h
  ·exact noSome h
 ·exact noSome h
theorem zmc (Hf:za2 f) (C:CxOk X S d) {tg e:Expr}{g:GL} (h:zs7 f S tg e=some g):PI X tg e (tI X.K g)/\∀x,foldedSetIterable e X.env x=pure x:=by
 unfold zs7 at h;split at h
 ·rename_i q;obtain rfl:=sI h;exact zvg Hf C q
 ·exact zu2 Hf C h
end
noncomputable def zxv:ON
 | [.str x]=>if x.length<=sizeLine then some (.int x.length,false) else none
 | ws=>oLen ws
noncomputable def zf9:ON
 | [.str x]=>if (reprText x).length<=sizeLine then some (.str (reprText x),false) else none
 | ws=>zlg ws
noncomputable def oIxS:O2
 | .str x,.int i=>if x.length<=sizeLine then (atI x.cps.toList i).bind fun c=>some (.str ⟨#[c]⟩,false) else none
 | _,_=>none
noncomputable def zcw:List W->Option (List Str)
 | []=>some []
 | .str x::ws=>(zcw ws).bind fun xs=>some (x::xs)
 | _=>none
noncomputable def zex (x:Str) (g:GE):GE:=fun en=>(g en).bind fun p=>match p.2.1 with
 | .lst ws=>(zcw ws).bind fun ys=>if (ys.map (·.length)).sum+ys.length * x.length<=16777216 then some (p.1,(.str (Txt.join x ys),false)) else none
 | _=>none
section
variable {K:PySem.W.Frag}
theorem zua:OpSN K (fun xs H Q=>(∃z,xs=[.str z]/\z.length<=sizeLine/\Q (.int z.length) H)\/∃p ys,xs=[.ref p]/\(SqL K H p ys\/SqT K H p ys)/\Q (.int ys.length) H) zxv:=fun F H ws vs rv Q s r e q=>by
 by_cases hw:∃x,ws=[.str x]
 ·obtain ⟨x, rfl⟩ := hw;have e:(if x.length<=sizeLine then some (W.int x.length,false) else none)=some rv:=e;split at e
  ·rename_i z;obtain rfl:=sI e;obtain ⟨v,e1,h⟩:=r.one;subst e1;exact .inl ⟨x,by rw [h.str],z,q _ _ (.val (.int _))⟩
  ·exact noSome e
 ·refine .inr (oLen_ok F H ws vs rv Q s r ?_ q);unfold zxv at e;split at e
  ·exact absurd ⟨_,rfl⟩ hw
  ·exact e
theorem zqp:OpSN K (fun xs H Q=>(∃z,xs=[.str z]/\(reprText z).length<=sizeLine/\Q (.str (reprText z)) H)\/zqr xs H Q) zf9:=fun F H ws vs rv Q s r e q=>by
 by_cases hw:∃x,ws=[.str x]
 ·obtain ⟨x, rfl⟩ := hw;have e:(if (reprText x).length<=sizeLine then some (W.str (reprText x),false) else none)=some rv:=e;split at e
  ·rename_i z;obtain rfl:=sI e;obtain ⟨v,e1,h⟩:=r.one;subst e1;exact .inl ⟨x,by rw [h.str],z,q _ _ (.val (.str _))⟩
  ·exact noSome e
 ·refine .inr (oRepr_ok F H ws vs rv Q s r ?_ q);unfold zf9 at e;split at e
  ·exact absurd ⟨_,rfl⟩ hw
  ·exact e
theorem zpi:OpS K rIxS oIxS:=fun F H w1 w2 v1 v2 rv Q s r1 r2 e q=>by
  cases w1 with
  | str x =>
    cases w2 with
    | int i =>
      have e:(if x.length<=sizeLine then (atI x.cps.toList i).bind fun c=>some (W.str ⟨#[c]⟩,false) else none)=some rv:=e;split at e
      · rename_i z
        obtain ⟨c,hc,e⟩:=bS e;obtain rfl:=sI e;exact ⟨x,i,c,r1.str,r2.int,z,hc,q _ _ (.val (.str _))⟩
      · exact noSome e
    | _=>exact noSome e
  | _=>exact noSome e
end
theorem zng {X:Cx}:zbu X (.builtin "repr") (fun xs H Q=>∃z,xs=[.str z]/\(reprText z).length<=sizeLine/\Q (.str (reprText z)) H):=by
 intro pins s σ H xs us Q I r h;obtain ⟨z,rfl,hz,q⟩:=h;obtain ⟨u,rfl,ru⟩:=r.one;obtain ⟨t,rfl⟩:=ru;exact PySem.P.repr_of_str ⟨.str _,H,I.tok _,⟨_,rfl⟩,q⟩ hz
noncomputable def z2f:V->List V->Hp->VK->Prop:=fun x vs H Q=>∃(z:Str) (a:Addr) (ys:List Str),x=.str z/\vs=[.ref a]/\H a=some (.lst (ys.map V.str))/\(ys.map (·.length)).sum+ys.length * z.length<=16777216/\Q (.str (Txt.join z ys)) H
theorem zoi:∀{ys:List Str}{its:List Value},Vals (ys.map V.str) its->StrsAre its ys:=by
  intro ys
  induction ys with
  | nil=>intro its r;cases r;exact .nil
  | cons y ys ih =>
    intro its r;cases r with
    | cons h r =>
      obtain ⟨t,rfl⟩:=h;exact .cons _ _ (ih r)
theorem zzp {X:Cx}:MtR X "str.join" z2f:=by
 intro pins s σ H x vs v us Q I rx rv h;obtain ⟨z,a,ys,rfl,rfl,hH,hz,q⟩:=h;obtain ⟨t,rfl⟩:=rx;obtain ⟨u,rfl,ru⟩:=rv.one;cases ru;obtain ⟨z9,its,n,r,hl,e⟩:=I.lstM hH;exact join_list ⟨_,e,rfl,n,rfl⟩ (zoi r) hz fun t' k=>⟨.str _,H,I.tok _,⟨_,rfl⟩,q⟩
section
variable {K:PySem.W.Frag}{σ:St}{H:Hp}
theorem zkr {F:Hp}:∀{ws:List W}{ys:List Str}{vs:List V},zcw ws=some ys->Reps K F ws vs->vs=ys.map V.str:=by
  intro ws
  induction ws with
  | nil=>intro ys vs e r;obtain rfl:=sI e;cases r;rfl
  | cons w ws ih =>
    intro ys vs e r;cases w with
    | str x =>
      obtain ⟨xs,h1,h2⟩:=bS (show (zcw ws).bind _=_ from e);obtain rfl:=sI h2;cases r with
      | cons h r=>rw [h.isStr,ih h1 r];rfl
    | _=>exact noSome e
theorem zpr {x:Str}{g:GE}{Q:VK} (h:tE K (zex x g) σ H Q):tBM K "str" z2f (tC (.str x)) (zcp (tE K g) tNil) σ H Q:=by
  refine aG fun _ qG=>?_;obtain ⟨F,pr,en,en',r,R,h,q⟩:=h;obtain ⟨⟨e1,w1,f1⟩,h1,h⟩:=bS h;refine qG ?_;clear qG;cases w1 with
  | lst ws =>
    obtain ⟨ys,hy,h⟩:=bS (show (zcw ws).bind _=_ from h);split at h
    · rename_i hz
      cases h;refine ⟨rfl,F,pr,en,e1,(.lst ws,f1),R,h1,fun F1 H1 v1 s1 R1 y1=>?_⟩;obtain ⟨F2,s2,R2,y2⟩:=y1.freeze R1;obtain ⟨a,vs,ea,hl,rr⟩:=RepB.lst R2.sub (.inl y2);subst ea;refine ⟨x,a,ys,rfl,rfl,?_,hz,q F2 H1 _ (s1.trans s2) R2 (.str _)⟩;rw [<-zkr hy rr];exact hl
    · exact noSome h
  | _=>exact noSome h
end
section
open PySem.AutoSeq1 (wpAny_loadPart')
set_option maxHeartbeats 1000000 in
theorem zq8 (l b c c' : Addr) (i j:Int) (t u:Tok) (n n2:Nat) (dd dd2:Option Addr) (sl sl2:Array (Option Value)) (ns ms:List Int) (its its' : List Value) (h1:IntsAre its ns) (h2:IntsAre its' ms) :
  Meets (Builtin.«tuple.__lt__» ⟨[.ref l,.ref b],[]⟩)
   (fun A R s=>s.heap.get? l=some { cls:=.type "tuple",dict:=dd,data:=.seq #[.int i t,.ref c] n,slots:=sl }/\s.heap.get? b=some { cls:=.type "tuple",dict:=dd2,data:=.seq #[.int j u,.ref c'] n2,slots:=sl2 }/\A.units+5 < cLine/\IsTup s.heap c its.toArray/\IsTup s.heap c' its'.toArray /\
    R (.ok (.ret (.bool (lexI (i::ns) (j::ms))))) s) :=
 .of_wp fun prog w A R s h=>by
  obtain ⟨hp,g,d,tk,os⟩:=s;obtain ⟨hl,hb,hu,q1,q2,h⟩:=h;have f2:=AutoSeq1.sub_tuple_tuple;have hu1:A.in1.units+1 < cLine:=by show A.units+1+1 < cLine;omega
  wp_walk using wpAny_loadPart' hl,wpAny_loadPart' hb
  refine show wpAny _ _ (eqBool (.int i t) (.int j u)) _ _ _ from wpAny_eqBool_int ?_
  unfold lexI at h;by_cases q:i=j
  ·rw [if_pos q] at h;rw [show (i == j)=true by simpa using q]
   wp_walk using zl9 hu1 q1 h1 q2 h2
   by_cases z:ns=ms
   ·rw [decide_eq_true z]
    wp_walk
    refine ⟨_,rfl,?_⟩;rw [z,zcg] at h;simpa [Builtin.Tuple.tupleCompareSizes] using h
   ·rw [decide_eq_false z];simp only [Bool.not_false,if_true];refine wpAny_bind (wpAny_rule ?_);refine wpAny_bind (show wpAny _ _ (compareOp .Lt _ _) _ _ _ from zmt (by omega) q1 h1 q2 h2 ?_)
    wp_walk
    exact ⟨_,rfl,by simpa using h⟩
  ·rw [if_neg q] at h;rw [show (i == j)=false by simpa using q];simp only [Bool.not_false,if_true];refine wpAny_bind (wpAny_rule ?_);refine wpAny_bind (show wpAny _ _ (compareOp .Lt _ _) _ _ _ from PyProof.Rows.lt_int ?_)
   wp_walk
   exact ⟨_,rfl,by simpa using h⟩
end
noncomputable def rLtP:R2:=fun x y H Q=>∃a b c c' i j ns ms,x=.ref a/\y=.ref b/\H a=some (.tup [.int i,.ref c])/\H b=some (.tup [.int j,.ref c'])/\H c=some (.tup (ns.map V.int))/\H c'=some (.tup (ms.map V.int))/\Q (.bl (lexI (i::ns) (j::ms))) H
theorem z00 {X:Cx} (hu:X.A.units+6 < cLine):OpR X (compareOp .Lt) rLtP:=by
 intro pins s σ H x y v u Q I rx ry h;obtain ⟨a,b,c,c',i,j,ns,ms,rfl,rfl,ha,hb,hc,hc',q⟩:=h;cases rx;cases ry;obtain ⟨its,r1,t1,_⟩:=I.tuple (.inl (.inl ha));obtain ⟨its2,r2,t2,_⟩:=I.tuple (.inl (.inl hb));obtain ⟨is3,r3,t3,_⟩:=I.tuple (.inl (.inl hc));obtain ⟨is4,r4,t4,_⟩:=I.tuple (.inl (.inl hc'));obtain ⟨v1,v2,rfl,e1,e2⟩:=r1.two;obtain ⟨w1,w2,rfl,e3,e4⟩:=r2.two;obtain ⟨tk1,rfl⟩:=e1;obtain ⟨tk2,rfl⟩:=e3;cases e2;cases e4;obtain ⟨⟨cls,dd,data,sl⟩,ho,hc,n,hd⟩:=id t1;obtain ⟨⟨cls2,dd2,data2,sl2⟩,ho2,hc2,n2,hd2⟩:=id t2;simp only at hc hd hc2 hd2;subst hc hd hc2 hd2;exact richCompare_meets_room (op:=.Lt) ⟨_,ho,rfl⟩ ⟨_,ho2,rfl⟩ F.slot_tuple_lt F.entry_tuple_lt (F.args_tuple_lt_2 _ _) (zq8 a b c c' i j tk1 tk2 n n2 dd dd2 sl sl2 ns ms is3 is4 (zfy r3) (zfy r4))
  ⟨ho,ho2,(show X.A.units+5 < cLine by omega),t3,t4,show Value.bool (lexI (i::ns) (j::ms))≠Value.notImplemented/\_ from ⟨(fun x=>nomatch x),⟨.bl _,H,I,rfl,q⟩⟩⟩ (by omega)
noncomputable def keyP:W->Option (List Int)
 | .tup [.int i,.tup us]=>(zc5 us).bind fun ns=>some (i::ns)
 | _=>none
noncomputable def oLtX:O2:=fun a b=>match a,b with
 | .int i,.int j=>some (.bl (decide (i < j)),false)
 | a,b=>(keyP a).bind fun k=>(keyP b).bind fun k'=>some (.bl (lexI k k'),false)
theorem zrq {K:PySem.W.Frag}{F H:Hp}{w:W}{v:V}{k:List Int} (s:Same F H) (r:RepB K F H w v) (e:keyP w=some k):∃a c i ns,k=i::ns/\v=.ref a/\H a=some (.tup [.int i,.ref c])/\H c=some (.tup (ns.map V.int)):=by
  unfold keyP at e;split at e
  · rename_i i us
    obtain ⟨ns,hn,e⟩:=bS e;obtain rfl:=sI e;obtain ⟨a,vs,e1,h1,f1,p1⟩:=r.tup s;obtain ⟨v1,us1,rfl,q1,p1⟩:=p1.uncons;obtain ⟨v2,us2,rfl,q2,p2⟩:=p1.uncons;cases p2;cases q1;cases q2 with
    | tup h2 p3 =>
      rw [zdo hn] at p3;rw [p3.ints] at h2;exact ⟨a,_,i,ns,rfl,e1,h1,s _ _ h2⟩
  · exact noSome e
theorem zp9 {K:PySem.W.Frag}:OpS K (fun x y H Q=>(∃i j,x=.int i/\y=.int j/\Q (.bl (decide (i < j))) H)\/rLtP x y H Q) oLtX:=fun F H w1 w2 v1 v2 rv Q s r1 r2 e q=>by
 unfold oLtX at e;split at e
 ·obtain rfl := sI e;exact .inl ⟨_,_,r1.int,r2.int,q _ _ (.val (.bl _))⟩
 ·obtain ⟨k, hk, e⟩ := bS e;obtain ⟨k',hk',e⟩:=bS e;obtain rfl:=sI e;obtain ⟨a,c,i,ns,rfl,rfl,h1,h2⟩:=zrq s r1 hk;obtain ⟨b,c',j,ms,rfl,rfl,h3,h4⟩:=zrq s r2 hk';exact .inr ⟨a,b,c,c',i,j,ns,ms,rfl,rfl,h1,h3,h2,h4,q _ _ (.val (.bl _))⟩
section
variable {X:Cx}{S:Sx}{d:Nat}{fE:Sx->Expr->Option GE}
noncomputable def zj5 (fE:Sx->Expr->Option GE) (S:Sx):Expr->Option GE
 | .Call (.Attribute (.Constant (.str x) _ _) name apos) [e] [] cpos=>if name == ("join" : Str) && (apos.endLine == cpos.line) && zaf e then (fE S e).bind fun g=>some (zex x g) else none
 | _=>none
theorem znn (HE:za2 fE) (C:CxOk X S d):zgt (zj5 fE S) X:=fun e g h=>by
 unfold zj5 at h;split at h
 ·split at h
  ·rename_i z;rw [Bool.and_eq_true,Bool.and_eq_true] at z;obtain ⟨⟨z1,z2⟩,y⟩:=z;have e1:=eq_of_beq z1;subst e1;obtain ⟨g1,hg1,h⟩:=bS h;obtain rfl:=sI h;exact (zv3 PySem.F.plainAttrs_str PySem.F.slot_str_join PySem.F.type_str_join zzp zqh (pac (HE X S d C _ _ hg1) zbt y) (zhl rfl) (zgn y) z2 (zad y) rfl).wk fun _ _ _=>zpr
  ·exact noSome h
 ·exact noSome h
noncomputable def zp8 (fE:Sx->Expr->Option GE) (S:Sx):Expr->Option GE
 | .Subscript (.Constant (.str x) k p) s _=>if zbk s && zaf s then (zap fE S (.Constant (.str x) k p)).bind fun x=>(zap fE S s).bind fun y=>some (gOp2 oIxS x y) else none
 | _=>none
theorem zsr (HE:za2 fE) (C:CxOk X S d):zgt (zp8 fE S) X:=fun e g h=>by
 unfold zp8 at h;split at h
 ·split at h
  ·rename_i z;rw [Bool.and_eq_true] at z;obtain ⟨x,hx,h⟩:=bS h;obtain ⟨y,hy,h⟩:=bS h;obtain rfl:=sI h;exact (zzz zwb (zac HE C hx) (zac HE C hy) (zd2 z.1)).wk fun _ _ _=>zbh zpi
  ·exact noSome h
 ·exact noSome h
noncomputable def zj7 (fE:Sx->Expr->Option GE) (S:Sx):Expr->Option GE
 | .Call (.Name x _) [e] [] _=>if tN S e && S.bl x && zaf e then (if x == ("len" : Str) then (asL (zap fE S) [e]).bind fun as=>some (gOpN zxv as) else if x == ("repr" : Str) then (asL (zap fE S) [e]).bind fun as=>some (gOpN zf9 as) else none) else none
 | _=>none
theorem zn5 (HE:za2 fE) (C:CxOk X S d):zgt (zj7 fE S) X:=fun e g h=>by
 unfold zj7 at h;split at h
 ·split at h
  ·rename_i z;rw [Bool.and_eq_true,Bool.and_eq_true] at z;obtain ⟨gl,m⟩:=zed C z.1.2;split at h
   ·rename_i z1;have e1:=eq_of_beq z1;subst e1;obtain ⟨as,has,h⟩:=bS h;obtain rfl:=sI h;obtain ⟨pa,_⟩:=zff (fun e a ha=>zac HE C ha) has;exact (za5 (zi8.or zd7) gl m zv6 pa (by decide) (by decide) (zad z.2) rfl).wk fun _ _ _=>zgr zua
   ·split at h
    ·rename_i z1;have e1:=eq_of_beq z1;subst e1;obtain ⟨as,has,h⟩:=bS h;obtain rfl:=sI h;obtain ⟨pa,_⟩:=zff (fun e a ha=>zac HE C ha) has;exact (za5 (zng.or (zju C.room)) gl m zp2 pa (by decide) (by decide) (zad z.2) rfl).wk fun _ _ _=>zgr zqp
    ·exact noSome h
  ·exact noSome h
 ·exact noSome h
noncomputable def cmpL (f:Sx->Expr->Option GE) (S:Sx) (a:Expr) (ops:List CmpOp) (cs:List Expr):Option GE:=match ops,cs with
 | [.Lt],[b]=>if S.bn.contains ("lt" : Str) then (zap f S a).bind fun x=>(zap f S b).bind fun y=>some (gOp2 oLtX x y) else none
 | _,_=>none
theorem zy3 (Hf:za2 fE) (C:CxOk X S d) {a:Expr}{ops:List CmpOp}{cs:List Expr}{g:GE}{pos:Pos} (h:cmpL fE S a ops cs=some g):PE X (.Compare a ops cs pos) (tE X.K g)/\PT X (.Compare a ops cs pos) (tT X.K (zah g)):=by
 unfold cmpL at h;split at h
 ·rename_i b;split at h
  ·obtain ⟨x, hx, h⟩ := bS h;obtain ⟨y,hy,h⟩:=bS h;obtain rfl:=sI h;have h1:OpR X (compareOp .Lt) (fun x y H Q=>(∃i j,x=.int i/\y=.int j/\Q (.bl (decide (i < j))) H)\/rLtP x y H Q):=.or z2k (z00 (by have:=C.sl;omega));exact ⟨(zqi h1 (zac Hf C hx) (zac Hf C hy) (zwm b)).wk fun _ _ _=>zbh zp9,(zph h1 (zac Hf C hx) (zac Hf C hy) (zwm b)).wk fun _ _ _=>zdm fun _ _ _=>zbh zp9⟩
  ·exact noSome h
 ·exact noSome h
noncomputable def cmpZ (f:Sx->Expr->Option GE) (S:Sx) (a:Expr) (ops:List CmpOp) (cs:List Expr):Option GE:=match cmpL f S a ops cs with
 | some g=>some g
 | none=>cmpE f S a ops cs
theorem zsw (Hf:za2 fE) (C:CxOk X S d) {a:Expr}{ops:List CmpOp}{cs:List Expr}{g:GE}{pos:Pos} (h:cmpZ fE S a ops cs=some g):PE X (.Compare a ops cs pos) (tE X.K g)/\PT X (.Compare a ops cs pos) (tT X.K (zah g)):=by
 unfold cmpZ at h;split at h
 ·rename_i q;obtain rfl:=sI h;exact zy3 Hf C q
 ·exact zy0 Hf C h
end
set_option maxHeartbeats 1000000
theorem za1:Slot "reversed" "__next__" "reversed.__next__" :=
 .of (owner := "reversed") (n := "__next__") (by rw [typeLookup_type,builtinLookup_eq_fast];kernel_rfl) (by decide +kernel) (by decide +kernel) (by decide +kernel)
  (by first | exact .inl (by decide +kernel) | exact .inr (by decide +kernel)) (by rw [isSubtype_type];kernel_rfl)
theorem zc6:entryFor table "reversed.__next__" = some Builtin.«reversed.__next__»:=entryFor_of_tree (by kernel_rfl)
theorem zdp (a:Value):argsOk "reversed.__next__" ⟨[a],[]⟩:=by unfold argsOk;kernel_rfl
theorem zdj:Slot "reversed" "__iter__" "reversed.__iter__" :=
 .of (owner := "reversed") (n := "__iter__") (by rw [typeLookup_type,builtinLookup_eq_fast];kernel_rfl) (by decide +kernel) (by decide +kernel) (by decide +kernel)
  (by first | exact .inl (by decide +kernel) | exact .inr (by decide +kernel)) (by rw [isSubtype_type];kernel_rfl)
theorem zgo (a:Value):argsOk "reversed.__iter__" ⟨[a],[]⟩:=by unfold argsOk;kernel_rfl
theorem zft:entryFor table "reversed.__iter__" = some Builtin.«dict_keyiterator.__iter__» :=
 entryFor_alias (id' := "dict_keyiterator.__iter__") (by kernel_rfl) rfl (by decide +kernel) (by kernel_rfl)
theorem z24:typeLookup (.type "tuple") "__reversed__" = pure none:=by rw [typeLookup_type,builtinLookup_eq_fast];kernel_rfl
noncomputable def zcu (h:Heap) (r l:Addr) (i:Int):Prop:=∃o,h.get? r=some o/\o.cls=.type "reversed"/\o.data=.fields #[.ref l,rawInt i]
section
variable {prog:Program}{w:World}{A:Around}{E:Value->Shared->Prop}{s:Shared}
theorem zcu.ty {r l:Addr}{i:Int} (x:zcu s.heap r l i):s.TypeIs (.ref r) "reversed" := let ⟨o,ho,hc,_⟩:=x;⟨o,ho,hc⟩
theorem zqg {it l:Addr}{i:Nat}{items:Array Value}{x:Value}{Q:Option Value->Shared->Prop} (hit:zcu s.heap it l (i:Int)) (hl:IsTup s.heap l items) (hx:items[i]?=some x) (hz:items.size<=sizeLine)
  (hQ:∀h',zcu h' it l ((i:Int) - 1)->Heap.SameBut it s.heap h'->Q (some x) { s with heap:=h',toks:=s.toks+1 }):wpAny (model prog w) A (pyNext (.ref it)) Q E s:=by
 obtain ⟨o,ho,hc,hd⟩:=id hit;have hi:i < items.size:=(Array.getElem?_eq_some_iff.mp hx).1;have sz:sizeLine=16777216:=sizeLine_eq;unfold pyNext;refine wpAny_bind (wpAny_attempt (wpAny_callSpecial?_slot (name:=Str.ofString "__next__") hit.ty za1
  (wpAny_call_entry za1 hit.ty zc6 ?_ (zdp _))))
 unfold Builtin.«reversed.__next__»;refine wpAny_bind (wpAny_of_eq (a:=(Value.ref it,[])) rfl ?_)
 try dsimp only
 refine wpAny_bind (wpAny_field ho hd (x:=.ref l) rfl ?_);refine wpAny_bind (wpAny_field ho hd (x:=rawInt (i:Int)) rfl ?_);show wpAny _ _ (if (i:Int) < 0 then _ else _) _ _ s;rw [if_neg (by omega)];refine wpAny_bind (wpAny_specialOf hl.typeIs PyProof.Rows.slot_tuple_getitem.lookup ?_);rw [if_neg (by decide)];refine wpAny_bind (wpAny_mkInt ?_);refine wpAny_bind (wpAny_attempt (getItem_tuple (j:=i) hl (by omega) (by omega) (PySem.StrLaws.seqIndex_nonneg (by omega) (by omega)) hx ?_))
 try dsimp only
 refine wpAny_bind (wpAny_field ho hd (x:=rawInt (i:Int)) rfl ?_);show wpAny _ _ (setField (.ref it) 1 (rawInt ((i:Int) - 1)) >>= fun _=>ret x) _ _ _;refine wpAny_bind (wpAny_setField ho hd (by simp) ?_);refine wpAny_pure ⟨x,rfl,wpAny_pure (hQ _ ?_ (Heap.SameBut.update ..))⟩;exact ⟨_,Heap.get?_update_self _ ho (Obj.isFreed_of_fields (Obj.data_mapFields hd _)),(Obj.cls_mapFields ..).trans hc,by
  rw [Obj.data_mapFields hd];simp⟩
theorem zv5 {it l:Addr}{Q:Option Value->Shared->Prop} (hh:A.handled=none) (hit:zcu s.heap it l (-1))
  (hQ:∀h',Heap.ExtBut it s.heap h'->Q none { s with heap:=h' }):wpAny (model prog w) A (pyNext (.ref it)) Q E s:=by
 obtain ⟨o,ho,hc,hd⟩:=id hit;unfold pyNext;refine wpAny_bind (wpAny_attempt (wpAny_callSpecial?_slot (name:=Str.ofString "__next__") hit.ty za1
  (wpAny_call_entry za1 hit.ty zc6 ?_ (zdp _))))
 unfold Builtin.«reversed.__next__»;refine wpAny_bind (wpAny_of_eq (a:=(Value.ref it,[])) rfl ?_)
 try dsimp only
 refine wpAny_bind (wpAny_field ho hd (x:=.ref l) rfl ?_);refine wpAny_bind (wpAny_field ho hd (x:=rawInt (-1)) rfl ?_);show wpAny _ _ (if (-1:Int) < 0 then _ else _) _ _ s;rw [if_pos (by decide)];refine wpAny_bind (wpAny_rule ?_);refine wpAny_bind (show wpAny _ _ (setField (.ref it) 1 (rawInt (-1)) >>= fun _=>setField (.ref it) 0 .none) _ _ _ from ?_);refine wpAny_bind (wpAny_setField ho hd (by simp) ?_);have h2:=Heap.get?_update_self (Obj.mapFields (·.setIfInBounds 1 (rawInt (-1)))) ho (Obj.isFreed_of_fields (Obj.data_mapFields hd _));refine wpAny_setField h2 (Obj.data_mapFields hd _) (by simp) ?_;show wpAny _ _ (Builtin.SmallTypes.stopIteration >>= _) _ _ _;refine wpAny_bind ?_;unfold Builtin.SmallTypes.stopIteration;simp only [newExc,newTuple];refine wpAny_bind ?_;refine wpAny_bind (wpAny_newObj_type ?_ (by size_fits));refine wpAny_bind (m:=firstArgMember _ _) (wpAny_of_eq (a:=Value.none) (by first | rfl | (simp only [firstArgMember];rfl)) ?_);refine wpAny_newObj_type ?_ (by size_fits);simp only [raiseNew];refine wpAny_bind (wpAny_handled ?_)
 first | rw [show A.in1.handled=none from hh] | rw [hh]
 refine wpAny_bind (wpAny_pure (wpAny_throw ?_));refine wpAny_bind (wpAny_isInstance (T := "StopIteration") (b:=true) ⟨_,Heap.get?_push_size _ rfl,rfl⟩ isSubtype_stop ?_);exact wpAny_pure (hQ _ ((((Heap.SameBut.update ..).extBut.trans (Heap.SameBut.update ..).extBut).push _).push _))
theorem zjk {it l:Addr}{i:Int}{Q:Value->Shared->Prop} (hit:zcu s.heap it l i) (h:Q (.ref it) s):wpAny (model prog w) A (pyIter (.ref it)) Q E s:=by
 refine wpAny_pyIter_slot hit.ty zdj (wpAny_call_entry zdj hit.ty zft ?_ (zgo _));show wpAny _ _ (ret (.ref it)) _ _ s;exact wpAny_pure ⟨_,rfl,"reversed",_,hit.ty,za1.lookup,h⟩
end
end L2
namespace L2
open PySem PySem.Spec PyProof.Rows
section
variable {prog:Program}{w:World}{A:Around}{E:Value->Shared->Prop}{s:Shared}
theorem zgw:Slot "reversed" "__init__" "object.__init__" :=
 .of (owner := "object") (n := "__init__") (by rw [typeLookup_type,builtinLookup_eq_fast];kernel_rfl) (by decide +kernel) (by decide +kernel) (by decide +kernel)
  (by first | exact .inl (by decide +kernel) | exact .inr (by decide +kernel)) (by rw [isSubtype_type];kernel_rfl)
theorem zn1:TypeCalled "reversed" "reversed.__new__" "object.__init__" :=
 ⟨by decide +kernel,by decide +kernel,⟨_,_,F.mro_reversed⟩,madeBy_type F.mro_reversed F.lookup_reversed_new (by decide +kernel),by decide +kernel,by rw [isSubtype_type];kernel_rfl,zgw⟩
theorem zg0 (l:Addr) (items:Array Value) (hz:items.size<=sizeLine) :
  Meets (Builtin.«reversed.__new__» ⟨[.type "reversed",.ref l],[]⟩)
   (fun _ R s=>IsTup s.heap l items/\∀tk,R (.ok (.ret (.ref s.heap.objs.size))) { s with heap:=s.heap.push { cls:=.type "reversed",data:=.fields #[.ref l,rawInt ((items.size:Int) - 1)] },toks:=tk }) :=
 .of_wp fun prog w A R s h=>by
  obtain ⟨hl,h⟩:=h;have sz:sizeLine=16777216:=sizeLine_eq;unfold Builtin.«reversed.__new__»;refine wpAny_bind (wpAny_of_eq (newClass_reversed _) ?_)
  try dsimp only
  refine wpAny_bind (wpAny_of_eq (a:=()) (by first | rfl | kernel_rfl) ?_);refine wpAny_bind (wpAny_of_eq (a:=()) (by first | rfl | kernel_rfl) ?_)
  try dsimp only
  refine wpAny_bind (wpAny_specialOf hl.typeIs z24 ?_)
  try dsimp only
  refine wpAny_bind (show wpAny _ _ (isInstance (.ref l) (.type "dict") >>= _) _ _ _ from ?_);refine wpAny_bind (wpAny_isInstance (T := "tuple") (b:=false) hl.typeIs (by rw [isSubtype_type];kernel_rfl) ?_);show wpAny _ _ (specialOf (.ref l) (Str.ofString "__getitem__") >>= _) _ _ _;refine wpAny_bind (wpAny_specialOf hl.typeIs PyProof.Rows.slot_tuple_getitem.lookup ?_)
  try dsimp only
  rw [if_pos (by decide +kernel)];refine wpAny_pure ?_;rw [if_neg (by decide)];refine wpAny_bind (len_tuple hl (by omega) ?_);refine wpAny_bind (wpAny_of_eq (a:=some (items.size:Int)) rfl ?_)
  try dsimp only
  refine wpAny_bind (show wpAny _ _ (newObj (.type "reversed") (.fields #[.ref l,rawInt ((items.size:Int) - 1)])) _ _ _ from wpAny_newObj_type ?_);exact wpAny_pure ⟨_,rfl,h _⟩
theorem ztk {l:Addr}{items:Array Value}{Q:Value->Shared->Prop} (hl:IsTup s.heap l items) (hz:items.size<=sizeLine)
  (h:∀tk,Q (.ref s.heap.objs.size) { s with heap:=s.heap.push { cls:=.type "reversed",data:=.fields #[.ref l,rawInt ((items.size:Int) - 1)] },toks:=tk }):wpAny (model prog w) A (call (.type "reversed") [.ref l]) Q E s :=
 callType_new zn1 (by decide) (F.typeCall_reversed_1 _) (F.newCall_reversed_1 _) (fun obj=>F.args_object_init_2 obj _) F.entry_reversed_new (zg0 l items hz) ⟨hl,fun tk=>⟨⟨_,Heap.get?_push_size _ rfl,rfl⟩,h tk⟩⟩
theorem zcu.at {h h' : Heap}{r l:Addr}{i:Int} (x:zcu h r l i) (e:∀o,h.get? r=some o->h'.get? r=some o):zcu h' r l i:=let ⟨o,ho,q⟩:=x;⟨o,e _ ho,q⟩
end
section
variable {X:Cx}{S:Sx}{d:Nat}{fE:Sx->Expr->Option GE}
end
section
variable {X:Cx}{S:Sx}{d:Nat}{fE:Sx->Expr->Option GE}
end
end L2
namespace L2
open PySem PySem.Spec PyProof.Rows
namespace SetT
noncomputable abbrev HT:=Array Int × SetTable
end SetT
section
variable {prog:Program}{w:World}{A:Around}{E:Value->Shared->Prop}{s:Shared}
end
section
variable {prog:Program}{w:World}{A:Around}{R:Result->Shared->Prop}{I:Addr}{fp wr:List Addr}{G:Array GenState->Array GenState->Prop}{n:Nat}{P:Nat->Value->Prop}{St:Nat->Shared->Prop}
end
section
variable {prog:Program}{w:World}{A:Around}{E:Value->Shared->Prop}{s:Shared}
end
end L2
namespace L2
open PySem PySem.Spec PyProof.Rows
section
variable {prog:Program}{w:World}{A:Around}{E:Value->Shared->Prop}{s:Shared}{it d:Addr}{es:Array (Int × Value)}{ep slot i:Nat}{t:SetTable}
end
end L2
namespace L2
open PySem PySem.Spec PyProof.Rows
section
variable {prog:Program}{w:World}{A:Around}{E:Value->Shared->Prop}{s:Shared}
end
end L2
namespace L2
open PySem PySem.Spec PyProof.Rows
section
variable {X:Cx}{pins:List (Addr × Obj)}{σ:St}{H:Hp}
end
section
variable {X:Cx}{pins:List (Addr × Obj)}{σ:St}{H:Hp}
end
section
variable {X:Cx}{S:Sx}{d:Nat}{fE:Sx->Expr->Option GE}
end
end L2
namespace L2
open PySem PySem.Spec PyProof.Rows
section
variable {fE:Sx->Expr->Option GE}{X:Cx}{S:Sx}{d:Nat}
end
end L2
namespace L2
open PySem PySem.Spec PyProof.Rows
noncomputable def sgW:W:=.str "abcdef"
noncomputable def isSg (S:Sx):Expr->Bool
 | .Name x _=>x == ("SIGNS" : Str) && (S.kd.lookup x == some .globalImplicit && S.bn.contains ("g SIGNS" : Str))
 | _=>false
theorem zx5 {X:Cx}{S:Sx}{d:Nat} (C:CxOk X S d) {e:Expr} (h:isSg S e=true):PE X e (tC (.str "abcdef")):=by
 unfold isSg at h;split at h
 ·rw [Bool.and_eq_true, Bool.and_eq_true] at h;obtain ⟨h1,h2,h3⟩:=h;have e1:=eq_of_beq h1;subst e1;obtain ⟨t,ht⟩:=C.sg (by simpa using h3);exact zyo (v:=.str "abcdef") (C.gl _ (by simpa using h2)) ht ⟨t,rfl⟩
 ·exact absurd h Bool.false_ne_true
theorem zpp {S:Sx}{e:Expr} (h:isSg S e=true):zfl e=false:=by
 cases e<;>first | rfl | exact absurd (show false=true from h) Bool.false_ne_true
noncomputable def z0n:V->List V->Hp->VK->Prop:=fun x vs H Q=>∃z y,x=.str z/\vs=[.str y]/\Q (.int (Txt.find z y)) H
theorem zya {X:Cx}:MtR X "str.find" z0n:=by
 intro pins s σ H x vs v us Q I rx rv h;obtain ⟨z,y,rfl,rfl,q⟩:=h;obtain ⟨t,rfl⟩:=rx;obtain ⟨u,rfl,tu,rfl⟩:=rv.one;exact PySem.SC.find ⟨.int _,H,I.tok _,⟨_,rfl⟩,q⟩
noncomputable def zwc:V->List V->Hp->VK->Prop:=fun x vs H Q=>∃z y,x=.str z/\vs=[.str y]/\(y.length == 0)=false/\z.length+2<=sizeLine/\∀l,H l=none->Q (.ref l) (upd H l (.lst ((Txt.split z y).map V.str)))
theorem zic:∀{vs:List Value}{ys:List Str},StrsAre vs ys->Vals (ys.map V.str) vs
 | _,_,.nil=>.nil
 | _,_,.cons y t h=>.cons ⟨t,rfl⟩ (zic h)
theorem zoe {prog:Program}{w:World}{A:Around}{E:Value->Shared->Prop}{s:Shared}{x y:Str}{t u:Tok}{Q:Value->Shared->Prop} (hy:(y.length == 0)=false) (hz:x.length+2<=sizeLine)
  (h:∀(vs:List Value) k,StrsAre vs (Txt.split x y)->vs.length<=sizeLine->Q (.ref s.heap.objs.size) { s with toks:=k,heap:=s.heap.push { cls:=.type "list",data:=.seq vs.toArray } }) :
  wpAny (model prog w) A (call (.builtin "str.split") [.str x t,.str y u]) Q E s:=by
 have hl:∀(l:List (Str × Tok)),l.map (·.1)=Txt.split x y->(strValues l).length=(Txt.split x y).length:=fun l e=>by rw [<-e];unfold strValues;rw [List.length_map,List.length_map]
 have hs:∀(l:List (Str × Tok)),l.map (·.1)=Txt.split x y->StrsAre (strValues l) (Txt.split x y):=fun l e=>e ▸ strsAre_of_values l;have hw:(Txt.split x y).length<=sizeLine:=by
  have:=split_weight x y (by have:=hy;simp at this;omega);omega
 have fin:∀(l:List (Str × Tok)) k,l.map (·.1)=Txt.split x y->Q (.ref s.heap.objs.size) { s with toks:=k,heap:=s.heap.push { cls:=.type "list",data:=.seq (strValues l).toArray } }:=fun l k e=>h _ k (hs l e) (by rw [hl l e];exact hw);cases h1:(decide (x.length < y.length) || decide (Builtin.Str.strKind x < Builtin.Str.strKind y))
 ·cases hf : (Builtin.Str.occurrences x y 0 x.length (x.length + 1)).isEmpty
  ·have e0 : Txt.split x y = Builtin.Str.partsBetween x (Builtin.Str.occurrences x y 0 x.length (x.length + 1)) y.length := (if_neg (ne_true_of_eq_false h1)).trans (if_neg (ne_true_of_eq_false hf));refine call_meets F.slot_str_split (typeIs_str _ _ _) F.entry_str_split (F.args_str_split_2 _ _) (meets_str_split_sep x y t u h1 hy hf (by omega) (by rw [<-e0];exact hw)) ?_;show wants Q E _ { s with toks:=_,heap:=s.heap.push { cls:=.type "list",data:=.seq (strsFrom s.toks (Builtin.Str.partsBetween x (Builtin.Str.occurrences x y 0 x.length (x.length+1)) y.length)).toArray } };rw [strsFrom_eq];exact fin _ _ ((numbered_texts _ _).trans e0.symm)
  ·exact call_meets F.slot_str_split (typeIs_str _ _ _) F.entry_str_split (F.args_str_split_2 _ _) (meets_str_split_not_found x y t u h1 hy hf)
    (fin [(x,t)] s.toks ((if_neg (ne_true_of_eq_false h1)).trans (if_pos hf)).symm)
 ·exact call_meets F.slot_str_split (typeIs_str _ _ _) F.entry_str_split (F.args_str_split_2 _ _) (meets_str_split_cannot_occur x y t u h1)
   (fin [(x,t)] s.toks (if_pos h1).symm)
theorem zvq {X:Cx}:MtR X "str.split" zwc:=by
 intro pins s σ H x vs v us Q I rx rv h;obtain ⟨z,y,rfl,rfl,hy,hz,q⟩:=h;obtain ⟨t,rfl⟩:=rx;obtain ⟨u,rfl,tu,rfl⟩:=rv.one;refine zoe hy hz fun vs k hs hl=>?_;have hf:H s.heap.objs.size=none:=I.hok.fresh (Nat.le_refl _);have rv:=zic hs;exact ⟨.ref _,_,I.laid (t':=k) (o:=.lst ((Txt.split z y).map V.str)) (fun b o e=>Heap.get?_push_of_some _ e) (Nat.le_refl _) ⟨by rw [rv.length];exact hl,vs,_,rv,Heap.get?_push_size _ rfl⟩,rfl,q _ hf⟩
noncomputable def zxe (x:Str) (g:GE):GE:=fun en=>(g en).bind fun p=>match p.2.1 with
 | .str y=>some (p.1,(.int (Txt.find x y),false))
 | _=>none
noncomputable def zmh (y:Str) (g:GE):GE:=fun en=>(g en).bind fun p=>match p.2.1 with
 | .str x=>if x.length+2<=sizeLine then some (p.1,(.lst ((Txt.split x y).map W.str),true)) else none
 | _=>none
section
variable {K:PySem.W.Frag}{σ:St}{H:Hp}
theorem zoy {x:Str}{g:GE}{Q:VK} (h:tE K (zxe x g) σ H Q):tBM K "str" z0n (tC (.str x)) (zcp (tE K g) tNil) σ H Q:=by
  refine aG fun _ qG=>?_;obtain ⟨F,pr,en,en',r,R,h,q⟩:=h;obtain ⟨⟨e1,w1,f1⟩,h1,h⟩:=bS h;refine qG ?_;clear qG;cases w1 with
  | str y =>
    cases h;refine ⟨rfl,F,pr,en,e1,(.str y,f1),R,h1,fun F1 H1 v1 s1 R1 z=>?_⟩;obtain ⟨F2,s2,R2,y2⟩:=z.freeze R1;exact ⟨x,y,rfl,by rw [y2.isStr],q F2 H1 _ (s1.trans s2) R2 (.int _)⟩
  | _=>exact noSome h
theorem zii {F:Hp}:∀(ys:List Str),Reps K F (ys.map W.str) (ys.map V.str)
 | []=>.nil
 | y::ys=>.cons (.str y) (zii ys)
theorem znp {y:Str}{g:GE}{Q:VK} (hy:(y.length == 0)=false) (h:tE K (zmh y g) σ H Q):tBM K "str" zwc (tE K g) (zcp (tC (.str y)) tNil) σ H Q:=by
  refine aG fun _ qG=>?_;obtain ⟨F,pr,en,en',r,R,h,q⟩:=h;obtain ⟨⟨e1,w1,f1⟩,h1,h⟩:=bS h;refine qG ?_;clear qG;cases w1 with
  | str x =>
    have h:(if x.length+2<=sizeLine then some (e1,(W.lst ((Txt.split x y).map W.str),true)) else none)=some (en',r):=h;split at h
    · rename_i hz
      cases h;refine ⟨F,pr,en,_,(.str x,f1),R,h1,fun F1 H1 v1 s1 R1 z=>?_⟩;obtain ⟨F2,s2,R2,y2⟩:=z.freeze R1;rw [y2.isStr];refine ⟨rfl,x,y,rfl,rfl,hy,hz,fun l hl=>?_⟩;obtain ⟨F3,s3,R3,y3⟩:=(Out.lst (K:=K) (F:=F2) (H:=H1) hl (zii (Txt.split x y))).close R2;exact q F3 _ _ ((s1.trans s2).trans s3) R3 y3
    · exact noSome h
  | _=>exact noSome h
end
noncomputable def ItvT (K:PySem.W.Frag) (a:Addr) (n:Nat):It :=
 ⟨fun i H=>i < n/\∃xs,SqT K H a xs/\xs.length=n,fun i H x H'=>H'=H/\∀xs,SqT K H a xs->xs[n - 1 - i]?=some x,fun i H=>i=n⟩
theorem zp4 {P:Program}{w:World}{K:PySem.W.Frag}{tg:Expr} (a it:Addr) (n:Nat):Turn P w K tg (ItvT K a n) [it] it (fun i h=>zcu h it a ((n:Int) - 1 - (i:Int))) where
 mem:=by simp
 obj:=fun i h st b hb=>by
  have e:b=it:=by simpa using hb
  subst e;obtain ⟨o,e,c,d⟩:=st;exact ⟨o,e,fun v z=>by rw [d] at z;cases z⟩
 keep:=fun i h h' st k=>st.at fun o e=>k it (by simp) o e
 item:=by
  intro X hP hw hK hc i pins s σ H E I hf st hg;subst hP hw hK;refine aG fun _ qG=>?_;obtain ⟨hi,xs,hq,hn⟩:=hg;refine qG ?_;clear qG;have hlt:n - 1 - i < xs.length:=by omega
  refine aG fun _ qG=>?_;obtain ⟨its,rv,p,hz⟩:=I.tuple hq;obtain ⟨u,hu,ru⟩:=rv.get (List.getElem?_eq_getElem hlt);obtain ⟨f0,f1,f2,f3,f4,f5⟩:=hf it (by simp);refine qG ?_;clear qG;have e:(n:Int) - 1 - (i:Int)=((n - 1 - i:Nat):Int):=by omega
  have st':=st;rw [e] at st';refine zqg st' p (x:=u) (by simpa using hu) (by rw [List.size_toArray,<-rv.length];exact hz) fun h' st' sb=>?_;have I1:Inv X pins σ H { s with heap:=h',toks:=s.toks+1 }:=I.turned (t':=s.toks+1) (fun b o hb e=>(sb.2 b hb).trans e) f0 f1 f3 f4 f5;refine aG fun _ qG=>?_;obtain ⟨o,e2,c,d⟩:=id st';refine qG ?_;clear qG;have e3:((n - 1 - i:Nat):Int) - 1=(n:Int) - 1 - ((i+1:Nat):Int):=by omega
  rw [e3] at st';exact ⟨u,rfl,zon (s:={ s with heap:=h',toks:=s.toks+1 }) e2 c d (by decide) ⟨_,H,I1,ru,⟨rfl,fun ys hy=>by rw [I.tuple_inj hy hq];exact List.getElem?_eq_getElem hlt⟩,st',fun b hb=>(hf b hb).1⟩⟩
 done:=by
  intro X hP hw hK hc i pins s σ H E I hf st hg;subst hP hw hK;have hg' : i=n:=hg;subst hg';refine aG fun _ qG=>?_;obtain ⟨f0,f1,f2,f3,f4,f5⟩:=hf it (by simp);refine qG ?_;clear qG;have e:(i:Int) - 1 - (i:Int)=-1:=by omega
  rw [e] at st;exact zv5 (I.ok.hd hc) st fun h' eb=>⟨rfl,I.turned (t':=s.toks) (fun b o hb e=>eb b o hb e) f0 f1 f3 f4 f5⟩
 self:=fun _ _ _ _ _ st h=>zjk st h
noncomputable def z33 (K:PySem.W.Frag) (ta:TA):TI:=fun σ H R=>ta σ H fun vs H1=>∃a xs,vs=[.ref a]/\SqT K H1 a xs/\R (ItvT K a xs.length) H1
theorem zw3 {X:Cx}{tg:Expr}{l:Expr}{tl:TA}{p pos:Pos} (hg:Gl X "reversed") (hm:X.mg "reversed" = none) (hl:PA X [l] tl) (hs:starEach [l] X.env=[(false,eval l X.env)]:=by rfl) :
    PI X tg (.Call (.Name "reversed" p) [l] [] pos) (z33 X.K tl):=by
  intro pins s σ H R I h;refine Call_ (zc4 I hg hm boot_reversed (PyProof.Rows.callWith_type1 (thn (hl pos pins s σ H _ I h) fun us s1 ⟨vs,H1,I1,r1,q1⟩=>?_) hs rfl));refine aG fun _ qG=>?_;obtain ⟨a,xs,e,hq,q⟩:=q1;refine qG ?_;clear qG;subst e;cases r1 with
  | cons r rr =>
    cases rr;cases r;refine aG fun _ qG=>?_;obtain ⟨its,rv,p',hz⟩:=I1.tuple hq;refine qG ?_;clear qG;refine ztk p' (by rw [List.size_toArray,<-rv.length];exact hz) fun tk=>?_;have hit:zcu (s1.heap.push { cls:=.type "reversed",data:=.fields #[.ref a,rawInt ((its.toArray.size:Int) - 1)] }) s1.heap.objs.size a ((its.toArray.size:Int) - 1):=⟨_,Heap.get?_push_size _ rfl,rfl,rfl⟩;refine zjk hit ?_;have ge:((its.toArray.size:Int) - 1)=(xs.length:Int) - 1 - ((0:Nat):Int):=by have:=rv.length;simp;omega
    refine ⟨s1.heap.objs.size,[s1.heap.objs.size],_,_,H1,rfl,I1.kept (t':=tk) fun b o e=>Heap.get?_push_of_some _ e,zp4 a _ xs.length,?_,fun b hb=>?_,q⟩
    · dsimp only
      rw [<-ge];exact hit
    · have e : b = s1.heap.objs.size := by simpa using hb
      subst e;exact I1.fpOk (Nat.le_refl _) (I1.hok.fresh (Nat.le_refl _))
theorem zr8 {K:PySem.W.Frag}{F:Hp}{a:Addr}{vs:List V}{ws:List W} (h:SqT K F a vs) (r:Reps K F ws vs):ItOk K F (ItvT K a vs.length) ws.reverse where
 go:=fun i H s hi=>by rw [List.length_reverse,r.length] at hi;exact ⟨hi,vs,zao s h,rfl⟩
 stop:=fun H s=>by rw [List.length_reverse,r.length];rfl
 yld:=fun i H x H' s hi y=>by
  obtain ⟨e,y⟩:=y;subst e;obtain ⟨w,e,q⟩:=r.getV (y vs (zao s h));refine ⟨w,?_,.val q⟩;rw [List.length_reverse] at hi;rw [List.getElem?_reverse hi,r.length];exact e
noncomputable def zx7 (g:GE):GL:=fun en=>(g en).bind fun p=>match p.2.1 with
 | .tup ws=>some (p.1,ws.reverse)
 | _=>none
theorem zqd {K:PySem.W.Frag}{σ:St}{H:Hp}{g:GE}{R:It->Hp->Prop} (h:tI K (zx7 g) σ H R):z33 K (zcp (tE K g) tNil) σ H R:=by
  refine aG fun _ qG=>?_;obtain ⟨F,pr,en,en',ws,Re,h,q⟩:=h;obtain ⟨⟨e1,w,fl⟩,h1,h⟩:=bS h;refine qG ?_;clear qG;cases w with
  | tup us =>
    cases h;refine ⟨F,pr,en,e1,(.tup us,fl),Re,h1,fun F1 H1 v s1 R1 z=>?_⟩;refine aG fun _ qG=>?_;obtain ⟨F2,s2,R2,y⟩:=z.freeze R1;obtain ⟨a,k,vs,e,hq,r⟩:=zbc y (show seqW (.tup us)=some us from rfl);refine qG ?_;clear qG;subst e;cases k with
    | true=>cases y with
      | tup y' r'=>exact ⟨a,_,rfl,zao R2.sub (.inl (.inl y')),q F2 H1 _ (s1.trans s2) R2 (zr8 (.inl (.inl y')) r')⟩
    | false=>exact ⟨a,vs,rfl,zao R2.sub hq,q F2 H1 _ (s1.trans s2) R2 (zr8 hq r)⟩
  | _=>exact noSome h
noncomputable def zse (f:Sx->Expr->Option GE) (S:Sx) (tg e:Expr):Option GL:=match e with
 | .Call (.Name x _) [.Name y q] [] _=>if x == ("reversed" : Str) && (S.bl x && S.bn.contains (("r " : Str)++y)) then (f S (.Name y q)).bind fun g=>some (zx7 g) else zs7 f S tg e
 | e=>zs7 f S tg e
theorem zna {X:Cx}{S:Sx}{d:Nat}{f:Sx->Expr->Option GE} (Hf:za2 f) (C:CxOk X S d) {tg e:Expr}{g:GL} (h:zse f S tg e=some g):PI X tg e (tI X.K g)/\∀x,foldedSetIterable e X.env x=pure x:=by
 unfold zse at h;split at h
 ·split at h
  ·rename_i z;rw [Bool.and_eq_true,Bool.and_eq_true] at z;have e1:=eq_of_beq z.1;subst e1;obtain ⟨gl,mg⟩:=zed C z.2.1;obtain ⟨ge,hg,h⟩:=bS h;obtain rfl:=sI h;exact ⟨(zw3 gl mg (pac (Hf X S d C _ _ hg) zbt rfl) (zad rfl)).wk fun _ _ _=>zqd,zde rfl⟩
  ·exact zmc Hf C h
 ·exact zmc Hf C h
noncomputable def tOrS (ta tb:TE):TE:=fun σ H Q=>ta σ H fun x H1=>∃z:Str,x=.str z/\z.length<=sizeLine/\if z.length=0 then tb σ H1 Q else Q x H1
theorem z3i {X:Cx}{a b:Expr}{ta tb:TE}{pos:Pos} (ha:PE X a ta) (hb:PE X (.BoolOp .Or [b] pos) tb):PE X (.BoolOp .Or [a,b] pos) (tOrS ta tb):=by
 intro pins s σ H Q I h;refine BoolOp_or (thn (ha pins s σ H _ I h) fun v s1 ⟨x,H1,I1,r1,q1⟩=>?_);obtain ⟨z,rfl,hz,q1⟩:=q1;obtain ⟨t,rfl⟩:=r1;have hl:=zfq;refine PySem.P.truthy_str (by omega) ?_;by_cases e:z.length=0
 ·rw [if_pos e] at q1;rw [show ((z.length:Int) != 0)=false by rw [e];rfl];exact hb pins _ σ H1 Q (I1.tok _) q1
 ·rw [if_neg e] at q1;rw [show ((z.length:Int) != 0)=true by simp only [bne_iff_ne,ne_eq];omega];exact ⟨.str z,H1,I1.tok _,⟨_,rfl⟩,q1⟩
noncomputable def gOrS (a b:GE):GE:=fun en=>match a en with
 | some (en',(.str x,f))=>if x.length<=sizeLine then (if x.length=0 then b en' else some (en',(.str x,false))) else none
 | _=>none
theorem zv4 {K:PySem.W.Frag}{σ:St}{H:Hp}{a b:GE}{Q:VK} (h:tE K (gOrS a b) σ H Q):tOrS (tE K a) (tE K b) σ H Q:=by
  refine aG fun _ qG=>?_;obtain ⟨F,pr,en,en',r,R,h,q⟩:=h;refine qG ?_;clear qG;unfold gOrS at h;cases e:a en with
  | none=>simp only [e] at h;exact noSome h
  | some p =>
    obtain ⟨e1,w,fl⟩:=p;cases w with
    | str x =>
      simp only [e] at h;split at h
      · rename_i hz
        refine ⟨F,pr,en,_,_,R,e,fun F1 H1 v s1 R1 z=>?_⟩;split at h
        · rename_i h0
          obtain ⟨F2,s2,R2,y2⟩:=z.freeze R1;exact ⟨x,y2.isStr,hz,by rw [if_pos h0];exact ⟨F2,pr,e1,en',r,R2,h,fun F3 H3 v3 s3 R3 z3=>q F3 H3 v3 ((s1.trans s2).trans s3) R3 z3⟩⟩
        · rename_i h0
          obtain ⟨F2,s2,R2,y2⟩:=z.freeze R1;cases h;rw [y2.isStr];exact ⟨x,rfl,hz,by rw [if_neg h0];exact q F2 H1 _ (s1.trans s2) R2 (.str _)⟩
      · exact noSome h
    | _=>simp only [e] at h;exact noSome h
section
variable {X:Cx}{S:Sx}{d:Nat}{fE:Sx->Expr->Option GE}
noncomputable def z1i:Expr->Bool
 | .Call (.Attribute (.Constant (.str _) _ _) name _) [_] [] _=>name == ("join" : Str)
 | _=>false
noncomputable def zyd (fE:Sx->Expr->Option GE) (S:Sx) (e:Expr):Option GE:=if isSg S e then some (gC sgW) else match e with
  | .BoolOp .Or [a,b] _=>if z1i a then (fE S a).bind fun x=>(fE S b).bind fun y=>some (gOrS x y) else none
  | .Subscript o s _=>if isSg S o && (zbk s && zaf s) then (zap fE S s).bind fun y=>some (gOp2 oIxS (gArg (gC sgW)) y) else none
  | .Call (.Attribute o name apos) [e] [] cpos=>if (apos.endLine == cpos.line) && zaf e then (if isSg S o && name == ("find" : Str) then (fE S e).bind fun g=>some (zxe "abcdef" g) else if tN S o && (!zfl o && name == ("split" : Str)) then (match e with
    | .Constant (.str y) _ _=>if (y.length == 0) then none else (fE S o).bind fun g=>some (zmh y g)
    | _=>none) else none) else none
  | _=>none
theorem ztb (HE:za2 fE) (C:CxOk X S d):zgt (zyd fE S) X:=fun e g h=>by
 unfold zyd at h;split at h
 ·rename_i z;obtain rfl:=sI h;exact (zx5 C z).wk fun _ _ _=>zbb fun _=>.str _
 ·split at h
  ·split at h
   ·obtain ⟨x, hx, h⟩ := bS h;obtain ⟨y,hy,h⟩:=bS h;obtain rfl:=sI h;exact (z3i (HE X S d C _ _ hx) (zw0 (HE X S d C _ _ hy))).wk fun _ _ _=>zv4
   ·exact noSome h
  ·split at h
   ·rename_i z;rw [Bool.and_eq_true,Bool.and_eq_true] at z;obtain ⟨y,hy,h⟩:=bS h;obtain rfl:=sI h;exact (zzz zwb (((zx5 C z.1).wk fun _ _ _=>zbb fun _=>.str _:PE X _ (tE X.K (gC sgW))).wk fun _ _ _=>zet) (zac HE C hy) (zd2 z.2.1)).wk fun _ _ _=>zbh zpi
   ·exact noSome h
  ·split at h
   ·rename_i z0;rw [Bool.and_eq_true] at z0;obtain ⟨z2,y⟩:=z0;split at h
    ·rename_i z;rw [Bool.and_eq_true] at z;have e1:=eq_of_beq z.2;subst e1;obtain ⟨g1,hg1,h⟩:=bS h;obtain rfl:=sI h;have hb:zfl _=false:=zpp z.1;exact (zv3 PySem.F.plainAttrs_str PySem.F.slot_str_find PySem.F.type_str_find zya (zx5 C z.1) (pac (HE X S d C _ _ hg1) zbt y) (zhl hb) (zgn y) z2 (zad y) rfl).wk fun _ _ _=>zoy
    ·split at h
     ·rename_i z;rw [Bool.and_eq_true,Bool.and_eq_true,Bool.not_eq_true'] at z;have e1:=eq_of_beq z.2.2;subst e1;split at h
      ·split at h
       ·exact noSome h
       ·rename_i z3;rw [Bool.not_eq_true] at z3;obtain ⟨g1,hg1,h⟩:=bS h;obtain rfl:=sI h;exact (zv3 PySem.F.plainAttrs_str PySem.F.slot_str_split PySem.F.type_str_split zvq (HE X S d C _ _ hg1) (pac zqh zbt y) (zhl z.2.1) (zgn y) z2 (zad y) rfl).wk fun _ _ _=>znp z3
      ·exact noSome h
     ·exact noSome h
   ·exact noSome h
  ·exact noSome h
end
end L2
namespace L2
open PySem PySem.Spec PyProof.Rows
section
open PySem.AutoSeq1 (wpAny_loadPart')
end
noncomputable def z5n:O2
 | .tup (x::xs),.int k=>if k=1 then some (.tup (x::xs),false) else if k=0 then some (.tup [],false) else if 2<=k/\k < 4611686018427387904/\(x::xs).length * k.toNat<=sizeLine then some (.tup (List.replicate k.toNat (x::xs)).flatten,false) else none
 | _,_=>none
noncomputable def z5l:Expr->Bool
 | .Tuple ..=>true
 | .Subscript _ (.Slice ..) _=>true
 | _=>false
section
variable {X:Cx}{S:Sx}{d:Nat}{fE:Sx->Expr->Option GE}
end
section
open PySem.AutoSeq1 (wpAny_loadPart')
variable {prog:Program}{w:World}{A:Around}{E:Value->Shared->Prop}{s:Shared}
end
noncomputable def z5m (as:GAs):GE:=fun en=>(as en).bind fun p=>match zat p.1 p.2 with
 | some [.int j]=>if lrOk j then some (p.1,(.tup (rngW 0 j.toNat),false)) else none
 | _=>none
section
variable {X:Cx}{S:Sx}{d:Nat}{fE:Sx->Expr->Option GE}
end
theorem zuh (xs:Array Value):((List.range xs.size).filterMap fun (k:Nat)=>xs[(((xs.size:Int) - 1)+(k:Int) * (-1)).toNat]?).toArray=xs.toList.reverse.toArray:=by
  have e:(List.range xs.size).filterMap (fun (k:Nat)=>xs[(((xs.size:Int) - 1)+(k:Int) * (-1)).toNat]?)=((List.range xs.size).map fun k=>xs.size - 1 - k).filterMap (xs[·]?):=by
    rw [List.filterMap_map];have go:∀l:List Nat,(∀k∈l,k < xs.size)->l.filterMap (fun (k:Nat)=>xs[(((xs.size:Int) - 1)+(k:Int) * (-1)).toNat]?)=l.filterMap ((fun x=>xs[x]?) ∘ fun k=>xs.size - 1 - k):=by
      intro l
      induction l with
      | nil=>intro _;rfl
      | cons k l ih =>
        intro h;have hk:=h k List.mem_cons_self;have:(((xs.size:Int) - 1)+(k:Int) * (-1)).toNat=xs.size - 1 - k:=by omega
        rw [List.filterMap_cons,List.filterMap_cons,this,ih fun j hj=>h j (List.mem_cons_of_mem _ hj)]
        rfl
    exact go _ fun k hk=>List.mem_range.mp hk
  rw [e,PySem.W.krv_range,List.filterMap_reverse,PySem.W.krv_all]
section
variable {prog:Program}{w:World}{A:Around}{E:Value->Shared->Prop}{s:Shared}
theorem zef {sl:Addr}{vk:Value}{n:Nat}{Q:Int × Int × Nat->Shared->Prop} (hs:s.heap.IsSliceOf sl .none .none vk) (pk:IsPart vk (some (-1)))
  (h:Q ((n:Int) - 1,-1,n) s):wpAny (model prog w) A (Builtin.Slice.sliceApplied (.ref sl) (pure (n:Int))) Q E s:=by
 obtain ⟨os,hos,hcs,hds⟩:=id hs;unfold Builtin.Slice.sliceApplied Builtin.Slice.sliceFields;refine wpAny_bind (wpAny_bind (wpAny_field hos hds (x:=.none) rfl (wpAny_bind (wpAny_field hos hds (x:=.none) rfl (wpAny_bind (wpAny_field hos hds (x:=vk) rfl (wpAny_pure ?_)))))));refine wpAny_bind (HT.slicePart_ pk ?_);show wpAny _ _ (if ((-1:Int) == 0)=true then _ else _) _ _ s;rw [if_neg (by decide)];refine wpAny_bind (HT.slicePart_ .none (wpAny_bind (HT.slicePart_ .none (wpAny_bind (wpAny_pure ?_)))));have e:Builtin.Slice.sliceAdjust none none (-1) (n:Int)=((n:Int) - 1,-1):=rfl;have e2:Builtin.Slice.slicePlaces ((n:Int) - 1) (-1) (-1)=n:=by
  unfold Builtin.Slice.slicePlaces;rw [if_neg (by decide)];split
  ·rw [show (- -1:Int)=1 by decide,Int.ediv_one];omega
  ·omega
 show wpAny _ _ (match Builtin.Slice.sliceAdjust none none (-1) (n:Int) with | (lo,hi)=>pure (lo,(-1:Int),Builtin.Slice.slicePlaces lo hi (-1))) _ _ s;rw [e];show wpAny _ _ (pure ((n:Int) - 1,(-1:Int),Builtin.Slice.slicePlaces ((n:Int) - 1) (-1) (-1))) _ _ s;rw [e2];exact wpAny_pure h
open HT in
theorem zu1 {t sl:Addr}{items:Array Value}{vk:Value}{Q:Value->Shared->Prop} (ht:IsTup s.heap t items) (hs:s.heap.IsSliceOf sl .none .none vk) (pk:IsPart vk (some (-1)))
  (h:Q (.ref s.heap.objs.size) { s with heap:=s.heap.push { cls:=.type "tuple",data:=.seq items.toList.reverse.toArray } })
  (hsz:items.size<=sizeLine):wpAny (model prog w) A (getItem (.ref t) (.ref sl)) Q E s:=by
 have htake:sizeOk (.seq items.toList.reverse.toArray):=by
  show items.toList.reverse.toArray.size<=sizeLine;rw [List.size_toArray,List.length_reverse,Array.length_toList];exact hsz
 obtain ⟨os,g1,g2,_⟩:=id hs;have ty:s.TypeIs (.ref sl) "slice" := ⟨os,g1,g2⟩;unfold getItem
 try with_reducible refine wpAny_holding ?_
 first | refine wpAny_bind (wpAny_pure ?_) | skip
 refine wpAny_bind (wpAny_sequenceKey ht.typeIs (by decide) ?_);refine wpAny_bind (wpAny_callSpecial?_slot (name:=Str.ofString "__getitem__") ht.typeIs PyProof.Rows.slot_tuple_getitem (wpAny_call_entry PyProof.Rows.slot_tuple_getitem ht.typeIs entry_tuple_getitem ?_ (args_tuple_getitem _ _)));show wpAny _ _ (Builtin.Tuple.tupleItemsOf (.ref t) >>= _) _ _ s;refine wpAny_bind (tupleItemsOf_ ht ?_);refine wpAny_bind (wpAny_typeOf ty ?_);rw [if_pos (by decide)];refine wpAny_bind (zef hs pk ?_);show wpAny _ _ (if ((((items.size:Int) - 1) == 0 && (-1:Int) == 1 && items.size == items.size)=true) then _ else _) _ _ s;rw [if_neg (by rw [Bool.and_eq_true,Bool.and_eq_true];exact fun z=>absurd z.1.2 (by decide)),zuh]
 first
  | exact wpAny_bind (m:=Builtin.Tuple.tupleExact _) (wpAny_newObj_type (wpAny_pure ⟨_,rfl,wpAny_pure h⟩) htake)
  | exact wpAny_bind (m:=Builtin.Tuple.tupleExact _) (wpAny_newObj_type (wpAny_bind (wpAny_pure (wpAny_pure ⟨_,rfl,wpAny_pure h⟩))) htake)
  | exact wpAny_bind (wpAny_bind (m:=Builtin.Tuple.tupleExact _) (wpAny_newObj_type (wpAny_pure (wpAny_pure ⟨_,rfl,wpAny_pure h⟩)) htake))
  | exact wpAny_bind (wpAny_bind (m:=Builtin.Tuple.tupleExact _) (wpAny_newObj_type (wpAny_pure ⟨_,rfl,wpAny_pure h⟩) htake))
end
noncomputable def z3l (K:PySem.W.Frag):V->Hp->VK->Prop:=fun x H Q=>(∃a xs,x=.ref a/\SqT K H a xs/\∀p,H p=none->Q (.ref p) (upd H p (.tup xs.reverse)))\/(∃a xs,x=.ref a/\SqL K H a xs/\∀p,H p=none->Q (.ref p) (upd H p (.lst xs.reverse)))
noncomputable def z04 (K:PySem.W.Frag) (te:TE) (tk:TO):TE:=fun σ H Q=>te σ H fun x H1=>tk σ H1 fun k H2=>k=some (-1)/\z3l K x H2 Q
section
variable {X:Cx}{S:Sx}{d:Nat}{fE:Sx->Expr->Option GE}
theorem zw7 {e ek:Expr}{te:TE}{tk:TO}{p2 pos:Pos} (he:PE X e te) (hk:PO X (some ek) tk):PE X (.Subscript e (.Slice none none (some ek) p2) pos) (z04 X.K te tk):=by
 intro pins s σ H Q I h;refine Subscript_ (thn (he pins s σ H _ I h) fun v s1 ⟨x,H1,I1,r1,q1⟩=>?_);refine wpAny_Slice ?_;rw [evalPart_none];refine wpAny_pure (wpAny_pure (thn (hk pins s1 σ H1 _ I1 q1) fun vk s3 ⟨k,H3,I3,pk,ek',q3⟩=>?_));subst ek';have I4:Inv X pins σ H3 { s3 with heap:=s3.heap.push { cls:=.type "slice",data:=.fields #[.none,.none,vk] } }:=I3.kept (t':=s3.toks) fun b ob q=>Heap.get?_push_of_some _ q;show wpAny (model X.prog X.w) X.A (subscriptTail e (.Slice none none (some ek) p2) v (.ref s3.heap.objs.size)) (EP X pins σ Q) X.xe { s3 with heap:=s3.heap.push { cls:=.type "slice",data:=.fields #[.none,.none,vk] } };rcases q3 with ⟨a,xs,rfl,hx,q⟩ | ⟨a,xs,rfl,hx,q⟩
 ·cases r1;obtain ⟨its,r,ht,hz⟩:=I4.tuple hx;have hlen:its.toArray.size=xs.length:=by rw [List.size_toArray];exact r.length.symm
  refine tail_any (ops:=[.ref a,.ref s3.heap.objs.size]) ht.typeIs PyProof.Rows.slot_tuple_getitem.lookup (zu1 ht (Heap.IsSliceOf.new ..) pk ?_ (by rw [hlen];exact hz)) (by with_unfolding_all rfl);exact ⟨.ref _,_,I4.laid (t':=s3.toks) (o:=.tup xs.reverse) (fun b ob q=>Heap.get?_push_of_some _ q) (Nat.le_refl _) ⟨by rw [List.length_reverse];exact hz,_,r.reverse,zgv.new _ _⟩,rfl,q _ (I4.hok.fresh (Nat.le_refl _))⟩
 ·cases r1;obtain ⟨its,r,ht,hz⟩:=I4.list hx;have hlen:=r.length;refine tail_any (ops:=[.ref a,.ref s3.heap.objs.size]) ht.isList.typeIs slot_list_getitem.lookup (wpAny_getItem_list_slice ht.isList (Heap.IsSliceOf.new ..) .none .none pk (by decide) ?_ (by rw [List.size_toArray]<;>omega)) (by with_unfolding_all rfl);rw [PySem.W.krv_pick];exact ⟨.ref _,_,I4.laid (t':=s3.toks) (o:=.lst xs.reverse) (fun b ob q=>Heap.get?_push_of_some _ q) (Nat.le_refl _) ⟨by rw [List.length_reverse];exact hz,_,0,r.reverse,Heap.get?_push_size _ rfl⟩,rfl,q _ (I4.hok.fresh (Nat.le_refl _))⟩
noncomputable def zz9 (w:W):Option (W × Bool):=match w with
 | .lst ws=>some (.lst ws.reverse,true)
 | .tup ws=>some (.tup ws.reverse,false)
 | _=>none
theorem ztx {K:PySem.W.Frag}{F H:Hp}{w:W}{v:V}{rv:W × Bool}{Q:VK} (s:Same F H) (r:RepB K F H w v) (e:zz9 w=some rv) (q:∀u H',Out K F H rv u H'->Q u H'):z3l K v H Q:=by
 cases w with
 | lst ws=>obtain rfl:=sI e;obtain ⟨a,vs,e1,h,p⟩:=r.lst s;exact .inr ⟨a,vs,e1,SqL.of' h,fun l hl=>q _ _ (.lst hl p.reverse)⟩
 | tup ws=>obtain rfl:=sI e;obtain ⟨a,vs,e1,h,hf,p⟩:=r.tup s;exact .inl ⟨a,vs,e1,.inl (.inl h),fun l hl=>q _ _ (.tup hl p.reverse)⟩
 | _=>exact noSome e
noncomputable def znh (a:GA) (k:GO):GE:=fun en=>(a en).bind fun p=>(k p.1).bind fun l=>if l.2=some (-1) then (resA l.1 p.2).bind fun w=>(zz9 w).bind fun r=>some (l.1,r) else none
theorem zyp {a:GA}{k:GO}{en e1 e2:En}{x:W ⊕ Nat}{w:W}{r:W × Bool} (h1:a en=some (e1,x)) (h2:k e1=some (e2,some (-1))) (h3:resA e2 x=some w) (h4:zz9 w=some r):znh a k en=some (e2,r):=by
 simp only [znh,h1,h2,h3,h4,Option.bind,if_true]
theorem zr0 {K:PySem.W.Frag}{a:GA}{k:GO}{σ:St}{H:Hp}{Q:VK} (h:tE K (znh a k) σ H Q):z04 K (tA K a) (tO K k) σ H Q:=by
 refine aG fun _ qG=>?_;obtain ⟨F,pr,en,en',rv,R,h,q⟩:=h;obtain ⟨⟨e1,x1⟩,h1,h⟩:=bS h;obtain ⟨⟨e2,l⟩,h2,h⟩:=bS h;refine qG ?_;clear qG;split at h
 ·rename_i z;refine aG fun _ qG=>?_;obtain ⟨w1,hw1,h⟩:=bS h;obtain ⟨r',hr,h⟩:=bS h;refine qG ?_;clear qG;cases h;refine ⟨F,pr,en,e1,x1,R,h1,fun F1 H1 v1 s1 R1 a1=>⟨F1,pr,e1,e2,l,R1,h2,fun F2 H2 s2 R2=>⟨z,?_⟩⟩⟩;refine ztx R2.sub ((a1.mono s2).repB R2 hw1) hr fun v H' z=>?_;obtain ⟨F4,s4,R4,y⟩:=z.close R2;exact q F4 H' v (s1.trans (s2.trans s4)) R4 y
 ·exact noSome h
noncomputable def zlm (fE:Sx->Expr->Option GE) (S:Sx):Expr->Option GE
 | .Subscript a (.Slice none none (some k) _) _=>(zap fE S a).bind fun x=>(fE S k).bind fun g=>some (znh x (zdr g))
 | _=>none
theorem zn8 (HE:za2 fE) (C:CxOk X S d):zgt (zlm fE S) X:=fun e g h=>by
 unfold zlm at h;split at h
 ·obtain ⟨x, hx, h⟩ := bS h;obtain ⟨y,hy,h⟩:=bS h;obtain rfl:=sI h;exact (zw7 (zac HE C hx) (fun pins s σ H Q I q=>zq2 (HE X S d C _ _ hy) pins s σ H Q I (ziq q))).wk fun _ _ _=>zr0
 ·exact noSome h
noncomputable def orX (a b:Option GE):Option GE:=match a with
 | some g=>some g
 | none=>b
theorem zh0 {x y:Expr->Option GE} (hx:zgt x X) (hy:zgt y X):zgt (fun e=>orX (x e) (y e)) X:=fun e g h=>by
 have h:orX (x e) (y e)=some g:=h;unfold orX at h;split at h
 ·rename_i g' q;obtain rfl:=sI h;exact hx e g' q
 ·exact hy e g h
noncomputable def extE (fE:Sx->Expr->Option GE) (S:Sx) (e:Expr):Option GE:=orX (zyd fE S e) (orX (zlm fE S e) (orX (zj5 fE S e) (orX (zp8 fE S e) (zj7 fE S e))))
theorem zzv (HE:za2 fE) (C:CxOk X S d):zgt (extE fE S) X:=zh0 (ztb HE C) (zh0 (zn8 HE C) (zh0 (znn HE C) (zh0 (zsr HE C) (zn5 HE C))))
end
end L2
namespace L2
open PySem PySem.Spec PyProof.Rows
noncomputable def ncOf (scope:Scope):List Str:=(scope.names.filter fun p=>p.2 == .free || p.2 == .local || p.2 == .cell).map (·.1)
noncomputable def capC (S:Sx) (scope:Scope):Cap:=(ncOf scope).map fun x=>if scope.names.lookup x == some .free then S.N.findIdx? (· == x) else none
noncomputable def inS (S:Sx) (scope:Scope):Sx:={ N:=ncOf scope,kd:=scope.names,bn:=S.bn,fs:=S.fs,mp:=capKeep (capC S scope),top:=false }
noncomputable def zj9 (S:Sx) (scope:Scope):Bool:=decide (scope.kind=.function) && zfv (capC S scope) (ncOf scope) S.N scope && (scope.names.all fun p=>!(p.2 == .free) || S.kd.lookup p.1 == some .cell || S.kd.lookup p.1 == some .free) &&
 zea scope && (scope.names.all fun p=>!(p.2 == NameKind.local) || decide (scope.names.lookup p.1=some .local)) && decide (ncOf scope).Nodup
noncomputable def zwe (fT:Sx->Expr->Option GT) (S:Sx):List Expr->Option GT
 | []=>some gYes
 | [c]=>fT S c
 | _=>none
noncomputable def zq7 (fE:Sx->Expr->Option GE) (fT:Sx->Expr->Option GT) (S:Sx) (elt:Expr) (gens:List Comprehension) (scope:Scope):Option GE:=match gens with
 | [c]=>if zj9 S scope && decide (c.is_async=0) then (zse fE S c.target c.iter).bind fun gi=>(tgE (inS S scope) c.target).bind fun T=>(zwe fT (inS S scope) c.ifs).bind fun tc=>(fE (inS S scope) elt).bind fun te=>some (zbe (capC S scope) T gi tc te) else none
 | _=>none
structure ScOk (X:Cx) (S:Sx) (scope:Scope):Prop where
 kind:scope.kind=.function
 cap:zfv (capC S scope) (ncOf scope) X.N scope=true
 fr:ze2 scope X.env.scope=true
 nc:zea scope=true
 nm:(scope.names.all fun p=>!(p.2 == NameKind.local) || decide (scope.names.lookup p.1=some .local))=true
 nd:(ncOf scope).Nodup
section
variable {X:Cx}{S:Sx}{d:Nat}
theorem zt7 (C:CxOk X S d) {scope:Scope} (h:zj9 S scope=true):ScOk X S scope:=by
 unfold zj9 at h;simp only [Bool.and_eq_true] at h;obtain ⟨⟨⟨⟨⟨h1,h2⟩,h3⟩,h4⟩,h5⟩,h6⟩:=h;refine ⟨of_decide_eq_true h1,by rw [C.N];exact h2,?_,h4,h5,of_decide_eq_true h6⟩;unfold ze2;refine List.all_eq_true.mpr fun p hp=>?_;have q:=List.all_eq_true.mp h3 p hp;simp only [Bool.or_eq_true,Bool.not_eq_true',beq_eq_false_iff_ne,beq_iff_eq,decide_eq_true_eq] at q ⊢;rcases q with (q | q) | q
 ·exact .inl (.inl q)
 ·rcases C.vis p.1 (.inl q) with z | z
  ·exact .inl (.inr z)
  ·exact .inr z
 ·rcases C.vis p.1 (.inr q) with z | z
  ·exact .inl (.inr z)
  ·exact .inr z
theorem zyq (C:CxOk X S d) {scope:Scope} (h:ScOk X S scope) (cl:List (Str × Addr)) (L:Addr) (s3:Shared) (H3:Hp) (fp:List Addr):CxOk (zaz X (ncOf scope) scope cl L s3 H3 fp) (inS S scope) d where
 N:=rfl
 nd:=h.nd
 loc:=fun x e=>za0 (env:=X.env) (by decide) e
 cel:=fun x e=>⟨za0 (env:=X.env) (by decide) e,decide_eq_true e⟩
 vis:=fun x e=>by
  rcases e with e | e
  ·exact .inl (za0 (env:=X.env) (by decide) e)
  ·exact zaw (env:=X.env) e
 gl:=fun x e=>za0 (env:=X.env) (by decide) e
 calm:=C.calm
 xe:=rfl
 bn:=C.bn
 fs:=C.fs
 room:=C.room
 sl:=C.sl
 lam:=fun h=>absurd (show ("" : Str)∈lams from h) (by decide +kernel)
 dpo:=Nat.zero_le _
 sg:=C.sg
 bk:=by
  show (if scope.kind.isAnnotationScope then ScopeKind.function else scope.kind)=.function;rw [h.kind];rfl
end
theorem zt9 {K:PySem.W.Frag}{σ:St}{H:Hp}{Q:Bool->Hp->Prop} (h:tT K gYes σ H Q):zwv σ H Q:=by
 obtain ⟨F,pr,en,en',b,R,h,q⟩:=h;cases h;exact q F H (.refl F) R
structure CompP (X:Cx) (S:Sx) (elt:Expr) (gens:List Comprehension) (scope:Scope) (g:GE):Prop where
 ex:∃tg iter ifs gs gi T tc,∃(em:Pos->Value->Env->Sem Unit) (tm:Addr->TM),gens=⟨tg,iter,ifs,0⟩ :: gs/\(∀pos it acc env,compTurn (.ListComp elt gens scope pos) 0 it acc env=zni (.ListComp elt gens scope pos) 0 tg iter ifs (em pos acc env) it acc env)/\ScOk X S scope/\PI X tg iter (tI X.K gi)/\(∀x,foldedSetIterable iter X.env x=pure x) /\
  (∀cl C s3 H3 fp,PG (zaz X (ncOf scope) scope cl C s3 H3 fp) tg (TGof X.K T))/\(∀cl C s3 H3 fp,PTs (zaz X (ncOf scope) scope cl C s3 H3 fp) ifs (tT X.K tc))/\(∀pos cl C s3 H3 fp acc,PM (zaz X (ncOf scope) scope cl C s3 H3 fp) (em pos (.ref acc) (zaz X (ncOf scope) scope cl C s3 H3 fp).env) (tm acc)) /\
  ∀σ H Q,tE X.K g σ H Q->zo1 (tI X.K gi) (capC S scope) (TGof X.K T) (tT X.K tc) tm σ H Q
section
variable {X:Cx}{S:Sx}{d:Nat}{fE:Sx->Expr->Option GE}{fT:Sx->Expr->Option GT}
theorem PTs.wk {ifs:List Expr}{t t' : TT} (h:PTs X ifs t) (i:∀σ H Q,t' σ H Q->t σ H Q):PTs X ifs t':=fun pins s σ H Q I q=>h pins s σ H Q I (i σ H Q q)
theorem zv0 (HT:zix fT) (C:CxOk X S d):∀{ifs:List Expr}{tc:GT},zwe fT S ifs=some tc->PTs X ifs (tT X.K tc)
 | [],_,h=>by obtain rfl:=sI h;exact z0a.wk fun _ _ _=>zt9
 | [_],_,h=>zys (HT _ _ d C _ _ h)
 | _::_::_,_,h=>noSome h
theorem ze8 (HE:za2 fE) (HT:zix fT) (C:CxOk X S d) {elt:Expr}{gens:List Comprehension}{scope:Scope}{g:GE} (h:zq7 fE fT S elt gens scope=some g):CompP X S elt gens scope g:=by
 unfold zq7 at h;split at h
 ·rename_i c;obtain ⟨tg,iter,ifs,as⟩:=c;split at h
  ·rename_i z;rw [Bool.and_eq_true] at z;have ha:as=0:=of_decide_eq_true z.2;subst ha;obtain ⟨gi,hi,h⟩:=bS h;obtain ⟨T,hT,h⟩:=bS h;obtain ⟨tc,htc,h⟩:=bS h;obtain ⟨te,hte,h⟩:=bS h;obtain rfl:=sI h;have so:=zt7 C z.1;obtain ⟨pi,pf⟩:=zna HE C hi;exact ⟨tg,iter,ifs,[],gi,T,tc,fun _=>zzy elt,fun acc=>ztj acc (tE X.K te),rfl,fun _ _ _ _=>rfl,so,pi,pf,fun cl L s3 H3 fp=>zwu (zyq C so cl L s3 H3 fp) hT,fun cl L s3 H3 fp=>zv0 HT (zyq C so cl L s3 H3 fp) htc,fun _ cl L s3 H3 fp acc=>z3s (HE _ _ d (zyq C so cl L s3 H3 fp) _ _ hte),fun _ _ _=>zqc⟩
  ·exact noSome h
 ·exact noSome h
theorem zre (C:CxOk X S d) {elt:Expr}{gens:List Comprehension}{scope:Scope}{g:GE}{pos:Pos} (h:CompP X S elt gens scope g):PE X (.ListComp elt gens scope pos) (tE X.K g):=by
 refine aG fun _ qG=>?_;obtain ⟨tg,iter,ifs,gs,gi,T,tc,em,tm,e1,e2,so,pi,pf,pg,pt,pe,rd⟩:=h.ex;refine qG ?_;clear qG;subst e1;exact (zxt pi pg pt (pe pos) (e2 pos) C.calm so.kind so.cap so.fr so.nc so.nm pf).wk rd
noncomputable def kwE (fE:Sx->Expr->Option GE) (S:Sx) (x:Str) (e:Expr) (key:Str) (ed:Expr):Option GE:=match ed with
 | .Name y p=>if x == ("sorted" : Str) && key == ("key" : Str) then z2j fE S e y else maxE fE S x e key (.Name y p)
 | ed=>maxE fE S x e key ed
noncomputable def zw8 (fE:Sx->Expr->Option GE) (S:Sx):Option Expr->Option GO
 | none=>some zbp
 | some e=>(fE S e).bind fun g=>some (zdr g)
noncomputable def zvk (fE:Sx->Expr->Option GE) (fT:Sx->Expr->Option GT) (S:Sx) (e:Expr):Option GE:=match e with
  | .Name x _=>(S.rd x).bind fun i=>some (gVar i)
  | .Constant c _ _=>(match c with
    | .int i=>some (gC (.int i))
    | .bool b=>some (gC (.bl b))
    | .none=>some (gC .non)
    | .str x=>some (gC (.str x))
    | _=>none)
  | .BinOp a op b _=>(zap fE S a).bind fun x=>(zap fE S b).bind fun y=>(binO op).bind fun o=>some (gOp2 o x y)
  | .UnaryOp op a _=>(match op with
    | .USub=>(zap fE S a).bind fun x=>some (gOp1 oNeg x)
    | .Not=>(fE S a).bind fun g=>some (gNot g)
    | _=>none)
  | .BoolOp op vs _=>(match vs with
    | v::vs=>z0e (fE S) op v vs
    | []=>none)
  | .Compare a ops cs _=>cmpZ fE S a ops cs
  | .IfExp c a b _=>(fT S c).bind fun t=>(fE S a).bind fun x=>(fE S b).bind fun y=>some (gIf t x y)
  | .Subscript a s _=>(match s with
    | .Slice lo hi st _=>(match st with
      | none=>(zap fE S a).bind fun x=>(zw8 fE S lo).bind fun l=>(zw8 fE S hi).bind fun h=>some (gSl x l h)
      | some _=>none)
    | s=>if zbk s then (zap fE S a).bind fun x=>(zap fE S s).bind fun y=>some (gOp2 oIx x y) else none)
  | .List es _=>(asL (fun e=>(fE S e).bind fun g=>some (gArg g)) es).bind fun as=>some (za9 as)
  | .Tuple es _ _=>(asL (fun e=>(fE S e).bind fun g=>some (gArg g)) es).bind fun as=>some (zbo as)
  | .Call fu args kws pos=>(match kws with
    | []=>(match fu with
      | .Name x _=>zzu fE S x args
      | .Attribute o m ap=>zzi fE S o m ap args pos
      | _=>none)
    | [⟨some key,.Lambda params body scope _,_⟩]=>(match fu,args with
      | .Name x _,[e]=>zzw fE S x e key params body scope
      | _,_=>none)
    | _=>none)
  | .ListComp elt gens scope _=>zq7 fE fT S elt gens scope
  | _=>none
noncomputable def zx4 (fE:Sx->Expr->Option GE) (fT:Sx->Expr->Option GT) (S:Sx) (e:Expr):Option GT:=match e with
  | .BoolOp op vs _=>(match vs with
    | v::vs=>zxx (fT S) op v vs
    | []=>none)
  | .Compare a ops cs _=>(cmpZ fE S a ops cs).bind fun g=>some (zah g)
  | .UnaryOp op a p=>(match op with
    | .Not=>(fT S a).bind fun g=>some (zlt g)
    | op=>if zmw (.UnaryOp op a p) then (fE S (.UnaryOp op a p)).bind fun g=>some (zah g) else none)
  | e=>if zmw e then (fE S e).bind fun g=>some (zah g) else none
theorem zm1 (HE:za2 fE) (C:CxOk X S d) {o:Option Expr}{g:GO} (h:zw8 fE S o=some g):PO X o (tO X.K g):=by
  cases o with
  | none=>obtain rfl:=sI h;exact fun pins s σ H Q I q=>zzb pins s σ H Q I (zkz q)
  | some e =>
    obtain ⟨ge,hg,h⟩:=bS h;obtain rfl:=sI h;exact fun pins s σ H Q I q=>zq2 (HE X S d C _ _ hg) pins s σ H Q I (ziq q)
theorem zu6 (HE:za2 fE) (HT:zix fT):za2 (zvk fE fT):=fun X S d C e g h=>by
  have HA:∀e a,((fE S e).bind fun g=>some (gArg g))=some a->PE X e (tA X.K a):=fun e a h=>by
    obtain ⟨ge,hg,h⟩:=bS h;obtain rfl:=sI h;exact (HE X S d C _ _ hg).wk fun _ _ _=>zet
  cases e with
  | Name x p =>
    obtain ⟨i,hi,h⟩:=bS (show (S.rd x).bind _=_ from h);obtain rfl:=sI h;exact (zsg C hi).wk fun _ _ _=>zu0
  | Constant c k p =>
    cases c with
    | int i=>obtain rfl:=sI h;exact z1h.wk fun _ _ _=>zbb fun _=>.int i
    | bool b=>obtain rfl:=sI h;exact z43.wk fun _ _ _=>zbb fun _=>.bl b
    | none=>obtain rfl:=sI h;exact z16.wk fun _ _ _=>zbb fun _=>.non
    | str x=>obtain rfl:=sI h;exact zqh.wk fun _ _ _=>zbb fun _=>.str x
    | _=>exact noSome h
  | BinOp a op b p =>
    obtain ⟨x,hx,h⟩:=bS (show (zap fE S a).bind _=_ from h);obtain ⟨y,hy,h⟩:=bS h;obtain ⟨o,ho,h⟩:=bS h;obtain rfl:=sI h;obtain ⟨r,h1,h2⟩:=zxn (X:=X) ho;exact (z5j h1 (zac HE C hx) (zac HE C hy)).wk fun _ _ _=>zbh h2
  | UnaryOp op a p =>
    cases op with
    | USub =>
      obtain ⟨x,hx,h⟩:=bS (show (zap fE S a).bind _=_ from h);obtain rfl:=sI h;exact (z4s z1x (zac HE C hx)).wk fun _ _ _=>zus zyj
    | Not =>
      obtain ⟨x,hx,h⟩:=bS (show (fE S a).bind _=_ from h);obtain rfl:=sI h;exact (z2y (HE X S d C _ _ hx)).wk fun _ _ _=>ztq
    | _=>exact noSome h
  | BoolOp op vs p =>
    cases vs with
    | nil=>exact noSome h
    | cons v vs=>exact zma (fun e g=>HE X S d C e g) h
  | Compare a ops cs p=>exact (zsw HE C h).1
  | IfExp c a b p =>
    obtain ⟨t,ht,h⟩:=bS (show (fT S c).bind _=_ from h);obtain ⟨x,hx,h⟩:=bS h;obtain ⟨y,hy,h⟩:=bS h;obtain rfl:=sI h;exact (ztl (HT X S d C _ _ ht) (HE X S d C _ _ hx) (HE X S d C _ _ hy)).wk fun _ _ _=>zzo
  | Subscript a s p =>
    have ix:∀s,(if zbk s then (zap fE S a).bind fun x=>(zap fE S s).bind fun y=>some (gOp2 oIx x y) else none)=some g->PE X (.Subscript a s p) (tE X.K g):=fun s h=>by
      split at h
      · rename_i z
        obtain ⟨x,hx,h⟩:=bS h;obtain ⟨y,hy,h⟩:=bS h;obtain rfl:=sI h;exact (zzz (zx0.or z3b) (zac HE C hx) (zac HE C hy) (zd2 z)).wk fun _ _ _=>zbh z19
      · exact noSome h
    cases s with
    | Slice lo hi st p2 =>
      cases st with
      | some _=>exact noSome h
      | none =>
        obtain ⟨x,hx,h⟩:=bS (show (zap fE S a).bind _=_ from h);obtain ⟨l,hl,h⟩:=bS h;obtain ⟨u,hu,h⟩:=bS h;obtain rfl:=sI h;exact (zvw ((zxs.or z2p).or zz5) (zac HE C hx) (zm1 HE C hl) (zm1 HE C hu)).wk fun _ _ _=>zza
    | _=>exact ix _ h
  | List es p =>
    obtain ⟨as,has,h⟩:=bS (show (asL _ es).bind _=_ from h);obtain rfl:=sI h;exact (z3d (zff HA has).1).wk fun _ _ _=>zv1
  | Tuple es k p =>
    obtain ⟨as,has,h⟩:=bS (show (asL _ es).bind _=_ from h);obtain rfl:=sI h;exact (z34 (zff HA has).1).wk fun _ _ _=>ztg
  | Call fu args kws p =>
    simp only [zvk] at h;split at h
    · cases fu with
      | Name x p2=>exact zvh HE C h
      | Attribute o m ap=>exact zs9 HE C h
      | _=>exact noSome h
    · split at h
      · exact zt2 HE C h
      · exact noSome h
    · exact noSome h
  | ListComp elt gens scope p=>exact zre C (ze8 HE HT C h)
  | _=>exact noSome h
theorem zs3 (HE:za2 fE) (HT:zix fT):zix (zx4 fE fT):=fun X S d C e g h=>by
  have plain:∀e,(if zmw e then (fE S e).bind fun g=>some (zah g) else none)=some g->PT X e (tT X.K g):=fun e h=>by
    split at h
    · rename_i z
      obtain ⟨x,hx,h⟩:=bS h;obtain rfl:=sI h;exact (z3w (HE X S d C _ _ hx) (znz z)).wk fun _ _ _=>zdm fun _ _ _ q=>q
    · exact noSome h
  cases e with
  | BoolOp op vs p =>
    cases vs with
    | nil=>exact noSome h
    | cons v vs=>exact (zhm (fun e g=>HT X S d C e g) h).pt
  | Compare a ops cs p =>
    obtain ⟨x,hx,h⟩:=bS (show (cmpZ fE S a ops cs).bind _=_ from h);obtain rfl:=sI h;exact (zsw HE C hx).2
  | UnaryOp op a p =>
    cases op with
    | Not =>
      obtain ⟨x,hx,h⟩:=bS (show (fT S a).bind _=_ from h);obtain rfl:=sI h;exact (z28 (HT X S d C _ _ hx)).wk fun _ _ _=>zo2
    | _=>exact plain _ h
  | _=>exact plain _ h
end
noncomputable def zxb:GE:=fun _=>none
noncomputable def zrj:GT:=fun _=>none
mutual
noncomputable def compE:Nat->Sx->Expr->Option GE
 | 0,_,_=>some zxb
 | n+1,S,e=>some ((orX (extE (compE n) S e) (zvk (compE n) (compT n) S e)).getD zxb)
noncomputable def compT:Nat->Sx->Expr->Option GT
 | 0,_,_=>some zrj
 | n+1,S,e=>some ((zx4 (compE n) (compT n) S e).getD zrj)
end
theorem zrr {X:Cx}{e:Expr}:PE X e (tE X.K zxb):=fun _ _ _ _ _ _ q=>by obtain ⟨_,_,_,_,_,_,h,_⟩:=q;exact noSome h
theorem zm4 {X:Cx}{e:Expr}:PT X e (tT X.K zrj):=fun _ _ _ _ _ _ q=>by obtain ⟨_,_,_,_,_,_,h,_⟩:=q;exact noSome h
theorem ze9:∀n,za2 (compE n)/\zix (compT n)
  | 0=>⟨fun _ _ _ _ _ _ h=>by rw [compE] at h;obtain rfl:=sI h;exact zrr,fun _ _ _ _ _ _ h=>by rw [compT] at h;obtain rfl:=sI h;exact zm4⟩
  | n+1=>by
    obtain ⟨a,b⟩:=ze9 n;refine ⟨fun X S d C e g h=>?_,fun X S d C e g h=>?_⟩
    · rw [compE] at h
      cases q:orX (extE (compE n) S e) (zvk (compE n) (compT n) S e) with
      | none=>rw [q] at h;obtain rfl:=sI h;exact zrr
      | some g'=>rw [q] at h;obtain rfl:=sI h;exact zh0 (zzv a C) (zu6 a b X S d C) e _ q
    · rw [compT] at h
      cases q:zx4 (compE n) (compT n) S e with
      | none=>rw [q] at h;obtain rfl:=sI h;exact zm4
      | some g'=>rw [q] at h;obtain rfl:=sI h;exact zs3 a b X S d C e _ q
end L2
namespace L2
open PySem PySem.Spec PyProof.Rows
section
variable {X:Cx}{pos:Pos}
end
section
variable {K:PySem.W.Frag}{mp:List Nat}{D:Ends}{σ:St}{H:Hp}
end
section
variable {X:Cx}{S:Sx}{d:Nat}{fE:Sx->Expr->Option GE}
end
section
variable {X:Cx}{S:Sx}{d:Nat}{fE:Sx->Expr->Option GE}
theorem z22 {o k e:Expr}{p:Pos}{env:Env}:swappedStores [.Subscript o k p] e env=pure none:=by
 cases e<;>rfl
theorem zur {o k e:Expr}{p:Pos}{l:Nat}{env:Env}:swapsWithSole [.Subscript o k p] e l env=pure false:=by
 cases e<;>rfl
theorem zn6 {o k:Expr}{p:Pos}{env:Env} (h:zbk k=true):∀v,assign (.Subscript o k p) env v=(do
   let ov <- holding [v] (eval o env)
   let iv <- holding [v,ov] (eval k env)
   standAt p
   holding [v,ov,iv] (setItem ov iv v)
   release [v,ov,iv] []):=by
 intro v;cases k<;>first | rfl | (cases h)
end
end L2
namespace L2
open PySem PySem.Spec PyProof.Rows
noncomputable def zeh (mp:List Nat) (i:Nat):GS:=fun en=>match en[i]? with
 | some (some (w,true))=>if mp.contains i then none else some (en.set i none,.ret (w,true))
 | some (some (w,false))=>some (en,.ret (w,false))
 | _=>none
theorem zp3 {K:PySem.W.Frag}{mp:List Nat}{D:Ends}{σ:St}{H:Hp}{i:Nat} (h:tS K mp (zeh mp i) D σ H):tRet (tVar i) D σ H:=by
 obtain ⟨F,pr,en,en',fl,R,h,q⟩:=h;unfold zeh at h;split at h
 ·rename_i w e;split at h
  ·exact noSome h
  ·cases h;obtain ⟨v,hv,R',z⟩:=R.drop e;exact ⟨v,hv,q F σ H v (.refl F) R' (.refl _ _) z⟩
 ·rename_i w e;cases h;obtain ⟨v,hv,z⟩:=R.val i w e;exact ⟨v,hv,q F σ H v (.refl F) R (.refl _ _) z⟩
 ·exact noSome h
noncomputable def zu8 (f:Sx->Stmt->Option GS):Prop:=∀X S d,CxOk X S d->∀st g,f S st=some g->PS X st (tS X.K S.mp g)
noncomputable def blk (f:Sx->Stmt->Option GS) (S:Sx):List Stmt->Option GS
  | []=>some zci
  | st::sts=>match sts with
    | []=>f S st
    | _::_=>(f S st).bind fun a=>(blk f S sts).bind fun b=>some (gSeq a b)
noncomputable def zhe (S:Sx) (x:Str) (px:Pos) (scope:Scope) (pos:Pos):Bool:=S.kd.lookup x == some .local && px.line == pos.line && !(scope.names.any fun (n,k)=>n == x && (k == .local || k == .cell))
noncomputable def zll (S:Sx) (x:Str):Bool:=S.top && S.kd.lookup x == some .cell
noncomputable def asgE (fE:Sx->Expr->Option GE) (fT:Sx->Expr->Option GT) (S:Sx) (tg e:Expr):Option GS:=match tg with
  | .Name x px=>(S.wr x).bind fun i=>(match e with
    | .ListComp elt gens scope pos=>(zq7 fE fT S elt gens scope).bind fun g=>if zhe S x px scope pos || zll S x then some (gSet S.mp i g) else none
    | e=>if ze1 e then (fE S e).bind fun g=>some (gSet S.mp i g) else none)
  | .Subscript o k _=>(match o with
    | .Name x _=>if zbk k then (S.rd x).bind fun i=>(fE S k).bind fun gk=>(fE S e).bind fun g=>some (zay i gk g) else none
    | _=>none)
  | _=>none
noncomputable def zz7 (fS:Sx->Stmt->Option GS) (fE:Sx->Expr->Option GE) (fT:Sx->Expr->Option GT) (S:Sx) (st:Stmt):Option GS:=match st with
  | .Return o _=>(match o with
    | none=>none
    | some e=>(match e with
      | .Name x _=>(S.rd x).bind fun i=>some (zeh S.mp i)
      | e=>(fE S e).bind fun g=>some (gRet g)))
  | .If c a b _=>(fT S c).bind fun t=>(blk fS S a).bind fun x=>(blk fS S b).bind fun y=>some (gIfS t x y)
  | .For tg it body els _=>(match els with
    | []=>(zse fE S tg it).bind fun gi=>(tgE S tg).bind fun T=>(blk fS S body).bind fun g=>some (gFor S.mp T gi g)
    | _=>none)
  | .Pass _=>some zci
  | .Expr e _=>if ze1 e then (fE S e).bind fun g=>some (ze7 g) else none
  | .Assign ts e _=>(match ts with
    | [tg]=>asgE fE fT S tg e
    | _=>none)
  | _=>none
section
variable {X:Cx}{S:Sx}{d:Nat}{fS:Sx->Stmt->Option GS}{fE:Sx->Expr->Option GE}{fT:Sx->Expr->Option GT}
theorem zi2 (HS:zu8 fS) (C:CxOk X S d):∀{sts:List Stmt}{g:GS},blk fS S sts=some g->PSs X sts (tS X.K S.mp g)
  | [],_,h=>by obtain rfl:=sI h;exact zx3.wk fun _ _ _=>zjy
  | [st],_,h=>zyl (HS X S d C _ _ h)
  | st::st' :: sts,_,h=>by
    obtain ⟨a,ha,h⟩:=bS (show (fS S st).bind _=_ from h);obtain ⟨b,hb,h⟩:=bS h;obtain rfl:=sI h;exact (ztz (HS X S d C _ _ ha) (zi2 HS C hb)).wk fun _ _ _=>zu7
theorem z49 (C:CxOk X S d) {x:Str}{px pos:Pos}{elt:Expr}{gens:List Comprehension}{scope:Scope}{l:Nat} (h:zhe S x px scope pos=true):swapsWith (.ListComp elt gens scope pos) (some (.Name x px)) l X.env=pure true:=by
 unfold zhe at h;rw [Bool.and_eq_true,Bool.and_eq_true] at h;have h1:X.env.kindOf x=some .local:=C.loc x (by simpa using h.1.1);show (pure (X.env.blockKind == .function && X.env.kindOf x == some .local && px.line == pos.line && !(scope.names.any fun (n,k)=>n == x && (k == .local || k == .cell))):Sem Bool)=pure true;rw [C.bk,h1,h.1.2,h.2]
 rfl
theorem swNo (C:CxOk X S d) {x:Str}{px pos:Pos}{elt:Expr}{gens:List Comprehension}{scope:Scope}{l:Nat} (h:zll S x=true):swapsWith (.ListComp elt gens scope pos) (some (.Name x px)) l X.env=pure false:=by
 unfold zll at h;rw [Bool.and_eq_true] at h;have h1:X.env.kindOf x=some .cell:=(C.cel x (by simpa using h.2)).1;show (pure (X.env.blockKind == .function && X.env.kindOf x == some .local && px.line == pos.line && !(scope.names.any fun (n,k)=>n == x && (k == .local || k == .cell))):Sem Bool)=pure false;rw [h1];have:(some NameKind.cell == some NameKind.local)=false:=rfl;rw [this,Bool.and_false,Bool.false_and,Bool.false_and]
theorem z0f (HE:za2 fE) (HT:zix fT) (C:CxOk X S d) {tg e:Expr}{g:GS}{pos:Pos} (h:asgE fE fT S tg e=some g):PS X (.Assign [tg] e pos) (tS X.K S.mp g):=by
  cases tg with
  | Name x px =>
    refine aG fun _ qG=>?_;obtain ⟨i,hi,h⟩:=bS (show (S.wr x).bind _=_ from h);obtain ⟨w1,w2,w3⟩:=z0g C hi;refine qG ?_;clear qG;have plain:(if ze1 e then (fE S e).bind fun g=>some (gSet S.mp i g) else none)=some g->PS X (.Assign [.Name x px] e pos) (tS X.K S.mp g):=fun h=>by
      split at h
      · rename_i z
        obtain ⟨ge,hg,h⟩:=bS h;obtain rfl:=sI h;exact (zws (ndN C) w1 w2 (HE X S d C _ _ hg) (zmk z) w3).wk fun _ _ _=>zg8
      · exact noSome h
    cases e with
    | ListComp elt gens scope pc =>
      obtain ⟨ge,hg,h⟩:=bS (show (zq7 fE fT S elt gens scope).bind _=_ from h);have cp:=ze8 HE HT C hg;split at h
      · rename_i z
        obtain rfl:=sI h;rw [Bool.or_eq_true] at z;rcases z with z | z
        · refine aG fun Gg qG => ?_
          obtain ⟨tg,iter,ifs,gs,gi,T,tc,em,tm,e1,e2,so,pi,pf,pg,pt,pe,rd⟩:=cp.ex;refine qG ?_;clear qG;subst e1;exact (z0j (ndN C) w1 w2 pi pg pt (pe pc) (e2 pc) (z49 C z) C.calm so.kind so.cap so.fr so.nc so.nm pf w3).wk fun D σ H q=>by
            have q':=zg8 q;exact rd _ _ _ q'
        · exact (zws (ndN C) w1 w2 (zre C cp) (swNo C z) w3).wk fun _ _ _=>zg8
      · exact noSome h
    | _=>exact plain h
  | Subscript o k p =>
    cases o with
    | Name x px =>
      have h' : (if zbk k then (S.rd x).bind fun i=>(fE S k).bind fun gk=>(fE S e).bind fun g=>some (zay i gk g) else none)=some g:=h;split at h'
      · rename_i z
        refine aG fun _ qG=>?_;obtain ⟨i,hi,h⟩:=bS h';obtain ⟨gk,hgk,h⟩:=bS h;obtain ⟨ge,hg,h⟩:=bS h;refine qG ?_;clear qG;obtain rfl:=sI h;exact (z0p (HE X S d C _ _ hg) (z3e (zsg C hi) (HE X S d C _ _ hgk) zvn (zn6 z)) zur z22 rfl).wk fun _ _ _=>zok
      · exact noSome h'
    | _=>exact noSome h
  | _=>exact noSome h
theorem zu3 (HS:zu8 fS) (HE:za2 fE) (HT:zix fT):zu8 (zz7 fS fE fT):=fun X S d C st g h=>by
  have pn:PassesOwn (model X.prog X.w) X.A X.env X.xe:=by rw [C.xe];exact PassesOwn.never
  cases st with
  | Return o p =>
    cases o with
    | none=>cases h
    | some e =>
      have gen:((fE S e).bind fun g=>some (gRet g))=some g->PS X (.Return (some e) p) (tS X.K S.mp g):=fun h=>by
        obtain ⟨ge,hg,h⟩:=bS h;obtain rfl:=sI h;exact (zv8 (HE X S d C _ _ hg)).wk fun _ _ _=>zm2
      cases e with
      | Name x px =>
        obtain ⟨i,hi,h⟩:=bS (show (S.rd x).bind _=_ from h);obtain rfl:=sI h;exact (zv8 (zsg C hi)).wk fun _ _ _=>zp3
      | _=>exact gen h
  | If c a b p =>
    obtain ⟨t,ht,h⟩:=bS (show (fT S c).bind _=_ from h);obtain ⟨x,hx,h⟩:=bS h;obtain ⟨y,hy,h⟩:=bS h;obtain rfl:=sI h;exact (z4m (HT X S d C _ _ ht) (zi2 HS C hx) (zi2 HS C hy)).wk fun _ _ _=>zty
  | For tg it body els p =>
    cases els with
    | cons _ _=>exact noSome h
    | nil =>
      obtain ⟨gi,hgi,h⟩:=bS (show (zse fE S tg it).bind _=_ from h);obtain ⟨T,hT,h⟩:=bS h;obtain ⟨gb,hb,h⟩:=bS h;obtain rfl:=sI h;obtain ⟨pi,pf⟩:=zna HE C hgi;exact (z0w pn C.calm pi (zwu C hT) (zi2 HS C hb) pf).wk fun _ _ _=>zuf
  | Pass p=>obtain rfl:=sI h;exact zy6.wk fun _ _ _=>zjy
  | Expr e p =>
    have h' : (if ze1 e then (fE S e).bind fun g=>some (ze7 g) else none)=some g:=h;split at h'
    · rename_i z
      obtain ⟨ge,hg,h⟩:=bS h';obtain rfl:=sI h;exact (zyz (HE X S d C _ _ hg) (zmk z)).wk fun _ _ _=>zrh
    · exact noSome h'
  | Assign ts e p =>
    match ts,h with
    | [tg],h=>exact z0f HE HT C h
    | [],h=>exact noSome h
    | _::_::_,h=>exact noSome h
  | _=>exact noSome h
end
noncomputable def znb:GS:=fun _=>none
noncomputable def zpy:Nat->Sx->Stmt->Option GS
 | 0,_,_=>some znb
 | n+1,S,st=>some ((zz7 (zpy n) (compE n) (compT n) S st).getD znb)
theorem zms {X:Cx}{st:Stmt}{mp:List Nat}:PS X st (tS X.K mp znb):=fun _ _ _ _ _ _ q=>by obtain ⟨_,_,_,_,_,_,h,_⟩:=q;exact noSome h
theorem zgd:∀n,zu8 (zpy n)
  | 0=>fun _ _ _ _ _ _ h=>by obtain rfl:=sI h;exact zms
  | n+1=>fun X S d C st g h=>by
    rw [zpy] at h;cases q:zz7 (zpy n) (compE n) (compT n) S st with
    | none=>rw [q] at h;obtain rfl:=sI h;exact zms
    | some g'=>rw [q] at h;obtain rfl:=sI h;exact zu3 (zgd n) (ze9 n).1 (ze9 n).2 X S d C st _ q
structure Fd where
 nm:Str
 ps:List Str
 N:List Str
 m:List Bool
 st:Stmt
noncomputable def deep:Nat:=60
noncomputable def sxOf (T:List Fd) (bn:List Str) (Ψ:Str->Fn) (d:Nat) (t:Fd):Sx:={ N:=t.N,kd:=(zaj t.st).names,bn:=bn,fs:=T.map fun u=>(u.nm,(u.m,Ψ u.nm)),mp:=mpOf t.m,top:=true,nm:=t.nm,dp:=d }
noncomputable def zax (T:List Fd) (bn:List Str) (Ψ:Str->Fn) (d:Nat) (t:Fd):Option GS:=blk (zpy deep) (sxOf T bn Ψ d t) (zcx t.st)
noncomputable def fnAt (T:List Fd) (bn:List Str) (Ψ:Str->Fn) (d:Nat) (t:Fd):Fn:=match zax T bn Ψ d t with
 | some g=>zai t.m t.N.length g
 | none=>fun _=>none
noncomputable def sem (T:List Fd) (bn:List Str):Nat->Str->Fn
  | 0,_=>fun _=>none
  | d+1,x=>match T.find? (·.nm == x) with
    | some t=>fnAt T bn (sem T bn d) d t
    | none=>fun _=>none
noncomputable def zuq (K:PySem.W.Frag) (x:Str):Bool:=match PySem.W.tabIn K x with
 | some (c,P)=>PySem.W.codeHdIn K c P
 | none=>false
theorem Fun.okC {P:Program}{w:World}{K:PySem.W.Frag}{mg:Str->Option Value}{base:Heap}{x qual:Str}{st:Stmt}{f:Addr}{fd:FuncData}{N ps:List Str}{k:Nat}{sp:Sp} (F:Fun K x qual st f fd) (S:FnScope N ps (zaj st)) (len:∀vs H Q E,sp vs H Q E->vs.length=ps.length)
  (hbody:∀(A:Around) (outer:List Env) (s:Shared) (H:Hp) (vs:List V) (Q:VK) (E:XK),(Room k (A.deeper (envOfC qual (zaj st) s.heap.objs.size f fd.code))/\Room (k+1) A)->sp vs H Q E ->
   ∃t,PSs (cxOf CX0 P w K mg base N qual (zaj st) f fd.code A outer s H E).nox (zcx st) t/\t { nx:=fun _ H'=>Q .non H',rt:=Q } (start N vs) H):FnOk P w K mg base CX0 (k+1) f fd ps sp:=by
 refine aG fun _ qG=>?_;obtain ⟨oc,od,kV,doc,pm,an,cdv,ct,osl,rfl,lk,hcd⟩:=F.ex;refine qG ?_;clear qG;refine z4p lk hcd S len fun A outer s H vs Q E hr hsp=>?_;obtain ⟨t,h,q⟩:=hbody A outer s H vs Q E hr hsp;exact ⟨t,h.nox,q⟩
structure FdOk (K:PySem.W.Frag) (mg:Str->Option Value) (t:Fd):Prop where
 sc:FnScope t.N t.ps (zaj t.st)
 m:t.m.length=t.ps.length
 ex:∃f fd,Fun K t.nm t.nm t.st f fd/\zlu K fd t.ps []/\mg t.nm=some (.ref f)
 lam:t.nm∈lams->zuq K t.nm=true
theorem znr {T:List Fd}{Ψ:Str->Fn}{x:Str}{m:List Bool}{Φ:Fn} (h:(T.map fun u=>(u.nm,(u.m,Ψ u.nm))).lookup x=some (m,Φ)):∃t∈T,t.nm=x/\t.m=m/\Φ=Ψ x:=by
  induction T with
  | nil=>exact noSome h
  | cons t T ih =>
    rw [List.map_cons,List.lookup_cons] at h;cases q:x == t.nm with
    | true =>
      rw [q] at h;cases h;have:=eq_of_beq q;subst this;exact ⟨t,List.mem_cons_self,rfl,rfl,rfl⟩
    | false =>
      rw [q] at h;obtain ⟨u,h1,h2⟩:=ih h;exact ⟨u,List.mem_cons_of_mem _ h1,h2⟩
theorem zzj {T:List Fd} (nd:(T.map (·.nm)).Nodup) {t:Fd} (h:t∈T):T.find? (·.nm == t.nm)=some t:=by
  induction T with
  | nil=>cases h
  | cons u T ih =>
    rw [List.map_cons,List.nodup_cons] at nd;rw [List.find?_cons];rcases List.mem_cons.mp h with rfl | h
    · simp
    · have:(u.nm == t.nm)=false:=by
        cases q:u.nm == t.nm with
        | false=>rfl
        | true=>exact absurd (List.mem_map.mpr ⟨t,h,(eq_of_beq q).symm⟩) nd.1
      rw [this];exact ih nd.2 h
theorem zr2 {P:Program}{w:World}{K:PySem.W.Frag}{mg:Str->Option Value}{base:Heap}{T:List Fd}{bn:List Str} (nd:(T.map (·.nm)).Nodup) (ok:∀t∈T,FdOk K mg t) (hb:∀x∈bn,mg x=none) (kb:K.In base) (nb:base.Ns mainGlobals mg) (hsg:("g SIGNS" : Str)∈bn->∃t,mg "SIGNS" = some (.str "abcdef" t)) :
    ∀(d:Nat) (t:Fd),t∈T->∀f fd,Fun K t.nm t.nm t.st f fd->mg t.nm=some (.ref f)->FnOk P w K mg base CX0 d f fd t.ps (spF K t.m (sem T bn d t.nm))
  | 0,t,_,f,fd,_,_=>⟨fun vs H Q E h=>(by obtain ⟨_,_,_,_,_,_,_,_,h,_⟩:=h;cases h),fun A outer s H args us vs Q E hr he hbi hv h=>(by obtain ⟨_,_,_,_,_,_,_,_,h,_⟩:=h;cases h)⟩
  | d+1,t,ht,f,fd,F,M=>by
    have o:=ok t ht;refine F.okC (k:=d) o.sc (fun vs H Q E h=>(zoz h).trans o.m) (fun A outer s H vs Q E hr h=>?_);have es:sem T bn (d+1) t.nm=fnAt T bn (sem T bn d) d t:=by
      show (match T.find? (·.nm == t.nm) with | some t=>fnAt T bn (sem T bn d) d t | none=>fun _=>none)=_;rw [zzj nd ht]
    rw [es] at h;unfold fnAt at h;cases e:zax T bn (sem T bn d) d t with
    | none =>
      rw [e] at h;refine aG fun _ qG=>?_;obtain ⟨_,_,_,_,_,_,_,_,h,_⟩:=h;refine qG ?_;clear qG;exact noSome h
    | some g =>
      rw [e] at h;have C:CxOk (cxOf CX0 P w K mg base t.N t.nm (zaj t.st) f fd.code A outer s H E).nox (sxOf T bn (sem T bn d) d t) d:={
        N:=rfl
        nd:=o.sc.nd
        loc:=fun x e=>e
        cel:=fun x e=>⟨e,rfl⟩
        vis:=fun x e=>e
        gl:=fun x e=>e
        calm:=rfl
        xe:=rfl
        bn:=hb
        fs:=fun x m Φ e=>by
          refine aG fun _ qG=>?_;obtain ⟨u,hu,e1,e2,e3⟩:=znr e;refine qG ?_;clear qG;subst e1 e2 e3;refine aG fun _ qG=>?_;obtain ⟨fa,fb,F',B',M'⟩:=(ok u hu).ex;refine qG ?_;clear qG;exact ⟨u.ps,(ok u hu).m.symm,⟨fa,fb,zr2 nd ok hb kb nb hsg d u hu fa fb F' M',B',F'.kp,M'⟩⟩
        room:=hr.1
        sl:=by have:=hr.2.un;show A.units+3+16 * d+205 < cLine;omega
        dpo:=Nat.le_refl _
        sg:=hsg
        lam:=fun h=>by
          have q:=o.lam h;unfold zuq at q;split at q
          · rename_i c Pt e
            refine ⟨c,Pt,e,q,?_,rfl⟩;refine aG fun _ qG=>?_;obtain ⟨oc,od,kV,doc,pm,an,cdv,ct,osl,e1,lk,hcd⟩:=F.ex;refine qG ?_;clear qG;exact PySem.W.law_code kb nb e M (kb _ _ lk) rfl
          · cases q
        bk:=by
          show (if (zaj t.st).kind.isAnnotationScope then ScopeKind.function else (zaj t.st).kind)=.function;rw [o.sc.kind];rfl }
      exact ⟨_,zi2 (zgd deep) C e,zsc h⟩
theorem zn0 {K:PySem.W.Frag}{F H:Hp}{a:Addr}{ns:List Int}{Φ:Fn}{ws' : List W} (hs:Same F H) (tb:znv K F (fun _ _=>False) H) (h:SqL K F a (ns.map V.int)) (e:Φ [.frl (ns.map W.int)]=some (ws',(.bl true,false))) (hl:ws'.length=1) {E:XK}:spF K [false] Φ [.ref a] H (fun v _=>v=.bl true) E:=by
 refine ⟨F,fun _ _=>False,_,ws',_,rfl,hl,⟨rfl,hs,fun i w q=>?_,fun i w q=>?_,fun i j a w w' q=>?_,fun b o q=>q.elim,tb⟩,e,fun F' H' v _ _ z=>?_⟩
 ·cases i with
  | zero=>cases q;exact ⟨_,rfl,.frl h (Reps.ofInts ns)⟩
  | succ i=>cases i<;>exact noSome q
 ·cases i with
  | zero=>cases q
  | succ i=>cases i<;>exact noSome q
 ·cases i with
  | zero=>cases q
  | succ i=>cases i<;>exact noSome q
 ·exact z.isBl
end L2
namespace L2
open PySem PySem.Spec PyProof.Rows
noncomputable def tabsOf (K:PySem.W.Frag):List Addr:=lams.filterMap fun x=>(PySem.W.tabIn K x).map (·.2)
theorem zhi {K:PySem.W.Frag}{b:Addr}:b∈tabsOf K↔∃x∈lams,∃c,PySem.W.tabIn K x=some (c,b):=by
 unfold tabsOf;rw [List.mem_filterMap];constructor
 ·rintro ⟨x, hx, e⟩;cases q:PySem.W.tabIn K x with
  | none=>rw [q] at e;exact noSome e
  | some p=>rw [q] at e;obtain rfl:=sI e;exact ⟨x,hx,p.1,q⟩
 ·rintro ⟨x, hx, c, e⟩;exact ⟨x,hx,by rw [e];rfl⟩
noncomputable def z21 (K:PySem.W.Frag) (h:Heap):Prop:=∀x∈lams,∀c P,PySem.W.tabIn K x=some (c,P)->PySem.W.CodeHd h c P/\h.get? P=some (PySem.W.tabObj #[])
structure Start (K:PySem.W.Frag) (F H:Hp):Prop where
 sub:Same F H
 tb:znv K F (fun _ _=>False) H
theorem zou {P:Program}{w:World}{K:PySem.W.Frag}{mg mb:Str->Option Value}{CX:CXT}{k:Nat}{fa a:Addr}{fd:FuncData}{x:Str}{sp:Sp}{s₁:Shared}{vs:List Value}{ns:List Int}
    (KX:K.In s₁.heap) (nt:PySem.W.noTabs K=true) (nd:zyx K) (hT:z21 K s₁.heap) (hns:s₁.heap.Ns mainGlobals mg) (hb:s₁.heap.Ns builtinsNs mb) (hbb:∀x:Str,x≠"__name__" -> mb x=bootBuiltins x) (hlim:s₁.heap.NoLimit) (hbm:∃(b:Addr) (ob:Obj),mg "__builtins__" = some (.ref b)/\b≠builtinsNs/\s₁.heap.get? b=some ob/\ob.cls=.type "module"/\ob.dict=some builtinsNs/\ob.data=.plain) (hg:s₁.gens=#[])
    (ha:s₁.heap.get? a=some { cls:=.type "list",data:=.seq vs.toArray }) (hi:IntsAre vs ns) (hl:ns.length<=sizeLine) (hr:Room k callerA)
    (Fk:∀base:Heap,K.In base->base.Ns mainGlobals mg->FnOk P w K mg base CX k fa fd [x] sp) (hbind:∀(s:Shared) (u:Value),BindsTo s fd ⟨[u],[]⟩ [(x,u)])
    (hsp:∀F H:Hp,Start K F H->SqL K F a (ns.map V.int)->sp [.ref a] H (fun v _=>v=.bl true) fun _ _ _=>False)
    (hCX:∀H e s',CX [] H s₁ (fun _ _ _=>False) e s'->False) :
    codeAny (model P w) callerA (.call (.ref fa) ⟨[.ref a],[]⟩) (fun r s'=>r=.ok (.ret (.bool true))/\OldK s₁.heap s'.heap/\s'.os=s₁.os/\AllBare s'.gens) s₁:=by
  have rv:=zjg hi;have lenV:=hi.length;have tabAt:∀b∈tabsOf K,s₁.heap.get? b=some (PySem.W.tabObj #[]):=fun b h=>by
    refine aG fun _ qG=>?_;obtain ⟨x,hx,c,e⟩:=zhi.mp h;refine qG ?_;clear qG;exact (hT x hx c b e).2
  have na:a ∉ tabsOf K:=fun h=>by
    have:=tabAt a h;rw [ha] at this;cases this
  have core:∀F H:Hp,(∀b,H b=none\/(b∈tabsOf K/\H b=some (.tbl #[])/\F b=none)\/(b=a/\K.lookup a=none/\F b=H b/\∃o xs,H b=some (.frz o (.lst xs))))->(∀b,H b=none->F b=none)->(∀b∈tabsOf K,H b=some (.tbl #[]))->SqL K F a (ns.map V.int)->HOk P w H s₁.heap ->
      codeAny (model P w) callerA (.call (.ref fa) ⟨[.ref a],[]⟩) (fun r s'=>r=.ok (.ret (.bool true))/\OldK s₁.heap s'.heap/\s'.os=s₁.os/\AllBare s'.gens) s₁:=by
    intro F H hO hF hB hS hok;have base_of:∀{b:Addr}{o:Obj},s₁.heap.get? b=some o->H b=none->(hidT s₁.heap H).get? b=some o:=fun e n=>zuv e n;have noA:∀{b:Addr}{o:Obj}{es:Array DictEntry}{ep:Nat},s₁.heap.get? b=some o->o.data=.dict es ep->H b=none:=fun {b o es ep} e d=>by
      rcases hO b with z | ⟨z,_⟩ | ⟨z,_⟩
      · exact z
      · rw [tabAt b z] at e;obtain rfl:=sI e;cases d
      · subst z
        rw [ha] at e;obtain rfl:=sI e;have d' : Data.seq vs.toArray _=Data.dict es ep:=d;cases d'
    have nsK:∀{b:Addr}{m:Str->Option Value},s₁.heap.Ns b m->(hidT s₁.heap H).Ns b m:=fun {b m} ⟨o,es,ep,e,d,r⟩=>⟨o,es,ep,base_of e (noA e d),d,r⟩;have hKb:K.In (hidT s₁.heap H):=fun b o e=>base_of (KX b o e) (by
      rcases hO b with z | ⟨z,_⟩ | ⟨z,n,_⟩
      · exact z
      · have e2 := KX b o e
        rw [tabAt b z] at e2;obtain rfl:=sI e2;have:=List.all_eq_true.mp nt (b,_) (PySem.W.mem_of_lookupK e);exact absurd (show false=true from this) Bool.false_ne_true
      · subst z
        rw [n] at e;cases e)
    have hM:Mod K mg (hidT s₁.heap H):=⟨hKb,nsK hns,⟨mb,nsK hb,hbb⟩,let ⟨mc,h1,h2⟩:=hlim;⟨mc,nsK h1,h2⟩,by
      refine aG fun _ qG=>?_;obtain ⟨b,ob,b1,b2,b3,b4,b5,b6⟩:=hbm;refine qG ?_;clear qG;refine ⟨b,ob,b1,b2,base_of b3 ?_,b4,b5,b6⟩;rcases hO b with z | ⟨z,_⟩ | ⟨z,_⟩
      · exact z
      · rw [tabAt b z] at b3;obtain rfl:=sI b3;cases b4
      · subst z;rw [ha] at b3;obtain rfl:=sI b3;exact absurd b4 (by simp)⟩
    have e0:Env0 P w K mg (hidT s₁.heap H) callerA [] s₁ H:=⟨rfl,hM,fun b o e=>zx8 e,Nat.le_of_eq (zot _ _),trivial,fun b hb=>absurd (show b∈([]:List Addr) from hb) (by simp),hok,.of_eq hg⟩;have st:Start K F H:=⟨fun b o e=>by
      rcases hO b with z | ⟨_,_,z⟩ | ⟨_,_,z,_⟩
      · rw [hF b z] at e;cases e
      · rw [z] at e;cases e
      · rw [<-z];exact e,⟨⟨nd,fun _ _ z=>z⟩,fun x hx c Pt e=>by
      have hm:Pt∈tabsOf K:=zhi.mpr ⟨x,hx,c,e⟩;refine ⟨#[],hB Pt hm,?_,fun _ z=>z,trivial,fun pos cv q=>by cases q⟩;rcases hO Pt with z | ⟨_,_,z⟩ | ⟨z,_⟩
      · exact hF Pt z
      · exact z
      · subst z;exact absurd hm na⟩⟩
    refine codeAny_mono ((Fk _ hKb (nsK hns)).run callerA [] s₁ H ⟨[.ref a],[]⟩ [.ref a] [.ref a] _ _ hr e0 (hbind s₁ (.ref a)) (.cons rfl .nil) (hsp F H st hS)) fun r s' h=>?_;cases r with
    | error e=>exact (hCX H e s' h).elim
    | ok fl =>
      cases fl with
      | next=>exact False.elim h
      | brk=>exact False.elim h
      | cont=>exact False.elim h
      | ret u =>
        refine aG fun _ qG=>?_;obtain ⟨v,H',os,bare,un,hok',r',q⟩:=h;refine qG ?_;clear qG;have q' : v=.bl true:=q;subst q';obtain rfl:u=Value.bool true:=r';refine ⟨rfl,⟨fun b o e=>?_,fun b o e=>un.there b o e (by simp)⟩,os,bare⟩;rcases hO b with z | ⟨z,z1,_⟩ | ⟨_,_,_,ob,xs,z⟩
        · exact .inl (un.keep b o e z (by intro y;exact absurd (show b∈([]:List Addr) from y) (by simp)) (by simp))
        · refine aG fun Gg qG => ?_
          obtain ⟨x,hx,c,ex⟩:=zhi.mp z;obtain ⟨t1,t2⟩:=hT x hx c b ex;refine qG ?_;clear qG;rw [e] at t2;obtain rfl:=sI t2;obtain ⟨more,e2⟩:=un.tbls b #[] z1;exact .inr (.inl ⟨(t1.tab e).isCodeTable,rfl,#[],more,rfl,hok' b _ e2⟩)
        · have z2 := un.frzs b ob _ z
          obtain ⟨e1,_⟩:=hok b _ z;obtain ⟨e2,_⟩:=hok' b _ z2;rw [e] at e1;obtain rfl:=sI e1;exact .inl e2
  have tOk:∀b,b∈tabsOf K->∀H,zbd P w H s₁.heap b (.tbl #[]):=fun b h H=>tabAt b h;cases hk:K.lookup a with
  | some o =>
    have e:=KX a o hk;rw [ha] at e;obtain rfl:=sI e;refine core (fun _=>none) (fun b=>if b∈tabsOf K then some (.tbl #[]) else none) (fun b=>?_) (fun _ _=>rfl) (fun b h=>if_pos h) (.inr ⟨_,vs.toArray,_,hk,rfl,rfl,rfl,by rw [List.size_toArray,lenV];exact hl,by simpa using rv⟩) (fun b u z=>?_)
    · by_cases h : b ∈ tabsOf K
      · exact .inr (.inl ⟨h,if_pos h,rfl⟩)
      · exact .inl (if_neg h)
    · by_cases h : b ∈ tabsOf K
      · have z' := (if_pos h).symm.trans z
        obtain rfl:=sI z';exact tOk b h _
      · have z' := (if_neg h).symm.trans z
        cases z'
  | none =>
    refine core (fun b=>if b=a then some (.frz { cls:=.type "list",data:=.seq vs.toArray } (.lst (ns.map V.int))) else none) (fun b=>if b=a then some (.frz { cls:=.type "list",data:=.seq vs.toArray } (.lst (ns.map V.int))) else if b∈tabsOf K then some (.tbl #[]) else none) (fun b=>?_) (fun b z=>?_) (fun b h=>?_) (.inl (.inr ⟨{ cls:=.type "list",data:=.seq vs.toArray },if_pos rfl⟩)) (fun b u z=>?_)
    · by_cases h0 : b = a
      · exact .inr (.inr ⟨h0,hk,by simp only [if_pos h0],_,_,if_pos h0⟩)
      · by_cases h : b ∈ tabsOf K
        · exact .inr (.inl ⟨h,by simp only [if_neg h0,if_pos h],if_neg h0⟩)
        · exact .inl (by simp only [if_neg h0,if_neg h])
    · by_cases h0 : b = a
      · simp only [if_pos h0] at z;cases z
      · exact if_neg h0
    · have h0 : b ≠ a := fun z => by subst z; exact na h
      simp only [if_neg h0,if_pos h]
    · by_cases h0 : b = a
      · have z' : some (HO.frz { cls := .type "list", data := .seq vs.toArray } (.lst (ns.map V.int))) = some u := by simpa only [if_pos h0] using z
        obtain rfl:=sI z';subst h0;exact ⟨ha,by rw [List.length_map];exact hl,vs,_,rv,ha⟩
      · by_cases h : b ∈ tabsOf K
        · have z' : some (HO.tbl #[]) = some u := by simpa only [if_neg h0, if_pos h] using z
          obtain rfl:=sI z';exact tOk b h _
        · have z' : (none : Option HO) = some u := by simpa only [if_neg h0, if_neg h] using z
          cases z'
noncomputable def zsx (K:PySem.W.Frag):Bool:=lams.all fun x=>lams.all fun x'=>match PySem.W.tabIn K x,PySem.W.tabIn K x' with
 | some p,some p'=>x == x' || !(p.2 == p'.2)
 | _,_=>true
theorem zuu {K:PySem.W.Frag} (h:zsx K=true):zyx K:=fun x hx x' hx' c c' P e e'=>by
 have:=List.all_eq_true.mp (List.all_eq_true.mp h x hx) x' hx';rw [e,e'] at this;simpa using this
theorem walk_ofT {l:PySem.W.OpenLaw}{n k:Nat}{q:Program}{loose:List Str}{XP:(Str->Option Value)->Heap->Prop}{YP:World->Heap->Prop}{d:DefRec}{K:Params->PySem.W.Frag}{CX:World->CXT}{sp:World->Sp}{x:Str}
  (hn:l.most=some n) (hn2:n<=sizeLine) (hdf:d.params.defaults=[]) (hr:Room k callerA)
  (hY:∀(w:World) (h:Heap),YP w h->(K w.params).In h)
  (nt:∀w:World,PySem.W.noTabs (K w.params)=true) (nd:∀w:World,zsx (K w.params)=true) (hrec:∀(w:World),∀x∈lams,∀c P,PySem.W.tabIn (K w.params) x=some (c,P)->∃d,(recsOf q).find? (fun e=>e.name == x)=some d)
  (F:∀(w:World) (mg:Str->Option Value) (fa:Addr) (h:Heap),(K w.params).In h->h.Ns mainGlobals mg->mg d.name=some (.ref fa) ->
   ∃fd:FuncData,(∀(s:Shared) (u:Value),BindsTo s fd ⟨[u],[]⟩ [(x,u)]) /\
    ∀base:Heap,(K w.params).In base->base.Ns mainGlobals mg->FnOk l.prog w (K w.params) mg base (CX w) k fa fd [x] (sp w))
  (hsp:∀(w:World) (F H:Hp) (a:Addr) (ns:List Int),ns.length<=n->Start (K w.params) F H->SqL (K w.params) F a (ns.map V.int)->sp w [.ref a] H (fun v _=>v=.bl true) fun _ _ _=>False)
  (hCX:∀(w:World) (H:Hp) (s:Shared) (e:Value) (s' : Shared),CX w [] H s (fun _ _ _=>False) e s'->False) :
  PySem.W.WalkO q loose XP YP l.row.toRowW d [] (fun f vs=>PySem.call f vs):=by
 refine Att.attach_call hn hdf fun w s₀ s₁ mg mb fa o pm cd doc a vs ns G Y ho hd hcd hmg hobj hints hlen hg=>?_;have KX:=hY w _ Y;obtain ⟨fd,hb,hF⟩:=F w mg fa _ KX G.T.g hmg;refine zou KX (nt w) (zuu (nd w)) (fun x hx c Pt e=>?_) G.T.g G.T.b G.T.builtins G.T.nolimit G.T.bmain hg hobj hints (Nat.le_trans hlen hn2) hr hF hb (fun F H hO hS=>hsp w F H a ns hlen hO hS) fun H e s'=>hCX w H s₁ e s';obtain ⟨d,hd⟩:=hrec w x hx c Pt e;exact PySem.W.tab_of G.T KX hd e
end L2
namespace L2
open PySem PySem.Spec PyProof.Rows
theorem zqs (i j:Int):oAdd (.int i) (.int j)=some (.int (i+j),false):=rfl
theorem zsk {i j:Int} (h:cMul i j=true):oMult (.int i) (.int j)=some (.int (i * j),false):=by
 show (match (if cMul i j then some (W.int (i * j),false) else none) with | some p=>some p | none=>_)=_;rw [if_pos h]
theorem oMult_l {i j:Int} (h1:-(2 ^ 64) < i) (h2:i < 2 ^ 64):oMult (.int i) (.int j)=some (.int (i * j),false):=zsk (by
 unfold cMul;rw [Bool.or_eq_true,Bool.and_eq_true];exact .inl ⟨decide_eq_true h1,decide_eq_true h2⟩)
theorem zkf {i j:Int} (h1:-(2 ^ 64) < j) (h2:j < 2 ^ 64):oMult (.int i) (.int j)=some (.int (i * j),false):=zsk (by
 unfold cMul;rw [Bool.or_eq_true,Bool.and_eq_true,Bool.and_eq_true];exact .inr ⟨decide_eq_true h1,decide_eq_true h2⟩)
theorem zqv {i j:Int} (h1:Builtin.Int.intBits i<=2 ^ 20) (h2:Builtin.Int.intBits j<=2 ^ 20):oMult (.int i) (.int j)=some (.int (i * j),false):=by
 have h:zoc i j=true:=by
  unfold zoc;rw [Bool.and_eq_true];exact ⟨decide_eq_true h1,decide_eq_true h2⟩
 show (match (if cMul i j then some (W.int (i * j),false) else none) with | some p=>some p | none=>(match (if zoc i j then some (W.int (i * j),false) else none) with | some p=>some p | none=>_))=_;rw [if_pos h];split<;>simp_all
theorem zsj {xs:List W}{k:Int} (h:-(2 ^ 63)<=k/\k < 2 ^ 63/\xs.length * k.toNat<=sizeLine):oMult (.lst xs) (.int k)=some (.lst (List.replicate k.toNat xs).flatten,true):=by
 show (if -(2 ^ 63)<=k/\k < 2 ^ 63/\xs.length * k.toNat<=sizeLine then some (W.lst (List.replicate k.toNat xs).flatten,true) else none)=_;rw [if_pos h]
theorem zxc {xs ys:List W} (h:xs.length+ys.length<=sizeLine):oAdd (.lst xs) (.lst ys)=some (.lst (xs++ys),true):=by
 show (match (if xs.length+ys.length<=sizeLine then some (W.lst (xs++ys),true) else none) with | some p=>some p | none=>_)=_;rw [if_pos h]
theorem z26 {i j:Int} (h0:0 < j) (h:j < 2 ^ 200):cDiv i j=true:=by
 unfold cDiv;rw [Bool.and_eq_true];refine ⟨decide_eq_true h0,decide_eq_true ?_⟩;have hn:j.natAbs≠0:=by omega
 have h1:j.natAbs < 2 ^ 200:=by
  have:((j.natAbs:Nat):Int) < ((2 ^ 200:Nat):Int):=by
   rw [Int.natCast_pow];have e:((j.natAbs:Nat):Int)=j:=by omega
   rw [e];exact h
  exact Int.ofNat_lt.mp this
 exact Nat.lt_of_lt_of_le ((Nat.log2_lt hn).mpr h1) (by decide)
theorem zpl {i j:Int} (h0:0 < j) (h:j < 18446744073709551617):cDiv i j=true:=z26 h0 (Int.lt_of_lt_of_le h (by decide))
theorem zm8 {mp:List Nat}{T:Tg}{body:GS} (P:Nat->En->Prop):∀(ws:List W) (k:Nat) (en:En),P k en->(∀i w e,ws[i]?=some w->P (k+i) e->∃e1 e2,tgSet mp T w e=some e1/\(body e1=some (e2,.nx)\/body e1=some (e2,.cnt))/\P (k+i+1) e2) ->
    ∃en',zja mp T body ws en=some (en',.nx)/\P (k+ws.length) en'
  | [],k,en,h0,_=>⟨en,rfl,h0⟩
  | w::ws,k,en,h0,hs=>by
    refine aG fun _ qG=>?_;obtain ⟨e1,e2,h1,h2,h3⟩:=hs 0 w en rfl h0;refine qG ?_;clear qG;obtain ⟨en',h4,h5⟩:=zm8 P ws (k+1) e2 h3 fun i u e hu hp=>by
      have:=hs (i+1) u e (by simpa using hu) (by rw [show k+(i+1)=k+1+i by omega];exact hp);rw [show k+(i+1)+1=k+1+i+1 by omega] at this;exact this
    refine ⟨en',?_,by rw [show k+(w::ws).length=k+1+ws.length by rw [List.length_cons];omega];exact h5⟩;show (tgSet mp T w en).bind _=_;rw [h1];show (match body e1 with | some (e2,.nx)=>zja mp T body ws e2 | some (e2,.cnt)=>zja mp T body ws e2 | some (e2,.brk)=>some (e2,.nx) | some (e2,.ret r)=>some (e2,.ret r) | none=>none)=_;rcases h2 with h2 | h2<;>(rw [h2];exact h4)
theorem zfm {mp:List Nat}{T:Tg}{it:GL}{body:GS} (P:Nat->En->Prop) {en e0:En}{ws:List W} (hi:it en=some (e0,ws)) (h0:P 0 e0) (hs:∀i w e,ws[i]?=some w->P i e->∃e1 e2,tgSet mp T w e=some e1/\(body e1=some (e2,.nx)\/body e1=some (e2,.cnt))/\P (i+1) e2) :
  ∃en',gFor mp T it body en=some (en',.nx)/\P ws.length en':=by
 obtain ⟨en',h1,h2⟩:=zm8 P ws 0 e0 h0 fun i w e hw hp=>by
  rw [Nat.zero_add] at hp ⊢;exact hs i w e hw hp
 refine ⟨en',?_,by rw [Nat.zero_add] at h2;exact h2⟩;unfold gFor;rw [hi];exact h1
theorem zh8 {mp:List Nat}{T:Tg}{tc:GT}{te:GE} (P:Nat->En->List W->Prop):∀(ws:List W) (k:Nat) (ce:En) (dn:List W),P k ce dn ->
    (∀i w c dn,ws[i]?=some w->P (k+i) c dn->∃c1,tgSet mp T w c=some c1/\((∃c2 c3 r,tc c1=some (c2,true)/\te c2=some (c3,r)/\P (k+i+1) c3 (dn++[r.1]))\/∃c2,tc c1=some (c2,false)/\P (k+i+1) c2 dn)) ->
    ∃ce' rest,zfj mp T tc te ws ce=some (ce',rest)/\P (k+ws.length) ce' (dn++rest)
  | [],k,ce,dn,h0,_=>⟨ce,[],rfl,by rw [List.append_nil];exact h0⟩
  | w::ws,k,ce,dn,h0,hs=>by
    obtain ⟨c1,h1,h2⟩:=hs 0 w ce dn rfl h0;have next:∀c3 dn',P (k+1) c3 dn'->∃ce' rest,zfj mp T tc te ws c3=some (ce',rest)/\P (k+1+ws.length) ce' (dn'++rest):=fun c3 dn' h=>zh8 P ws (k+1) c3 dn' h fun i u c d hu hp=>by
      have:=hs (i+1) u c d (by simpa using hu) (by rw [show k+(i+1)=k+1+i by omega];exact hp);rw [show k+(i+1)+1=k+1+i+1 by omega] at this;exact this
    have el:k+(w::ws).length=k+1+ws.length:=by rw [List.length_cons];omega
    rcases h2 with ⟨c2,c3,r,h3,h4,h5⟩ | ⟨c2,h3,h5⟩
    · obtain ⟨ce', rest, h6, h7⟩ := next c3 _ h5
      refine ⟨ce',r.1::rest,?_,by rw [el];rw [List.append_assoc] at h7;exact h7⟩;show (tgSet mp T w ce).bind _=_;rw [h1];show (match tc c1 with | some (c2,true)=>(te c2).bind fun p=>(zfj mp T tc te ws p.1).bind fun q=>some (q.1,p.2.1::q.2) | some (c2,false)=>zfj mp T tc te ws c2 | none=>none)=_;rw [h3];show (te c2).bind _=_;rw [h4];show (zfj mp T tc te ws c3).bind _=_;rw [h6]
      rfl
    · obtain ⟨ce', rest, h6, h7⟩ := next c2 _ h5
      refine ⟨ce',rest,?_,by rw [el];exact h7⟩;show (tgSet mp T w ce).bind _=_;rw [h1];show (match tc c1 with | some (c2,true)=>(te c2).bind fun p=>(zfj mp T tc te ws p.1).bind fun q=>some (q.1,p.2.1::q.2) | some (c2,false)=>zfj mp T tc te ws c2 | none=>none)=_;rw [h3];exact h6
theorem zgu {cap:Cap}{T:Tg}{it:GL}{tc:GT}{te:GE} (P:Nat->En->List W->Prop) {en e0:En}{ws:List W} (hi:it en=some (e0,ws)) (hn:zbr cap=true) (hz:ws.length<=sizeLine) (h0:P 0 (zej cap e0) [])
  (hs:∀i w c dn,ws[i]?=some w->P i c dn->∃c1,tgSet (capKeep cap) T w c=some c1/\((∃c2 c3 r,tc c1=some (c2,true)/\te c2=some (c3,r)/\P (i+1) c3 (dn++[r.1]))\/∃c2,tc c1=some (c2,false)/\P (i+1) c2 dn)) :
  ∃ce' out,zbe cap T it tc te en=some (zaq cap e0 ce',(.lst out,true))/\P ws.length ce' out:=by
 obtain ⟨ce',rest,h1,h2⟩:=zh8 P ws 0 (zej cap e0) [] h0 fun i w c dn hw hp=>by
  rw [Nat.zero_add] at hp ⊢;exact hs i w c dn hw hp
 refine ⟨ce',rest,?_,by rw [Nat.zero_add] at h2;exact h2⟩;unfold zbe;rw [hi];show (if zbr cap && decide (ws.length<=sizeLine) then _ else none)=_;rw [if_pos (by rw [hn,decide_eq_true hz];rfl),h1]
 rfl
theorem zeo {lo:Int}{n i:Nat}{w:W} (h:(rngW lo n)[i]?=some w):i < n/\w=.int (lo+i):=by
  unfold rngW at h;rw [List.getElem?_map] at h;cases q:(List.range n)[i]? with
  | none=>rw [q] at h;exact noSome h
  | some k =>
    rw [q] at h;obtain ⟨hl,e⟩:=List.getElem?_eq_some_iff.mp q;rw [List.length_range] at hl;rw [List.getElem_range] at e;subst e;exact ⟨hl,(sI h).symm⟩
theorem zeq (lo:Int) (n:Nat):(rngW lo n).length=n:=by unfold rngW;rw [List.length_map,List.length_range]
theorem zbl {xs:List W}{i:Nat}{x:W} (h:xs[i]?=some x):atI xs (i:Int)=some x:=zy1 h
theorem zpb {en:En}:zbs [] [] en=some []:=rfl
theorem zsh {m:List Bool}{ws:List W}{en:En}{x w:W}:zbs (true::m) (x::ws) (some (w,true)::en)=(zbs m ws en).bind fun r=>some (w::r):=rfl
theorem zpj {m:List Bool}{ws:List W}{en:En}{w:W}{o:Option (W × Bool)}:zbs (false::m) (w::ws) (o::en)=(zbs m ws en).bind fun r=>some (w::r):=rfl
noncomputable def HS (k:Nat) (w:W):Prop:=∃a b c:Int,w=.lst [.int a,.int b,.int c]/\0<=a/\0<=b/\b < MM/\0<=c/\c<=k
theorem HS.mono {k k' : Nat}{w:W} (h:HS k w) (hk:k<=k'):HS k' w:=by
 obtain ⟨a,b,c,e,h1,h2,h3,h4,h5⟩:=h;exact ⟨a,b,c,e,h1,h2,h3,h4,by omega⟩
noncomputable def zj0 (Φ:Fn):Prop:=∀(k:Nat) (st:W) (n:Int),HS k st->k < big->0 < n->n < 1073741824->∃st' r,Φ [st,.int n]=some ([st',.int n],(.int r,false))/\HS (k+1) st'/\0<=r/\r < n
noncomputable def zst (Ψ:Str->Fn):GS:=(gSeq (gIfS (zah (gOp2 (oI yes2 fun i j=>.bl (decide (j < i))) (gArg (gOp2 oIx (zaa 0) (gArg (gC (.int 0))))) (gArg (gC (.int 0))))) (gSeq (gSet [0] 2 (gOp2 (oI (fun _ j=>decide (0 < j)) fun i j=>.int (i % j)) (gArg (gOp2 oIx (zaa 0) (gArg (gC (.int 0))))) (zaa 1))) (gSeq (zay 0 (gC (.int 0)) (gOp2 (oI cDiv fun i j=>.int (i / j)) (gArg (gOp2 oIx (zaa 0) (gArg (gC (.int 0))))) (zaa 1))) (zeh [0] 2))) zci) (gSeq (zay 0 (gC (.int 2)) (gOp2 oAdd (gArg (gOp2 oIx (zaa 0) (gArg (gC (.int 2))))) (gArg (gC (.int 1))))) (gSeq (gSet [0] 3 (gOp2 (oI (fun _ j=>decide (0 < j)) fun i j=>.int (i % j)) (gArg (gOp2 oMult (gArg (gOp2 oAdd (gArg (gOp2 oAdd (gArg (gOp2 oIx (zaa 0) (gArg (gC (.int 1))))) (gArg (gOp2 oMult (gArg (gOp2 oMult (gArg (gC (.int 65537))) (gArg (gOp2 oIx (zaa 0) (gArg (gC (.int 2))))))) (gArg (gOp2 oIx (zaa 0) (gArg (gC (.int 2))))))))) (gArg (gC (.int 11))))) (gArg (gC (.int 48271))))) (gArg (gC (.int 2305843009213693921))))) (gSeq (gSet [0] 3 (gOp2 (oI (fun _ j=>decide (0 < j)) fun i j=>.int (i % j)) (gArg (gOp2 oMult (zaa 3) (gArg (gOp2 oAdd (gArg (gOp2 (oI (fun _ j=>decide (0 < j)) fun i j=>.int (i % j)) (zaa 3) (gArg (gC (.int 1000003))))) (gArg (gOp2 oMult (gArg (gC (.int 99991))) (gArg (gOp2 oIx (zaa 0) (gArg (gC (.int 2))))))))))) (gArg (gC (.int 2305843009213693907))))) (gRet (gOp2 (oI (fun _ j=>decide (0 < j)) fun i j=>.int (i % j)) (gArg (gOp2 oAdd (gArg (gOp2 (oI cDiv fun i j=>.int (i / j)) (zaa 3) (gArg (gC (.int 97))))) (gArg (gOp2 (oI cDiv fun i j=>.int (i / j)) (zaa 3) (gArg (gC (.int 1000033))))))) (zaa 1)))))))
theorem zrb (Ψ:Str->Fn):zj0 (zai [true,false] 4 (zst Ψ)):=by
 rintro k st n ⟨a,b,c,rfl,h0,h1,h2,h3,h4⟩ hk n0 n1;have hb:(k:Int) < 1099511627776:=by have:k < 1099511627776:=hk;omega
 by_cases c1:0 < a
 ·refine ⟨.lst [.int (a / n), .int b, .int c], a % n, ?_, ⟨_, _, _, rfl, Int.ediv_nonneg h0 (by omega), h1, h2, h3, by omega⟩, Int.emod_nonneg _ (by omega), Int.emod_lt_of_pos _ n0⟩;have hd:cDiv a n=true:=zpl n0 (by omega);simp [zai,zst,zav,gSeq,gIfS,zah,gOp2,gArg,zaa,gC,resA,oI,yes2,oIx,seqW,atI,ixN,gSet,zay,zeh,zpb,zsh,zpj,c1,n0,hd]
 ·have e1 : oMult (.int 65537) (.int (c + 1)) = some (.int (65537 * (c + 1)), false) := oMult_l (by decide) (by decide);have e2:oMult (.int (65537 * (c+1))) (.int (c+1))=some (.int (65537 * (c+1) * (c+1)),false):=zkf (by omega) (by omega);have e3:oMult (.int (b+65537 * (c+1) * (c+1)+11)) (.int 48271)=some (.int ((b+65537 * (c+1) * (c+1)+11) * 48271),false):=zkf (by decide) (by decide);generalize hx:(b+65537 * (c+1) * (c+1)+11) * 48271=x0 at e3;have e4:oMult (.int 99991) (.int (c+1))=some (.int (99991 * (c+1)),false):=oMult_l (by decide) (by decide);have x1:0<=x0 % 2305843009213693921:=Int.emod_nonneg _ (by decide);have x2:x0 % 2305843009213693921 < 2305843009213693921:=Int.emod_lt_of_pos _ (by decide);have e5:oMult (.int (x0 % 2305843009213693921)) (.int (x0 % 2305843009213693921 % 1000003+99991 * (c+1)))=some (.int (x0 % 2305843009213693921 * (x0 % 2305843009213693921 % 1000003+99991 * (c+1))),false):=oMult_l (by omega) (by omega);have d1:∀i,cDiv i 97=true:=fun i=>zpl (by decide) (by decide);have d2:∀i,cDiv i 1000033=true:=fun i=>zpl (by decide) (by decide);refine ⟨.lst [.int a,.int b,.int (c+1)],(x0 % 2305843009213693921 * (x0 % 2305843009213693921 % 1000003+99991 * (c+1)) % 2305843009213693907 / 97+x0 % 2305843009213693921 * (x0 % 2305843009213693921 % 1000003+99991 * (c+1)) % 2305843009213693907 / 1000033) % n,?_,⟨_,_,_,rfl,h0,h1,h2,by omega,by omega⟩,Int.emod_nonneg _ (by omega),Int.emod_lt_of_pos _ n0⟩
  ·simp [zai,zst,zav,gSeq,gIfS,zah,gOp2,gArg,zaa,gC,resA,oI,yes2,oIx,seqW,atI,ixN,gSet,zay,gRet,zci,zpb,zsh,zpj,c1,n0,zqs,e1,e2,e3,e4,e5,d1,d2]
end L2
namespace L2
open PySem PySem.Spec PyProof.Rows
theorem seq_nx {a b:GS}{en e1:En} (h:a en=some (e1,.nx)):gSeq a b en=b e1:=by unfold gSeq;rw [h]
theorem z2h {a b:GS}{en e1:En}{r:W × Bool} (h:a en=some (e1,.ret r)):gSeq a b en=some (e1,.ret r):=by unfold gSeq;rw [h]
theorem zqm {mp:List Nat}{i:Nat}{g:GE}{en e1:En}{r:W × Bool} (h:g en=some (e1,r)) (hi:(mp.contains i || !decide (i < e1.length))=false):gSet mp i g en=some (e1.set i (some r),.nx):=by
 unfold gSet;rw [h];show (if (mp.contains i || !decide (i < e1.length))=true then _ else _)=_;rw [hi]
 rfl
theorem z2n {c:GT}{a b:GS}{en e1:En} (h:c en=some (e1,true)):gIfS c a b en=a e1:=by unfold gIfS;rw [h]
theorem z10 {c:GT}{a b:GS}{en e1:En} (h:c en=some (e1,false)):gIfS c a b en=b e1:=by unfold gIfS;rw [h]
theorem zz8 {g:GE}{en e1:En}{b f:Bool} (h:g en=some (e1,(.bl b,f))):zah g en=some (e1,b):=by unfold zah;rw [h]
theorem z2a {g:GE}{en e1:En}{r:W × Bool} (h:g en=some (e1,r)):gRet g en=some (e1,.ret r):=by unfold gRet;rw [h];rfl
theorem zz4 {g:GE}{en e1:En}{r:W × Bool} (h:g en=some (e1,r)):ze7 g en=some (e1,.nx):=by unfold ze7;rw [h];rfl
theorem zby {g:GE}{en e1:En}{r:W × Bool} (h:g en=some (e1,r)):gArg g en=some (e1,.inl r.1):=by unfold gArg;rw [h];rfl
theorem z1t {a:GA}{as:GAs}{en e1 e2:En}{x:W ⊕ Nat}{xs:List (W ⊕ Nat)} (h:a en=some (e1,x)) (h2:as e1=some (e2,xs)):gCns a as en=some (e2,x::xs):=by
 unfold gCns;rw [h];show (as e1).bind _=_;rw [h2]
 rfl
theorem zbm {o:O2}{a b:GA}{en e1 e2:En}{x y:W ⊕ Nat}{w u:W}{r:W × Bool} (h1:a en=some (e1,x)) (h2:b e1=some (e2,y)) (h3:resA e2 x=some w) (h4:resA e2 y=some u) (h5:o w u=some r):gOp2 o a b en=some (e2,r):=by
 unfold gOp2;rw [h1];show (b e1).bind _=_;rw [h2];show (resA e2 x).bind _=_;rw [h3];show (resA e2 y).bind _=_;rw [h4];show (o w u).bind _=_;rw [h5]
 rfl
theorem z18 {o:ON}{as:GAs}{en e1:En}{xs:List (W ⊕ Nat)}{ws:List W}{r:W × Bool} (h1:as en=some (e1,xs)) (h2:zat e1 xs=some ws) (h3:o ws=some r):gOpN o as en=some (e1,r):=by
 unfold gOpN;rw [h1];show (zat e1 xs).bind _=_;rw [h2];show (o ws).bind _=_;rw [h3]
 rfl
theorem zl4 {m:List Bool}{n:Nat}{g:GS}{ws ws' : List W}{en:En}{r:W × Bool} (hl:ws.length=m.length) (h:g (zav m ws++List.replicate (n - m.length) none)=some (en,.ret r)) (ho:zbs m ws en=some ws'):zai m n g ws=some (ws',r):=by
 unfold zai;rw [if_pos hl,h];show (zbs m ws en).bind _=_;rw [ho]
 rfl
theorem zbv:∀(ws:List W) (i:Nat),zak (zau (ws.map Sum.inl)) i=none
  | [],i=>rfl
  | w::ws,i=>by
    have:=zbv ws i;unfold zak zau at this ⊢;rw [List.map_cons,List.map_cons,List.findIdx?_cons,this]
    rfl
theorem zfo (ws:List W):zbr (zau (ws.map Sum.inl))=true:=by
  unfold zbr;refine List.all_eq_true.mpr fun j _=>?_;have:∀i,(zau (ws.map Sum.inl))[j]?≠some (some i):=fun i=>zcb (zbv ws i) j;cases q:(zau (ws.map Sum.inl))[j]? with
  | none=>rfl
  | some o =>
    cases o with
    | none=>rfl
    | some i=>exact absurd q (this i)
theorem zhz {cap:Cap}{en ce:En} (h:∀i,zak cap i=none):zaq cap en ce=en:=by
 unfold zaq;apply List.ext_getElem?;intro i;rw [List.getElem?_mapIdx];cases en[i]? with
 | none=>rfl
 | some x=>simp only [Option.map_some,h i]
theorem zbg (en:En):∀ws:List W,zat en (ws.map Sum.inl)=some ws
 | []=>rfl
 | w::ws=>by show (some w).bind _=_;show (zat en (ws.map Sum.inl)).bind _=_;rw [zbg en ws];rfl
theorem zdi (en:En) (ws:List W):zam en (ws.map Sum.inl)=true:=by
 unfold zam;refine List.all_eq_true.mpr fun x hx=>?_;obtain ⟨w,_,rfl⟩:=List.mem_map.mp hx
 rfl
theorem zrg {m:List Bool}{Φ:Fn}{as:GAs}{en e1:En}{ws ws' : List W}{r:W × Bool} (h:as en=some (e1,ws.map Sum.inl)) (hm:(ws.map fun _=>false)=m) (hΦ:Φ ws=some (ws',r)) (hl:ws'.length=ws.length):zae m Φ as en=some (e1,r):=by
 unfold zae;rw [h];show (if (decide ((ws.map Sum.inl).map isR=m) && zam e1 (ws.map Sum.inl) && zbr (zau (ws.map Sum.inl)))=true then _ else _)=_;have e:(ws.map Sum.inl).map isR=m:=by rw [<-hm,List.map_map];rfl
 rw [decide_eq_true e,zdi,zfo];show (zat e1 (ws.map Sum.inl)).bind _=_;rw [zbg];show (Φ ws).bind _=_;rw [hΦ];show (if ws'.length=m.length then _ else _)=_;rw [if_pos (by rw [hl,<-hm,List.length_map]),zhz (zbv ws)]
theorem zmm {m:List Bool}{Φ:Fn}{as:GAs}{en e1:En}{i:Nat}{ws wz:List W}{st st' : W}{r:W × Bool} (h:as en=some (e1,.inr i::ws.map Sum.inl)) (hm:(true::ws.map fun _=>false)=m) (hi:e1[i]?=some (some (st,true))) (hΦ:Φ (st::ws)=some (st' :: wz,r)) (hl:wz.length=ws.length):zae m Φ as en=some (e1.set i (some (st',true)),r):=by
  have cp:∀j,zak (zau (.inr i::ws.map Sum.inl)) j=if j=i then some 0 else none:=fun j=>by
    have:=zbv ws j;unfold zak zau at this ⊢;rw [List.map_cons,List.findIdx?_cons];by_cases e:j=i
    · subst e;simp
    · have : (some i == some j) = false := by simp; exact fun z => e z.symm
      simp only [this];rw [if_neg e]
      simp_all
  have nd:zbr (zau (.inr i::ws.map Sum.inl))=true:=by
    unfold zbr;refine List.all_eq_true.mpr fun j _=>?_;cases j with
    | zero =>
      show (match (zau (.inr i::ws.map Sum.inl))[0]? with | some (some k)=>zak (zau (.inr i::ws.map Sum.inl)) k == some 0 | _=>true)=true;show (zak (zau (.inr i::ws.map Sum.inl)) i == some 0)=true;rw [cp i,if_pos rfl]
      rfl
    | succ j =>
      have:∀k,(zau (ws.map Sum.inl))[j]?≠some (some k):=fun k=>zcb (zbv ws k) j;have e:(zau (.inr i::ws.map Sum.inl))[j+1]?=(zau (ws.map Sum.inl))[j]?:=rfl;rw [e];cases q:(zau (ws.map Sum.inl))[j]? with
      | none=>rfl
      | some o =>
        cases o with
        | none=>rfl
        | some k=>exact absurd q (this k)
  unfold zae;rw [h];show (if (decide ((.inr i::ws.map Sum.inl).map isR=m) && zam e1 (.inr i::ws.map Sum.inl) && zbr (zau (.inr i::ws.map Sum.inl)))=true then _ else _)=_;have e:(Sum.inr i::ws.map Sum.inl).map isR=m:=by rw [<-hm,List.map_cons,List.map_map];rfl
  have ow:zam e1 (.inr i::ws.map Sum.inl)=true:=by
    have:=zdi e1 ws;unfold zam at this ⊢;rw [List.all_cons,this];simp only [hi,Bool.and_true]
  rw [decide_eq_true e,ow,nd];have rs:zat e1 (.inr i::ws.map Sum.inl)=some (st::ws):=by
    show (resA e1 (.inr i)).bind _=_;have:resA e1 (.inr i)=some st:=by unfold resA;simp only [hi]
    rw [this];show (zat e1 (ws.map Sum.inl)).bind _=_;rw [zbg]
    rfl
  show (zat e1 (.inr i::ws.map Sum.inl)).bind _=_;rw [rs];show (Φ (st::ws)).bind _=_;rw [hΦ];show (if (st' :: wz).length=m.length then _ else _)=_;rw [if_pos (by rw [<-hm,List.length_cons,List.length_cons,List.length_map,hl])];refine congrArg some (congrArg (·,r) ?_);unfold zaq;apply List.ext_getElem?;intro j;rw [List.getElem?_mapIdx];have hi' : i < e1.length:=(List.getElem?_eq_some_iff.mp hi).1;by_cases ej:j=i
  · subst ej
    rw [List.getElem?_set_self hi',hi];simp only [Option.map_some,cp j,if_pos];rw [<-hm]
    rfl
  · rw [List.getElem?_set_ne (Ne.symm ej)]
    cases e1[j]? with
    | none=>rfl
    | some x=>simp only [Option.map_some,cp j,if_neg ej]
theorem zfp {m:List Bool}{Φ:Fn}{as:GAs}{en:En}{i:Nat}{ws wz:List W}{st st' : W}{r:W × Bool} (h:as en=some (en,.inr i::ws.map Sum.inl)) (hm:(true::ws.map fun _=>false)=m) (hi:en[i]?=some (some (st,true))) (hΦ:Φ (st::ws)=some (st' :: wz,r)) (hl:wz.length=ws.length):zae m Φ as en=some (en.set i (some (st',true)),r):=zmm h hm hi hΦ hl
theorem zo0 {a w:W}{ws:List W}{i:Int} (h:seqW a=some ws) (h2:atI ws i=some w):oIx a (.int i)=some (w,false):=by
 unfold oIx;cases a<;>simp_all
theorem oI_t {c:Int->Int->Bool}{g:Int->Int->W}{i j:Int} (h:c i j=true):oI c g (.int i) (.int j)=some (g i j,false):=by
 show (if c i j then some (g i j,false) else none)=_;rw [if_pos h]
theorem set_0 {mp:List Nat}{i:Nat}{g:GE}{en:En}{r:W × Bool} (h:g en=some (en,r)) (hi:(mp.contains i || !decide (i < en.length))=false):gSet mp i g en=some (en.set i (some r),.nx):=zqm h hi
theorem arg_0 {g:GE}{en:En}{r:W × Bool} (h:g en=some (en,r)):gArg g en=some (en,.inl r.1):=zby h
theorem op2_0 {o:O2}{a b:GA}{en:En}{x y:W ⊕ Nat}{w u:W}{r:W × Bool} (h1:a en=some (en,x)) (h2:b en=some (en,y)) (h3:resA en x=some w) (h4:resA en y=some u) (h5:o w u=some r):gOp2 o a b en=some (en,r):=zbm h1 h2 h3 h4 h5
theorem zr4 {i:Nat}{k g:GE}{en:En}{w:W}{ws:List W}{n:Int}{j:Nat}{f f2:Bool} (h:g en=some (en,(w,f))) (hk:k en=some (en,(.int n,f2))) (hi:en[i]?=some (some (.lst ws,true))) (hj:ixN ws.length n=some j):zay i k g en=some (en.set i (some (.lst (ws.set j w),true)),.nx):=by
 unfold zay;simp only [h,Option.bind_some,hi,hk,hj]
theorem z2o {i:Nat}{g:GE}{en e1:En}{us ws:List W}{r:W × Bool} (h0:en[i]?=some (some (.lst us,true))) (h:g en=some (e1,r)) (h1:e1[i]?=some (some (.lst ws,true))) (hz:ws.length < sizeLine):gApp i g en=some (e1.set i (some (.lst (ws++[r.1]),true)),(.non,false)):=by
 unfold gApp;simp only [h0,h,Option.bind_some,h1];rw [if_pos hz]
end L2
namespace L2
open PySem PySem.Spec PyProof.Rows
noncomputable def z0q (Ψ:Str->Fn):GS:=(gSeq (gSet [0] 2 (zae [true,false] (Ψ "_law_take") (gCns (zaa 0) (gCns (gArg (gC (.int 4))) gA0)))) (gSeq (gIfS (zah (gOp2 oEq (zaa 2) (gArg (gC (.int 3))))) (gRet (gOp2 oMult (gArg (za9 (gCns (gArg (zae [true,false] (Ψ "_law_take") (gCns (zaa 0) (gCns (gArg (gC (.int 2))) gA0)))) gA0))) (zaa 1))) zci) (gSeq (gSet [0] 3 (za9 gA0)) (gSeq (gFor [0] (.nm 4) (zc7 (gCns (zaa 1) gA0)) (gSeq (gSet [0] 5 (zae [true,false] (Ψ "_law_take") (gCns (zaa 0) (gCns (gArg (gOp2 oIx (gArg (za9 (gCns (gArg (gC (.int 2))) (gCns (gArg (gC (.int 5))) (gCns (gArg (gC (.int 5))) gA0))))) (zaa 2))) gA0)))) (ze7 (gApp 3 (gOp2 oIx (gArg (za9 (gCns (gArg (gVar 5)) (gCns (gArg (gOpN oInt (gCns (gArg (gOp2 oEq (zaa 5) (gArg (gC (.int 0))))) gA0))) (gCns (gArg (gOpN oInt (gCns (gArg (gOp2 (oI yes2 fun i j=>.bl (decide (j < i))) (zaa 5) (gArg (gC (.int 0))))) gA0))) gA0))))) (zaa 2)))))) (zeh [0] 3)))))
noncomputable def zv9 (Φ:Fn):Prop:=∀(k:Nat) (st:W) (n:Int),HS k st->k+100 < big->0<=n->n<=64->∃st' xs,Φ [st,.int n]=some ([st',.int n],(.lst (xs.map W.int),true))/\HS (k+66) st'/\(xs.length:Int)=n/\Bits xs
theorem three {r:Int} (h0:0<=r) (h:r < 4) (h3:r≠3):r=0\/r=1\/r=2:=by omega
theorem zm5 {α:Type} (x:α):∀n:Nat,(List.replicate n [x]).flatten=List.replicate n x
 | 0=>rfl
 | n+1=>by rw [List.replicate_succ,List.flatten_cons,zm5 x n];rfl
theorem zzl {Ψ:Str->Fn} (hT:zj0 (Ψ "_law_take")):zv9 (zai [true,false] 6 (z0q Ψ)):=by
 intro k st n hs hk n0 n1;have hz:(64:Nat)<=sizeLine:=by decide
 refine aG fun _ qG=>?_;obtain ⟨st1,way,e1,h1,h2,h3⟩:=hT k st 4 hs (by omega) (by decide) (by decide);refine qG ?_;clear qG;have c1:zae [true,false] (Ψ "_law_take") (gCns (zaa 0) (gCns (gArg (gC (.int 4))) gA0)) [some (st,true),some (.int n,false),none,none,none,none]=some ([some (st1,true),some (.int n,false),none,none,none,none],(.int way,false)):=zfp (i:=0) (ws:=[.int 4]) (wz:=[.int 4]) rfl rfl rfl e1 rfl;have s1:=zqm (mp:=[0]) (i:=2) c1 rfl;by_cases c3:way=3
 ·subst c3;refine aG fun _ qG=>?_;obtain ⟨st2,b,e2,g1,g2,g3⟩:=hT (k+1) st1 2 h1 (by omega) (by decide) (by decide);refine qG ?_;clear qG;have c2:zae [true,false] (Ψ "_law_take") (gCns (zaa 0) (gCns (gArg (gC (.int 2))) gA0)) [some (st1,true),some (.int n,false),some (.int 3,false),none,none,none]=some ([some (st2,true),some (.int n,false),some (.int 3,false),none,none,none],(.int b,false)):=zfp (i:=0) (ws:=[.int 2]) (wz:=[.int 2]) rfl rfl rfl e2 rfl;have l2:za9 (gCns (gArg (zae [true,false] (Ψ "_law_take") (gCns (zaa 0) (gCns (gArg (gC (.int 2))) gA0)))) gA0) [some (st1,true),some (.int n,false),some (.int 3,false),none,none,none]=some ([some (st2,true),some (.int n,false),some (.int 3,false),none,none,none],(.lst [.int b],true)):=by
   unfold za9;rw [z1t (zby c2) (show gA0 _=_ from rfl)]
   rfl
  have om:oMult (.lst [.int b]) (.int n)=some (.lst (List.replicate n.toNat (.int b)),true):=by
   rw [zsj (by refine ⟨by omega,by omega,?_⟩;show 1 * n.toNat<=sizeLine;omega),zm5]
  refine ⟨st2,List.replicate n.toNat b,?_,g1.mono (by omega),by rw [List.length_replicate];omega,fun x hx=>by rw [List.eq_of_mem_replicate hx];omega⟩;refine zl4 (en:=[some (st2,true),some (.int n,false),some (.int 3,false),none,none,none]) rfl ?_ rfl;refine (seq_nx s1).trans (z2h ?_);refine (z2n (e1:=[some (st1,true),some (.int n,false),some (.int 3,false),none,none,none]) rfl).trans (z2a (zbm (zby l2) rfl rfl rfl ?_));rw [List.map_replicate];exact om
 ·have hw := three h2 h3 c3;have turn:∀(i:Nat) (st:W) (xs:List Int) (v5:Option (W × Bool)),HS (k+1+i) st->i < 64->xs.length=i->∃st' x one,HS (k+1+i+1) st'/\(x=0\/x=1) /\
    (gSeq (gSet [0] 5 (zae [true,false] (Ψ "_law_take") (gCns (zaa 0) (gCns (gArg (gOp2 oIx (gArg (za9 (gCns (gArg (gC (.int 2))) (gCns (gArg (gC (.int 5))) (gCns (gArg (gC (.int 5))) gA0))))) (zaa 2))) gA0)))) (ze7 (gApp 3 (gOp2 oIx (gArg (za9 (gCns (gArg (gVar 5)) (gCns (gArg (gOpN oInt (gCns (gArg (gOp2 oEq (zaa 5) (gArg (gC (.int 0))))) gA0))) (gCns (gArg (gOpN oInt (gCns (gArg (gOp2 (oI yes2 fun i j=>.bl (decide (j < i))) (zaa 5) (gArg (gC (.int 0))))) gA0))) gA0))))) (zaa 2))))) [some (st,true),some (.int n,false),some (.int way,false),some (.lst (xs.map W.int),true),some (.int (0+(i:Nat)),false),v5] =
     some ([some (st',true),some (.int n,false),some (.int way,false),some (.lst ((xs++[x]).map W.int),true),some (.int (0+(i:Nat)),false),some (.int one,false)],.nx):=by
   intro i st xs v5 hst hi hl;have zz:(xs.map W.int).length < sizeLine:=by rw [List.length_map,hl];omega
   have fin:∀(q:Int) (x:Int->Int),(∀one,0<=one->one < q->x one=0\/x one=1)->0 < q->q < 1073741824 ->
     (gCns (zaa 0) (gCns (gArg (gOp2 oIx (gArg (za9 (gCns (gArg (gC (.int 2))) (gCns (gArg (gC (.int 5))) (gCns (gArg (gC (.int 5))) gA0))))) (zaa 2))) gA0)) [some (st,true),some (.int n,false),some (.int way,false),some (.lst (xs.map W.int),true),some (.int (0+(i:Nat)),false),v5]=some ([some (st,true),some (.int n,false),some (.int way,false),some (.lst (xs.map W.int),true),some (.int (0+(i:Nat)),false),v5],[.inr 0,.inl (.int q)]) ->
     (∀(st' : W) (one:Int),(gOp2 oIx (gArg (za9 (gCns (gArg (gVar 5)) (gCns (gArg (gOpN oInt (gCns (gArg (gOp2 oEq (zaa 5) (gArg (gC (.int 0))))) gA0))) (gCns (gArg (gOpN oInt (gCns (gArg (gOp2 (oI yes2 fun i j=>.bl (decide (j < i))) (zaa 5) (gArg (gC (.int 0))))) gA0))) gA0))))) (zaa 2)) [some (st',true),some (.int n,false),some (.int way,false),some (.lst (xs.map W.int),true),some (.int (0+(i:Nat)),false),some (.int one,false)]=some ([some (st',true),some (.int n,false),some (.int way,false),some (.lst (xs.map W.int),true),some (.int (0+(i:Nat)),false),some (.int one,false)],(.int (x one),false))) ->
     ∃st' x one,HS (k+1+i+1) st'/\(x=0\/x=1)/\(gSeq (gSet [0] 5 (zae [true,false] (Ψ "_law_take") (gCns (zaa 0) (gCns (gArg (gOp2 oIx (gArg (za9 (gCns (gArg (gC (.int 2))) (gCns (gArg (gC (.int 5))) (gCns (gArg (gC (.int 5))) gA0))))) (zaa 2))) gA0)))) (ze7 (gApp 3 (gOp2 oIx (gArg (za9 (gCns (gArg (gVar 5)) (gCns (gArg (gOpN oInt (gCns (gArg (gOp2 oEq (zaa 5) (gArg (gC (.int 0))))) gA0))) (gCns (gArg (gOpN oInt (gCns (gArg (gOp2 (oI yes2 fun i j=>.bl (decide (j < i))) (zaa 5) (gArg (gC (.int 0))))) gA0))) gA0))))) (zaa 2))))) [some (st,true),some (.int n,false),some (.int way,false),some (.lst (xs.map W.int),true),some (.int (0+(i:Nat)),false),v5] =
      some ([some (st',true),some (.int n,false),some (.int way,false),some (.lst ((xs++[x]).map W.int),true),some (.int (0+(i:Nat)),false),some (.int one,false)],.nx):=by
    intro q x hx q0 q1 ha hv;refine aG fun _ qG=>?_;obtain ⟨st',one,e2,g1,g2,g3⟩:=hT (k+1+i) st q hst (by omega) q0 q1;refine qG ?_;clear qG;have cc:=zfp (m:=[true,false]) (ws:=[.int q]) (wz:=[.int q]) ha rfl rfl e2 rfl;refine ⟨st',x one,one,g1,hx one g2 g3,?_⟩;refine (seq_nx (zqm (mp:=[0]) (i:=5) cc rfl)).trans (zz4 (r:=(.non,false)) ?_);rw [List.map_append];exact z2o (i:=3) rfl (hv st' one) rfl zz
   rcases hw with rfl | rfl | rfl
   ·exact fin 2 (fun one=>one) (fun one a b=>by omega) (by decide) (by decide) rfl fun st' one=>rfl
   ·refine fin 5 (fun one => if decide (one = 0) then 1 else 0) (fun one a b => ?_) (by decide) (by decide) rfl fun st' one => rfl;by_cases z:one=0<;>simp [z]
   ·refine fin 5 (fun one => if decide (0 < one) then 1 else 0) (fun one a b => ?_) (by decide) (by decide) rfl fun st' one => rfl;by_cases z:0 < one<;>simp [z]
  obtain ⟨en',hf,hp⟩:=zfm (mp:=[0]) (T:=.nm 4) (it:=zc7 (gCns (zaa 1) gA0)) (body:=(gSeq (gSet [0] 5 (zae [true,false] (Ψ "_law_take") (gCns (zaa 0) (gCns (gArg (gOp2 oIx (gArg (za9 (gCns (gArg (gC (.int 2))) (gCns (gArg (gC (.int 5))) (gCns (gArg (gC (.int 5))) gA0))))) (zaa 2))) gA0)))) (ze7 (gApp 3 (gOp2 oIx (gArg (za9 (gCns (gArg (gVar 5)) (gCns (gArg (gOpN oInt (gCns (gArg (gOp2 oEq (zaa 5) (gArg (gC (.int 0))))) gA0))) (gCns (gArg (gOpN oInt (gCns (gArg (gOp2 (oI yes2 fun i j=>.bl (decide (j < i))) (zaa 5) (gArg (gC (.int 0))))) gA0))) gA0))))) (zaa 2))))))
   (fun i e=>∃st xs v4 v5,e=[some (st,true),some (.int n,false),some (.int way,false),some (.lst (xs.map W.int),true),v4,v5]/\HS (k+1+i) st/\xs.length=i/\Bits xs)
   (en:=[some (st1,true),some (.int n,false),some (.int way,false),some (.lst [],true),none,none]) (e0:=[some (st1,true),some (.int n,false),some (.int way,false),some (.lst [],true),none,none]) (ws:=rngW 0 n.toNat)
   (by
    have hr:zdq n=true:=by unfold zdq;rw [decide_eq_true (by omega),decide_eq_true (by omega)];rfl
    show (if zdq n then some (_,rngW 0 n.toNat) else none)=_;rw [hr];rfl)
   ⟨st1,[],none,none,rfl,h1,rfl,fun x hx=>by cases hx⟩
   (by
    rintro i w e hw' ⟨st,xs,v4,v5,rfl,hst,hl,hb⟩;refine aG fun _ qG=>?_;obtain ⟨hi,rfl⟩:=zeo hw';obtain ⟨st',x,one,g1,g2,g3⟩:=turn i st xs v5 hst (by omega) hl;refine qG ?_;clear qG;refine ⟨_,_,rfl,.inl g3,st',xs++[x],_,_,rfl,g1,by rw [List.length_append,hl];rfl,fun y hy=>?_⟩;rcases List.mem_append.mp hy with hy | hy
    ·exact hb y hy
    ·rw [List.mem_singleton] at hy;subst hy;exact g2)
  refine aG fun _ qG=>?_;obtain ⟨st2,xs,v4,v5,rfl,g1,g2,g3⟩:=hp;refine qG ?_;clear qG;rw [zeq] at g1 g2;refine ⟨st2,xs,?_,g1.mono (by omega),by omega,g3⟩;refine zl4 (en:=[some (st2,true),some (.int n,false),some (.int way,false),none,v4,v5]) rfl ?_ rfl;refine (seq_nx s1).trans ((seq_nx (e1:=[some (st1,true),some (.int n,false),some (.int way,false),none,none,none]) ?_).trans ((seq_nx (e1:=[some (st1,true),some (.int n,false),some (.int way,false),some (.lst [],true),none,none]) rfl).trans ((seq_nx hf).trans rfl)));rcases hw with rfl | rfl | rfl<;>rfl
end L2
namespace L2
open PySem PySem.Spec PyProof.Rows
noncomputable def z1l (Ψ:Str->Fn):GS:=(gSeq (gSet [] 1 (za9 (gCns (gArg (gC (.int 0))) (gCns (gArg (gC (.int 0))) (gCns (gArg (gC (.int 0))) gA0))))) (gSeq (gIfS (zfe (zah (gOp2 (oI yes2 fun i j=>.bl (decide (j < i))) (gArg (gOpN oLen (gCns (zaa 0) gA0))) (gArg (gC (.int 0))))) (zah (gOp2 (oI yes2 fun i j=>.bl (decide (j<=i))) (gArg (gOp2 oIx (zaa 0) (gArg (gC (.int 0))))) (gArg (gOp2 (oI cPow fun i j=>.int (i ^ j.toNat)) (gArg (gC (.int 10))) (gArg (gC (.int 18)))))))) (gSeq (gSet [] 2 (gC (.int 1))) (gFor [] (.nm 3) (zda (gSl (zaa 0) zbp (zdr (gC (.int 63))))) (gSeq (zay 1 (gC (.int 0)) (gOp2 oAdd (gArg (gOp2 oIx (zaa 1) (gArg (gC (.int 0))))) (gArg (gOp2 oMult (gArg (gOp2 (oI (fun _ j=>decide (0 < j)) fun i j=>.int (i % j)) (gArg (gOpN oAbs (gCns (zaa 3) gA0))) (gArg (gOp2 (oI cPow fun i j=>.int (i ^ j.toNat)) (gArg (gC (.int 10))) (gArg (gC (.int 60))))))) (zaa 2))))) (gSet [] 2 (gOp2 oMult (zaa 2) (gArg (gOp2 (oI cPow fun i j=>.int (i ^ j.toNat)) (gArg (gC (.int 10))) (gArg (gC (.int 60)))))))))) zci) (gSeq (gFor [] (.tp [4,3]) (zn9 (gSl (zaa 0) zbp (zdr (gC (.int 63))))) (gSeq (gSet [] 5 (gOp2 oAdd (gArg (gOp2 oAdd (gArg (gOp2 (oI (fun _ j=>decide (0 < j)) fun i j=>.int (i % j)) (zaa 3) (gArg (gC (.int 2305843009213693951))))) (gArg (gOp2 oMult (gArg (gC (.int 7919))) (zaa 4))))) (gArg (gC (.int 3))))) (zay 1 (gC (.int 1)) (gOp2 (oI (fun _ j=>decide (0 < j)) fun i j=>.int (i % j)) (gArg (gOp2 oAdd (gArg (gOp2 oMult (gArg (gOp2 oIx (zaa 1) (gArg (gC (.int 1))))) (gArg (gC (.int 48271))))) (zaa 5))) (gArg (gC (.int 2305843009213693951))))))) (zeh [] 1))))
noncomputable def zwq (Φ:Fn):Prop:=∀ns:List Int,ns.length<=63->∃st,Φ [.frl (ns.map W.int)]=some ([.frl (ns.map W.int)],(st,true))/\HS 0 st
theorem z31 {ns:List Int} (h:ns.length<=63):cutW (ns.map W.int) none (some 63)=ns.map W.int:=by
 unfold cutW;have e1:HT.sIx (ns.map W.int).length 0 none=0:=rfl;have e2:HT.sIx (ns.map W.int).length (ns.map W.int).length (some 63)=(ns.map W.int).length:=by
  have:=HT.sIx_nat (ns.map W.int).length (ns.map W.int).length 63;rw [show ((63:Nat):Int)=63 from rfl] at this;rw [this,List.length_map];omega
 rw [e1,e2,List.drop_zero,Nat.sub_zero,List.take_length]
theorem zsy {ns:List Int}{i:Nat}{w:W} (h:(zei (ns.map W.int) 0)[i]?=some w):∃hi:i < ns.length,w=.tup [.int i,.int ns[i]]:=by
 have hi:i < ns.length:=by have:=(List.getElem?_eq_some_iff.mp h).1;rw [za8,List.length_map] at this;exact this
 have:=zcn (ws:=ns.map W.int) (k:=0) (i:=i) (w:=.int ns[i]) (by rw [List.getElem?_map,List.getElem?_eq_getElem hi];rfl);rw [h,Nat.zero_add] at this;exact ⟨hi,sI this⟩
theorem zy9 (Ψ:Str->Fn):zwq (zai [false] 6 (z1l Ψ)):=by
  intro ns hl;have p18:cPow 10 18=true:=by decide
  have p60:cPow 10 60=true:=by decide
  have first:∃a0 v2 v3,0<=a0/\gIfS (zfe (zah (gOp2 (oI yes2 fun i j=>.bl (decide (j < i))) (gArg (gOpN oLen (gCns (zaa 0) gA0))) (gArg (gC (.int 0))))) (zah (gOp2 (oI yes2 fun i j=>.bl (decide (j<=i))) (gArg (gOp2 oIx (zaa 0) (gArg (gC (.int 0))))) (gArg (gOp2 (oI cPow fun i j=>.int (i ^ j.toNat)) (gArg (gC (.int 10))) (gArg (gC (.int 18)))))))) (gSeq (gSet [] 2 (gC (.int 1))) (gFor [] (.nm 3) (zda (gSl (zaa 0) zbp (zdr (gC (.int 63))))) (gSeq (zay 1 (gC (.int 0)) (gOp2 oAdd (gArg (gOp2 oIx (zaa 1) (gArg (gC (.int 0))))) (gArg (gOp2 oMult (gArg (gOp2 (oI (fun _ j=>decide (0 < j)) fun i j=>.int (i % j)) (gArg (gOpN oAbs (gCns (zaa 3) gA0))) (gArg (gOp2 (oI cPow fun i j=>.int (i ^ j.toNat)) (gArg (gC (.int 10))) (gArg (gC (.int 60))))))) (zaa 2))))) (gSet [] 2 (gOp2 oMult (zaa 2) (gArg (gOp2 (oI cPow fun i j=>.int (i ^ j.toNat)) (gArg (gC (.int 10))) (gArg (gC (.int 60)))))))))) zci
      [some (.frl (ns.map W.int),false),some (.lst [.int 0,.int 0,.int 0],true),none,none,none,none]=some ([some (.frl (ns.map W.int),false),some (.lst [.int a0,.int 0,.int 0],true),v2,v3,none,none],.nx):=by
    have ln:(zah (gOp2 (oI yes2 fun i j=>.bl (decide (j < i))) (gArg (gOpN oLen (gCns (zaa 0) gA0))) (gArg (gC (.int 0))))) [some (.frl (ns.map W.int),false),some (.lst [.int 0,.int 0,.int 0],true),none,none,none,none]=some ([some (.frl (ns.map W.int),false),some (.lst [.int 0,.int 0,.int 0],true),none,none,none,none],decide ((0:Int) < ((ns.map W.int).length:Nat))):=rfl;cases ns with
    | nil=>exact ⟨0,none,none,by decide,(z10 (by unfold zfe;rw [ln];rfl)).trans rfl⟩
    | cons n0 nr =>
      have t2:(zah (gOp2 (oI yes2 fun i j=>.bl (decide (j<=i))) (gArg (gOp2 oIx (zaa 0) (gArg (gC (.int 0))))) (gArg (gOp2 (oI cPow fun i j=>.int (i ^ j.toNat)) (gArg (gC (.int 10))) (gArg (gC (.int 18))))))) [some (.frl ((n0::nr).map W.int),false),some (.lst [.int 0,.int 0,.int 0],true),none,none,none,none]=some ([some (.frl ((n0::nr).map W.int),false),some (.lst [.int 0,.int 0,.int 0],true),none,none,none,none],decide (10 ^ 18<=n0)) :=
        zz8 (zbm (zby (zbm rfl rfl rfl rfl (zo0 rfl (zbl (i:=0) rfl)))) (zby (zbm (x:=.inl (.int 10)) rfl rfl rfl rfl (oI_t p18))) rfl rfl rfl)
      have ln' : decide ((0:Int) < (((n0::nr).map W.int).length:Nat))=true:=decide_eq_true (by simp);rw [ln'] at ln;by_cases c:(10:Int) ^ 18<=n0
      · rw [decide_eq_true c] at t2
        obtain ⟨en',hf,hp⟩:=zfm (mp:=[]) (T:=.nm 3) (it:=zda (gSl (zaa 0) zbp (zdr (gC (.int 63))))) (body:=(gSeq (zay 1 (gC (.int 0)) (gOp2 oAdd (gArg (gOp2 oIx (zaa 1) (gArg (gC (.int 0))))) (gArg (gOp2 oMult (gArg (gOp2 (oI (fun _ j=>decide (0 < j)) fun i j=>.int (i % j)) (gArg (gOpN oAbs (gCns (zaa 3) gA0))) (gArg (gOp2 (oI cPow fun i j=>.int (i ^ j.toNat)) (gArg (gC (.int 10))) (gArg (gC (.int 60))))))) (zaa 2))))) (gSet [] 2 (gOp2 oMult (zaa 2) (gArg (gOp2 (oI cPow fun i j=>.int (i ^ j.toNat)) (gArg (gC (.int 10))) (gArg (gC (.int 60)))))))))
          (fun i e=>∃a0 wt v3,e=[some (.frl ((n0::nr).map W.int),false),some (.lst [.int a0,.int 0,.int 0],true),some (.int wt,false),v3,none,none]/\0<=a0/\0 < wt/\wt<=2 ^ (200 * i))
          (en:=[some (.frl ((n0::nr).map W.int),false),some (.lst [.int 0,.int 0,.int 0],true),some (.int 1,false),none,none,none]) (e0:=[some (.frl ((n0::nr).map W.int),false),some (.lst [.int 0,.int 0,.int 0],true),some (.int 1,false),none,none,none]) (ws:=(n0::nr).map W.int)
          (by
            show some (_,cutW ((n0::nr).map W.int) none (some 63))=_;rw [z31 hl])
          ⟨0,1,none,rfl,by decide,by decide,by decide⟩
          (by
            rintro i w e hw ⟨a0,wt,v3,rfl,q0,q1,q2⟩;rw [List.getElem?_map] at hw;have hi:i < (n0::nr).length:=by
              rcases Nat.lt_or_ge i (n0::nr).length with z | z
              · exact z
              · rw [List.getElem?_eq_none z] at hw;exact noSome hw
            rw [List.getElem?_eq_getElem hi] at hw;have ew:w=.int (n0::nr)[i]:=(sI hw).symm;subst ew;generalize (n0::nr)[i]=n;have y0:0<=(if n < 0 then -n else n) % (10:Int) ^ 60:=Int.emod_nonneg _ (by decide);have y1:(if n < 0 then -n else n) % (10:Int) ^ 60 < 10 ^ 60:=Int.emod_lt_of_pos _ (by decide);have hb:i<=63:=by omega
            have b1:Builtin.Int.intBits ((if n < 0 then -n else n) % (10:Int) ^ 60)<=2 ^ 20:=zge (i:=1) y0 (Int.le_trans (Int.le_of_lt y1) (by decide)) (by decide);have b2:Builtin.Int.intBits wt<=2 ^ 20:=zge (by omega) q2 hb;have m1:=zqv b1 b2;have m2:=zqv b2 (zge (w:=10 ^ 60) (i:=1) (by decide) (by decide) (by decide));obtain ⟨r1,r2⟩:=zt3 q1 q2;refine ⟨_,[some (.frl ((n0::nr).map W.int),false),some (.lst [.int (a0+(if n < 0 then -n else n) % (10:Int) ^ 60 * wt),.int 0,.int 0],true),some (.int (wt * 10 ^ 60),false),some (.int n,false),none,none],rfl,.inl ?_,_,_,_,rfl,?_,r1,r2⟩
            · refine (seq_nx (e1 := [some (.frl ((n0 :: nr).map W.int), false), some (.lst [.int (a0 + (if n < 0 then -n else n) % (10 : Int) ^ 60 * wt), .int 0, .int 0], true), some (.int wt, false), some (.int n, false), none, none]) ?_).trans (set_0 (op2_0 rfl (arg_0 (op2_0 (x := .inl (.int 10)) rfl rfl rfl rfl (oI_t p60))) rfl rfl m2) rfl)
              have ge:gOp2 oAdd (gArg (gOp2 oIx (zaa 1) (gArg (gC (.int 0))))) (gArg (gOp2 oMult (gArg (gOp2 (oI (fun _ j=>decide (0 < j)) fun i j=>.int (i % j)) (gArg (gOpN oAbs (gCns (zaa 3) gA0))) (gArg (gOp2 (oI cPow fun i j=>.int (i ^ j.toNat)) (gArg (gC (.int 10))) (gArg (gC (.int 60))))))) (zaa 2))) [some (.frl ((n0::nr).map W.int),false),some (.lst [.int a0,.int 0,.int 0],true),some (.int wt,false),some (.int n,false),none,none]=some ([some (.frl ((n0::nr).map W.int),false),some (.lst [.int a0,.int 0,.int 0],true),some (.int wt,false),some (.int n,false),none,none],(.int (a0+(if n < 0 then -n else n) % (10:Int) ^ 60 * wt),false)) :=
                zbm (zby (zbm rfl rfl rfl rfl (zo0 rfl (zbl (i:=0) rfl)))) (zby (zbm (zby (zbm (zby (z18 rfl rfl rfl)) (zby (zbm (x:=.inl (.int 10)) rfl rfl rfl rfl (oI_t p60))) rfl rfl (oI_t (by decide)))) rfl rfl rfl m1)) rfl rfl rfl
              exact zr4 (n:=0) (j:=0) (ws:=[.int a0,.int 0,.int 0]) ge rfl rfl rfl
            · have := Int.mul_nonneg y0 (Int.le_of_lt q1)
              omega)
        refine aG fun _ qG=>?_;obtain ⟨a0,wt,v3,rfl,q0,_⟩:=hp;refine qG ?_;clear qG;exact ⟨a0,_,_,q0,(z2n (by unfold zfe;rw [ln];exact t2)).trans ((seq_nx (e1:=[some (.frl ((n0::nr).map W.int),false),some (.lst [.int 0,.int 0,.int 0],true),some (.int 1,false),none,none,none]) rfl).trans hf)⟩
      · rw [decide_eq_false c] at t2
        exact ⟨0,none,none,by decide,(z10 (by unfold zfe;rw [ln];exact t2)).trans rfl⟩
  refine aG fun _ qG=>?_;obtain ⟨a0,v2,v3,q0,hfirst⟩:=first
  refine qG ?_;clear qG;obtain ⟨en',hf,hp⟩:=zfm (mp:=[]) (T:=.tp [4,3]) (it:=zn9 (gSl (zaa 0) zbp (zdr (gC (.int 63))))) (body:=(gSeq (gSet [] 5 (gOp2 oAdd (gArg (gOp2 oAdd (gArg (gOp2 (oI (fun _ j=>decide (0 < j)) fun i j=>.int (i % j)) (zaa 3) (gArg (gC (.int 2305843009213693951))))) (gArg (gOp2 oMult (gArg (gC (.int 7919))) (zaa 4))))) (gArg (gC (.int 3))))) (zay 1 (gC (.int 1)) (gOp2 (oI (fun _ j=>decide (0 < j)) fun i j=>.int (i % j)) (gArg (gOp2 oAdd (gArg (gOp2 oMult (gArg (gOp2 oIx (zaa 1) (gArg (gC (.int 1))))) (gArg (gC (.int 48271))))) (zaa 5))) (gArg (gC (.int 2305843009213693951)))))))
    (fun i e=>∃b v3 v4 v5,e=[some (.frl (ns.map W.int),false),some (.lst [.int a0,.int b,.int 0],true),v2,v3,v4,v5]/\0<=b/\b < MM)
    (en:=[some (.frl (ns.map W.int),false),some (.lst [.int a0,.int 0,.int 0],true),v2,v3,none,none]) (e0:=[some (.frl (ns.map W.int),false),some (.lst [.int a0,.int 0,.int 0],true),v2,v3,none,none]) (ws:=zei (ns.map W.int) 0)
    (by
      show some (_,zei (cutW (ns.map W.int) none (some 63)) 0)=_;rw [z31 hl])
    ⟨0,v3,none,none,rfl,by decide,by decide⟩
    (by
      rintro i w e hw ⟨b,v3,v4,v5,rfl,q1,q2⟩;obtain ⟨hi,rfl⟩:=zsy hw;generalize ns[i]=n;have hm:MM=2305843009213693951:=rfl;have m1:oMult (.int 7919) (.int (i:Nat))=some (.int (7919 * (i:Nat)),false):=oMult_l (by decide) (by decide);have m2:oMult (.int b) (.int 48271)=some (.int (b * 48271),false):=zkf (by decide) (by decide);refine ⟨_,[some (.frl (ns.map W.int),false),some (.lst [.int a0,.int ((b * 48271+(n % 2305843009213693951+7919 * (i:Nat)+3)) % 2305843009213693951),.int 0],true),v2,some (.int n,false),some (.int (i:Nat),false),some (.int (n % 2305843009213693951+7919 * (i:Nat)+3),false)],rfl,.inl ?_,_,_,_,_,rfl,Int.emod_nonneg _ (by decide),Int.emod_lt_of_pos _ (by decide)⟩;refine (seq_nx (e1:=[some (.frl (ns.map W.int),false),some (.lst [.int a0,.int b,.int 0],true),v2,some (.int n,false),some (.int (i:Nat),false),some (.int (n % 2305843009213693951+7919 * (i:Nat)+3),false)]) (set_0 (op2_0 (arg_0 (op2_0 (arg_0 (op2_0 rfl rfl rfl rfl (oI_t (by decide)))) (arg_0 (op2_0 (x:=.inl (.int 7919)) rfl rfl rfl rfl m1)) rfl rfl rfl)) rfl rfl rfl rfl) rfl)).trans ?_;have ge:gOp2 (oI (fun _ j=>decide (0 < j)) fun i j=>.int (i % j)) (gArg (gOp2 oAdd (gArg (gOp2 oMult (gArg (gOp2 oIx (zaa 1) (gArg (gC (.int 1))))) (gArg (gC (.int 48271))))) (zaa 5))) (gArg (gC (.int 2305843009213693951))) [some (.frl (ns.map W.int),false),some (.lst [.int a0,.int b,.int 0],true),v2,some (.int n,false),some (.int (i:Nat),false),some (.int (n % 2305843009213693951+7919 * (i:Nat)+3),false)]=some ([some (.frl (ns.map W.int),false),some (.lst [.int a0,.int b,.int 0],true),v2,some (.int n,false),some (.int (i:Nat),false),some (.int (n % 2305843009213693951+7919 * (i:Nat)+3),false)],(.int ((b * 48271+(n % 2305843009213693951+7919 * (i:Nat)+3)) % 2305843009213693951),false)) :=
        zbm (zby (zbm (zby (zbm (zby (zbm rfl rfl rfl rfl (zo0 rfl (zbl (i:=1) rfl)))) rfl rfl rfl m2)) rfl rfl rfl rfl)) rfl rfl rfl (oI_t (by decide))
      exact zr4 (n:=1) (j:=1) (ws:=[.int a0,.int b,.int 0]) ge rfl rfl rfl)
  refine aG fun _ qG=>?_;obtain ⟨b,w3,w4,w5,rfl,q1,q2⟩:=hp;refine qG ?_;clear qG;refine ⟨.lst [.int a0,.int b,.int 0],zl4 (en:=[some (.frl (ns.map W.int),false),none,v2,w3,w4,w5]) rfl ?_ rfl,⟨_,_,_,rfl,q0,q1,q2,by decide,by decide⟩⟩;exact (seq_nx (e1:=[some (.frl (ns.map W.int),false),some (.lst [.int 0,.int 0,.int 0],true),none,none,none,none]) rfl).trans ((seq_nx hfirst).trans ((seq_nx hf).trans rfl))
end L2
namespace L2
open PySem PySem.Spec PyProof.Rows
end L2
namespace L2
open PySem PySem.Spec PyProof.Rows
end L2
namespace L2
open PySem PySem.Spec PyProof.Rows
theorem cap2 (i:Nat):zak [none,none] i=none:=rfl
end L2
namespace L2
open PySem PySem.Spec PyProof.Rows
theorem z08 {it:GL}{te:GE}{en e0:En}{ws rs:List W} (hi:it en=some (e0,ws)) (hz:ws.length<=1000) (hl:rs.length=ws.length)
  (ht:∀(i:Nat) v0 w r,ws[i]?=some w->rs[i]?=some r->∃u f,te [v0,some (w,false)]=some ([v0,u],(r,f))) :
  zbe [none,none] (.nm 1) it gYes te en=some (e0,(.lst rs,true)):=by
 have s9:(1000:Nat)<=sizeLine:=by decide
 obtain ⟨ce',out,hc,hp⟩:=zgu (cap:=[none,none]) (T:=.nm 1) (tc:=gYes) (te:=te) (fun i c dn=>(∃v0 v1,c=[v0,v1])/\dn=rs.take i) hi rfl (by omega) ⟨⟨_,_,rfl⟩,rfl⟩
  (by
   rintro i w c dn hw ⟨⟨v0,v1,rfl⟩,rfl⟩;have li:i < rs.length:=by rw [hl];exact (List.getElem?_eq_some_iff.mp hw).1
   have hr:rs[i]?=some rs[i]:=List.getElem?_eq_getElem li;obtain ⟨u,f,h⟩:=ht i v0 w rs[i] hw hr;refine ⟨[v0,some (w,false)],rfl,.inl ⟨_,_,(rs[i],f),rfl,h,⟨_,_,rfl⟩,?_⟩⟩;rw [List.take_succ,hr]
   rfl)
 obtain ⟨_,rfl⟩:=hp;rw [hc,zhz cap2,List.take_of_length_le (by omega)]
theorem zx9 {as:GAs}{en e1:En}{xs:List (W ⊕ Nat)}{j:Int} (h:as en=some (e1,xs)) (h2:zat e1 xs=some [.int j]) (h3:zdq j=true):zc7 as en=some (e1,rngW 0 j.toNat):=by
 unfold zc7;rw [h];show (match zat e1 xs with | some [.int j]=>if zdq j then some (e1,rngW 0 j.toNat) else none | _=>none)=_;rw [h2];show (if zdq j then some (e1,rngW 0 j.toNat) else none)=_;rw [if_pos h3]
end L2
namespace L2
open PySem PySem.Spec PyProof.Rows
end L2
namespace L2
open PySem PySem.Spec PyProof.Rows
end L2
namespace L2
open PySem PySem.Spec PyProof.Rows
end L2
namespace L2
open PySem PySem.Spec PyProof.Rows
end L2
namespace L2
open PySem PySem.Spec PyProof.Rows
end L2
namespace L2
open PySem PySem.Spec PyProof.Rows
theorem zdx:∀ws:List W,za7 (ws.map Sum.inl)=some ws
 | []=>rfl
 | w::ws=>by show (za7 (ws.map Sum.inl)).bind _=_;rw [zdx ws];rfl
theorem zfr:∀{xs:List (W ⊕ Nat)}{ws:List W},za7 xs=some ws->xs=ws.map Sum.inl
  | [],_,e=>by obtain rfl:=sI e;rfl
  | .inl w::xs,_,e=>by
    obtain ⟨ws,h,e⟩:=bS (show (za7 xs).bind _=_ from e);obtain rfl:=sI e;rw [zfr h];rfl
  | .inr _::_,_,e=>by exact noSome e
theorem ziv {xs:List (W ⊕ Nat)} (m:List Bool) (hm:(m.all fun b=>!b)=true) (h:xs.map isR=m):∃ws:List W,xs=ws.map Sum.inl:=by
  induction xs generalizing m with
  | nil=>exact ⟨[],rfl⟩
  | cons x xs ih =>
    cases m with
    | nil=>cases h
    | cons b m =>
      rw [List.map_cons] at h;injection h with h1 h2;rw [List.all_cons,Bool.and_eq_true] at hm;obtain ⟨ws,e⟩:=ih m hm.2 h2;cases x with
      | inl w=>exact ⟨w::ws,by rw [e];rfl⟩
      | inr i=>rw [<-h1] at hm;cases hm.1
theorem zfb:∀{m:List Bool} (hm:(m.all fun b=>!b)=true) (ws:List W),ws.length=m.length->(ws.map fun _=>false)=m
  | [],_,[],_=>rfl
  | [],_,_::_,h=>by cases h
  | _::_,_,[],h=>by cases h
  | b::m,hm,w::ws,h=>by
    rw [List.all_cons,Bool.and_eq_true] at hm;rw [List.map_cons,zfb hm.2 ws (by simpa using h)];cases b with
    | false=>rfl
    | true=>cases hm.1
theorem zca (m:List Bool) (Φ:Fn) (as:GAs) (en:En) (hm:(m.all fun b=>!b)=true):zae m Φ as en=(as en).bind fun p=>(za7 p.2).bind fun ws=>if ws.length=m.length then (Φ ws).bind fun q=>if q.1.length=m.length then some (p.1,q.2) else none else none:=by
  cases ha:as en with
  | none=>unfold zae;rw [ha];rfl
  | some p =>
    obtain ⟨e1,xs⟩:=p;show _=(za7 xs).bind _;cases hf:za7 xs with
    | none =>
      unfold zae;rw [ha];show (if (decide (xs.map isR=m) && _ && _)=true then _ else none)=none;rw [decide_eq_false (fun z=>by obtain ⟨ws,e⟩:=ziv m hm z;rw [e,zdx] at hf;cases hf)]
      rfl
    | some ws =>
      have ex:=zfr hf;subst ex;show _=if ws.length=m.length then _ else none;by_cases hl:ws.length=m.length
      · rw [if_pos hl]
        have h1:=zfb hm ws hl;cases hq:Φ ws with
        | none =>
          unfold zae;rw [ha];show (if (decide ((ws.map Sum.inl).map isR=m) && zam e1 (ws.map Sum.inl) && zbr (zau (ws.map Sum.inl)))=true then _ else _)=_;have e:(ws.map Sum.inl).map isR=m:=by rw [<-h1,List.map_map];rfl
          rw [decide_eq_true e,zdi,zfo];show (zat e1 (ws.map Sum.inl)).bind _=_;rw [zbg];show (Φ ws).bind _=_;rw [hq]
          rfl
        | some q =>
          obtain ⟨ws',r⟩:=q;show _=if ws'.length=m.length then some (e1,r) else none;by_cases hl2:ws'.length=m.length
          · rw [if_pos hl2]
            exact zrg ha h1 hq (by omega)
          · rw [if_neg hl2]
            unfold zae;rw [ha];show (if (decide ((ws.map Sum.inl).map isR=m) && zam e1 (ws.map Sum.inl) && zbr (zau (ws.map Sum.inl)))=true then _ else _)=_;have e:(ws.map Sum.inl).map isR=m:=by rw [<-h1,List.map_map];rfl
            rw [decide_eq_true e,zdi,zfo];show (zat e1 (ws.map Sum.inl)).bind _=_;rw [zbg];show (Φ ws).bind _=_;rw [hq];show (if ws'.length=m.length then _ else none)=none;rw [if_neg hl2]
      · rw [if_neg hl]
        unfold zae;rw [ha];show (if (decide ((ws.map Sum.inl).map isR=m) && _ && _)=true then _ else none)=none;rw [decide_eq_false (fun z=>hl (by rw [<-z,List.length_map,List.length_map]))]
        rfl
theorem zcy (m:List Bool) (Φ:Fn) (as:GAs) (en:En) (hm:(m.all fun b=>!b)=true):zae (true::m) Φ as en=(as en).bind fun p=>match p.2 with
    | .inr i::xs=>(za7 xs).bind fun ws=>(match p.1[i]? with
      | some (some (st,true))=>if ws.length=m.length then (Φ (st::ws)).bind fun q=>(match q.1 with
        | st' :: wz=>if wz.length=m.length then some (p.1.set i (some (st',true)),q.2) else none
        | []=>none) else none
      | _=>none)
    | _=>none:=by
  cases ha:as en with
  | none=>unfold zae;rw [ha];rfl
  | some p =>
    obtain ⟨e1,xs⟩:=p;have base:zae (true::m) Φ as en=if decide (xs.map isR=true::m) && zam e1 xs && zbr (zau xs) then (zat e1 xs).bind fun ws=>(Φ ws).bind fun q=>if q.1.length=(true::m).length then some (zaq (zau xs) e1 (zav (true::m) q.1),q.2) else none else none:=by
      unfold zae;rw [ha];rfl
    have bad:xs.map isR≠true::m->zae (true::m) Φ as en=none:=fun z=>by rw [base,decide_eq_false z];rfl
    have bad2:zam e1 xs=false->zae (true::m) Φ as en=none:=fun z=>by rw [base,z,Bool.and_false];rfl
    simp only [Option.bind_some]
    match xs,ha,base,bad,bad2 with
    | [],ha,_,bad,_=>rw [bad (by simp)]
    | .inl w::xs,ha,_,bad,_=>rw [bad (by simp [isR])]
    | .inr i::xs,ha,base,bad,bad2 =>
      simp only;cases hf:za7 xs with
      | none=>rw [bad (fun z=>by
          rw [List.map_cons] at z;injection z with _ z;obtain ⟨ws,e⟩:=ziv m hm z;rw [e,zdx] at hf;cases hf)];rfl
      | some ws =>
        have ex:=zfr hf;subst ex;simp only [Option.bind_some];have no:(∀st,e1[i]?≠some (some (st,true)))->zam e1 (.inr i::ws.map Sum.inl)=false:=fun z=>by
          unfold zam;rw [List.all_cons];have:(match e1[i]? with | some (some (_,true))=>true | _=>false)=false:=by
            split
            · rename_i q;exact absurd q (z _)
            · rfl
          simp only [this,Bool.false_and]
        split
        · rename_i st hst
          by_cases hl:ws.length=m.length
          · rw [if_pos hl]
            have h1:=zfb hm ws hl;cases hq:Φ (st::ws) with
            | none =>
              rw [base];split
              · have rs:zat e1 (.inr i::ws.map Sum.inl)=some (st::ws):=by
                  show (resA e1 (.inr i)).bind _=_;have:resA e1 (.inr i)=some st:=by unfold resA;simp only [hst]
                  rw [this];show (zat e1 (ws.map Sum.inl)).bind _=_;rw [zbg]
                  rfl
                rw [rs];show (Φ (st::ws)).bind _=_;rw [hq]
                rfl
              · rfl
            | some q =>
              obtain ⟨ws',r⟩:=q;simp only [Option.bind_some];have nn:ws'.length≠(true::m).length->zae (true::m) Φ as en=none:=fun z=>by
                rw [base];split
                · have rs:zat e1 (.inr i::ws.map Sum.inl)=some (st::ws):=by
                    show (resA e1 (.inr i)).bind _=_;have:resA e1 (.inr i)=some st:=by unfold resA;simp only [hst]
                    rw [this];show (zat e1 (ws.map Sum.inl)).bind _=_;rw [zbg]
                    rfl
                  rw [rs];show (Φ (st::ws)).bind _=_;rw [hq];show (if ws'.length=(true::m).length then _ else none)=none;rw [if_neg z]
                · rfl
              match ws',hq,nn with
              | [],hq,nn=>rw [nn (by simp)]
              | st' :: wz,hq,nn =>
                simp only;by_cases hl2:wz.length=m.length
                · rw [if_pos hl2]
                  exact zmm ha (by rw [h1]) hst hq (by omega)
                · rw [if_neg hl2,nn (by simpa using hl2)]
          · rw [if_neg hl,bad (fun z=>hl (by
              have:=congrArg List.length z;simpa using this))]
        · rename_i hst
          exact bad2 (no fun st z=>hst st z)
end L2
namespace L2
open PySem PySem.Spec PyProof.Rows
theorem oI_e {c:Int->Int->Bool}{g:Int->Int->W}{i j:Int}:oI c g (.int i) (.int j)=if c i j then some (g i j,false) else none:=rfl
theorem z1n {i j:Int}:yes2 i j=true:=rfl
theorem zu4 {ws:List W}:seqW (.tup ws)=some ws:=rfl
theorem zs0 {ws:List W}:seqW (.lst ws)=some ws:=rfl
theorem zs2 {ws:List W}:seqL (.lst ws)=some ws:=rfl
theorem z4y {a:W}{i:Int}:oIx a (.int i)=(seqW a).bind fun ws=>(atI ws i).bind fun w=>some (w,false):=by cases a<;>rfl
theorem z12 {en:En}{w:W}:resA en (.inl w)=some w:=rfl
theorem z1e {en:En}{i:Nat}:resA en (.inr i)=match en[i]? with | some (some (w,_))=>some w | _=>none:=by
 unfold resA;rfl
theorem z4c {i j:Int}:oEq (.int i) (.int j)=some (.bl (decide (i=j)),false):=rfl
theorem z4e {i j:Int}:oNe (.int i) (.int j)=some (.bl (!decide (i=j)),false):=rfl
theorem zth {w:W}{xs:List (W ⊕ Nat)}:za7 (.inl w::xs)=(za7 xs).bind fun ws=>some (w::ws):=rfl
theorem ztv:za7 []=some []:=rfl
theorem zyk {en:En}{x:W ⊕ Nat}{xs:List (W ⊕ Nat)}:zat en (x::xs)=(resA en x).bind fun w=>(zat en xs).bind fun ws=>some (w::ws):=rfl
theorem zye {en:En}:zat en []=some []:=rfl
theorem zx1 {b:Bool}{m:List Bool}{w:W}{ws:List W}:zav (b::m) (w::ws)=some (w,b)::zav m ws:=rfl
theorem zyg {ws:List W}:zav [] ws=[]:=by unfold zav;simp
theorem z1a {en:En}:zbs [] [] en=some []:=rfl
theorem z09 {m:List Bool}{w u:W}{ws:List W}{en:En}:zbs (true::m) (u::ws) (some (w,true)::en)=(zbs m ws en).bind fun r=>some (w::r):=rfl
theorem z1u {m:List Bool}{w:W}{ws:List W}{x:Option (W × Bool)}{en:En}:zbs (false::m) (w::ws) (x::en)=(zbs m ws en).bind fun r=>some (w::r):=rfl
theorem z41 {x:W}{xs:List W}:atI (x::xs) 0=some x:=by
 have:=zbl (xs:=x::xs) (i:=0) rfl;exact this
theorem z4g {x y:W}{xs:List W}:atI (x::y::xs) 1=some y:=by
 have:=zbl (xs:=x::y::xs) (i:=1) rfl;exact this
theorem z4f {x y z:W}{xs:List W}:atI (x::y::z::xs) 2=some z:=by
 have:=zbl (xs:=x::y::z::xs) (i:=2) rfl;exact this
theorem zte {n:Nat}:((no_index (OfNat.ofNat n):Nat):Int)=(OfNat.ofNat n:Int):=rfl
theorem zt8 {xs ys:List W}:oAdd (.lst xs) (.lst ys)=if xs.length+ys.length<=sizeLine then some (.lst (xs++ys),true) else none:=by
 by_cases h:xs.length+ys.length<=sizeLine
 ·rw [if_pos h];exact zxc h
 ·rw [if_neg h];show oOr oCat (oOr ztr (oOr z0k zvr)) (.lst xs) (.lst ys)=none;have e:oCat (.lst xs) (.lst ys)=none:=by
   show (if xs.length+ys.length<=sizeLine then _ else none)=none;rw [if_neg h]
  unfold oOr;rw [e]
  rfl
theorem zln:oIsi .int .non=some (.bl false,false):=rfl
theorem zn2 {b:Bool}:oIsi .int (.bl b)=some (.bl true,false):=rfl
theorem zlz {n:Int}:oIsi .int (.int n)=some (.bl true,false):=rfl
theorem zkp {x:Str}:oIsi .int (.str x)=some (.bl false,false):=rfl
theorem zk3 {xs:List W}:oIsi .int (.tup xs)=some (.bl false,false):=rfl
theorem zkd {xs:List W}:oIsi .int (.lst xs)=some (.bl false,false):=rfl
theorem zlc:oIsi .int .dic=some (.bl false,false):=rfl
theorem zj4:oIsi .bool .non=some (.bl false,false):=rfl
theorem zl2 {b:Bool}:oIsi .bool (.bl b)=some (.bl true,false):=rfl
theorem ziy {n:Int}:oIsi .bool (.int n)=some (.bl false,false):=rfl
theorem zib {x:Str}:oIsi .bool (.str x)=some (.bl false,false):=rfl
theorem ziw {xs:List W}:oIsi .bool (.tup xs)=some (.bl false,false):=rfl
theorem zhs {xs:List W}:oIsi .bool (.lst xs)=some (.bl false,false):=rfl
theorem zhy:oIsi .bool .dic=some (.bl false,false):=rfl
theorem zlh:oIsi .str .non=some (.bl false,false):=rfl
theorem zod {b:Bool}:oIsi .str (.bl b)=some (.bl false,false):=rfl
theorem zj8 {n:Int}:oIsi .str (.int n)=some (.bl false,false):=rfl
theorem zkm {x:Str}:oIsi .str (.str x)=some (.bl true,false):=rfl
theorem zkl {xs:List W}:oIsi .str (.tup xs)=some (.bl false,false):=rfl
theorem zlf {xs:List W}:oIsi .str (.lst xs)=some (.bl false,false):=rfl
theorem zki:oIsi .str .dic=some (.bl false,false):=rfl
theorem zg4:oIsi .tuple .non=some (.bl false,false):=rfl
theorem zjd {b:Bool}:oIsi .tuple (.bl b)=some (.bl false,false):=rfl
theorem zgx {n:Int}:oIsi .tuple (.int n)=some (.bl false,false):=rfl
theorem zhh {x:Str}:oIsi .tuple (.str x)=some (.bl false,false):=rfl
theorem zgj {xs:List W}:oIsi .tuple (.tup xs)=some (.bl true,false):=rfl
theorem zg9 {xs:List W}:oIsi .tuple (.lst xs)=some (.bl false,false):=rfl
theorem zgq:oIsi .tuple .dic=some (.bl false,false):=rfl
theorem zjv:oIsi .list .non=some (.bl false,false):=rfl
theorem zk9 {b:Bool}:oIsi .list (.bl b)=some (.bl false,false):=rfl
theorem zim {n:Int}:oIsi .list (.int n)=some (.bl false,false):=rfl
theorem zjw {x:Str}:oIsi .list (.str x)=some (.bl false,false):=rfl
theorem zil {xs:List W}:oIsi .list (.tup xs)=some (.bl false,false):=rfl
theorem zjf {xs:List W}:oIsi .list (.lst xs)=some (.bl true,false):=rfl
theorem zj1:oIsi .list .dic=some (.bl false,false):=rfl
theorem z5b {i j:Bool}:oEq (.bl i) (.bl j)=some (.bl (decide (i=j)),false):=rfl
theorem z5g {i j:Bool}:oNe (.bl i) (.bl j)=some (.bl (!decide (i=j)),false):=rfl
theorem z4o {i j:Str}:oEq (.str i) (.str j)=some (.bl (decide (i=j)),false):=rfl
theorem z4b {i j:Str}:oNe (.str i) (.str j)=some (.bl (!decide (i=j)),false):=rfl
theorem z4n {i j:Bool}:oIs (.bl i) (.bl j)=some (.bl (decide (i=j)),false):=rfl
theorem z27 {f:List Bool->Bool}{bs:List Bool}:oBl f [.lst (bs.map W.bl)]=some (.bl (f bs),false):=by
 show (zky (bs.map W.bl)).bind _=_;rw [zit];rfl
theorem zd8 {cap:Cap}{it:GL}{te:GE}{en e0:En}{ws rs:List W}{xs:En} (hi:it en=some (e0,ws)) (hz:ws.length<=1000) (hl:rs.length=ws.length) (hn:zbr cap=true) (hk:(capKeep cap).contains 1=false) (hx:zej cap e0=none::none::xs) (hb:∀v0 v1,zaq cap e0 (v0::v1::xs)=e0)
  (ht:∀(i:Nat) v0 w r,ws[i]?=some w->rs[i]?=some r->∃u f,te (v0::some (w,false)::xs)=some (v0::u::xs,(r,f))) :
  zbe cap (.nm 1) it gYes te en=some (e0,(.lst rs,true)):=by
 have s9:(1000:Nat)<=sizeLine:=by decide
 obtain ⟨ce',out,hc,hp⟩:=zgu (cap:=cap) (T:=.nm 1) (tc:=gYes) (te:=te) (fun i c dn=>(∃v0 v1,c=v0::v1::xs)/\dn=rs.take i) hi hn (by omega) ⟨⟨_,_,hx⟩,rfl⟩
  (fun i w c dn hw hp=>by
   obtain ⟨⟨v0,v1,rfl⟩,rfl⟩:=hp;have lt:i < ws.length:=(List.getElem?_eq_some_iff.mp hw).1;have hr:rs[i]?=some rs[i]:=List.getElem?_eq_getElem (by omega);obtain ⟨u,f,h⟩:=ht i v0 w _ hw hr;refine ⟨v0::some (w,false)::xs,?_,.inl ⟨_,_,_,rfl,h,⟨_,_,rfl⟩,?_⟩⟩
   ·show (if (capKeep cap).contains 1 || !decide (1 < (v0 :: v1 :: xs).length) then none else _) = _;rw [hk,decide_eq_true (by rw [List.length_cons,List.length_cons];omega)]
    rfl
   ·show rs.take i ++ [rs[i]] = rs.take (i + 1);rw [List.take_succ,hr];rfl)
 obtain ⟨⟨v0,v1,rfl⟩,rfl⟩:=hp;rw [hb,<-hl,List.take_length] at hc;exact hc
theorem zcm {T:List Fd}{bn:List Str}{d:Nat}{x:Str}{t:Fd}{g:GS} (h:T.find? (·.nm == x)=some t) (hb:zax T bn (sem T bn (d+2)) (d+2) t=some g):sem T bn (d+3) x=zai t.m t.N.length g:=by
 show (match T.find? (·.nm == x) with | some t=>fnAt T bn (sem T bn (d+2)) (d+2) t | none=>fun _=>none)=_;rw [h];show fnAt T bn (sem T bn (d+2)) (d+2) t=_;unfold fnAt;rw [hb]
noncomputable def evA:=And.intro @oI_e ( And.intro @z1n ( And.intro @zqs ( And.intro @zt8 ( And.intro @zu4 ( And.intro @zs0 ( And.intro @zs2 ( And.intro @z4y ( And.intro @z12 ( And.intro @z1e ( And.intro @z4c ( And.intro @z4e ( And.intro @z5b ( And.intro @z5g ( And.intro @z4o ( And.intro @z4b ( And.intro @z4n ( And.intro @z27 ( And.intro @zth ( And.intro @ztv ( And.intro @zyk ( And.intro @zye ( And.intro @zx1 ( And.intro @zyg ( And.intro @z1a ( And.intro @z09 ( And.intro @z1u ( And.intro (fun Φ as en=>zca [false] Φ as en rfl) ( And.intro (fun Φ as en=>zca [false,false] Φ as en rfl) ( And.intro (fun Φ as en=>zca [false,false,false] Φ as en rfl) ( And.intro (fun Φ as en=>zca [false,false,false,false] Φ as en rfl) ( And.intro (fun Φ as en=>zcy [] Φ as en rfl) ( And.intro (fun Φ as en=>zcy [false] Φ as en rfl) ( And.intro (fun Φ as en=>zcy [false,false] Φ as en rfl) ( And.intro (fun Φ as en=>zcy [false,false,false] Φ as en rfl) ( And.intro @z41 ( And.intro @z4g ( And.intro @z4f ( And.intro @sizeLine_eq ( And.intro @zln ( And.intro @zn2 ( And.intro @zlz ( And.intro @zkp ( And.intro @zk3 ( And.intro @zkd ( And.intro @zlc ( And.intro @zj4 ( And.intro @zl2 ( And.intro @ziy ( And.intro @zib ( And.intro @ziw ( And.intro @zhs ( And.intro @zhy ( And.intro @zlh ( And.intro @zod ( And.intro @zj8 ( And.intro @zkm ( And.intro @zkl ( And.intro @zlf ( And.intro @zki ( And.intro @zg4 ( And.intro @zjd ( And.intro @zgx ( And.intro @zhh ( And.intro @zgj ( And.intro @zg9 ( And.intro @zgq ( And.intro @zjv ( And.intro @zk9 ( And.intro @zim ( And.intro @zjw ( And.intro @zil ( And.intro @zjf ( And.intro @zj1 ( And.intro @zte ( And.intro @Option.bind_some.{0,0} ( And.intro @Option.bind_none.{0,0} ( And.intro @List.length_cons.{0} ( And.intro @List.length_nil.{0} ( And.intro @List.getElem?_cons_zero.{0} ( And.intro @List.getElem?_cons_succ.{0} ( And.intro @List.set_cons_zero.{0} ( And.intro @List.set_cons_succ.{0} ( And.intro @List.nil_append.{0} ( And.intro @List.cons_append.{0} ( And.intro @List.contains_nil.{0} ( And.intro @Bool.false_or ( And.intro @Bool.or_false ( And.intro @Bool.not_true ( And.intro @Bool.not_false ( And.intro @Nat.zero_add ( And.intro @Nat.lt_add_one ( And.intro @Nat.zero_lt_succ ( And.intro @decide_true ( And.intro @decide_false ( And.intro @decide_eq_true_eq ( And.intro @List.elem_nil.{0} ( And.intro @List.elem_cons.{0} ( And.intro @Bool.false_eq_true ( And.intro @Bool.true_eq_false ( And.intro @Bool.or_self ( And.intro @Bool.and_self ( And.intro @Bool.true_and ( And.intro @Bool.false_and ( And.intro @Bool.and_true ( And.intro @Bool.and_false ( And.intro @Bool.true_or ( And.intro @Bool.or_true ( And.intro @Int.toNat_natCast ( And.intro @gVar.eq_1 ( And.intro @zaa.eq_1 ( And.intro @gC.eq_1 ( And.intro @gArg.eq_1 ( And.intro @gA0.eq_1 ( And.intro @gCns.eq_1 ( And.intro @gOp1.eq_1 ( And.intro @gOp2.eq_1 ( And.intro @gOpN.eq_1 ( And.intro @zah.eq_1 ( And.intro @gAnd.eq_1 ( And.intro @gOr.eq_1 ( And.intro @gNot.eq_1 ( And.intro @zfe.eq_1 ( And.intro @gOrT.eq_1 ( And.intro @zlt.eq_1 ( And.intro @gIf.eq_1 ( And.intro @zbo.eq_1 ( And.intro @za9.eq_1 ( And.intro @zh2.eq_1 ( And.intro @zbp.eq_1 ( And.intro @zdr.eq_1 ( And.intro @gSl.eq_1 ( And.intro @zda.eq_1 ( And.intro @zc7.eq_1 ( And.intro @z4h.eq_1 ( And.intro @gRev.eq_1 ( And.intro @zci.eq_1 ( And.intro @gBrk.eq_1 ( And.intro @gCnt.eq_1 ( And.intro @gSeq.eq_1 ( And.intro @gRet.eq_1 ( And.intro @z42.eq_1 ( And.intro @gIfS.eq_1 ( And.intro @ze7.eq_1 ( And.intro @gSet.eq_1 ( And.intro @gAsg.eq_1 ( And.intro @gPar.eq_1 ( And.intro @zay.eq_1 ( And.intro @gApp.eq_1 ( And.intro @gExt.eq_1 ( And.intro @gAug.eq_1 ( And.intro @gYes.eq_1 ( And.intro @zeh.eq_1 ( And.intro @gZip.eq_1 ( And.intro @zn9.eq_1 ( And.intro @zai.eq_1 ( And.intro @z4j.eq_1 (@z45.eq_1)))))))))))))))))))))))))))))))))))))))))))))))))))))))))))))))))))))))))))))))))))))))))))))))))))))))))))))))))))))))))))))))))))))))))))))))))))))))))))))
end L2
local macro_rules | `(tactic| simp! [$xs,*])=>`(tactic| simp only [L2.evA,L2.tgSet,L2.keyW,L2.oNeg,L2.oLen,L2.setAll,List.replicate,List.contains,eq_self,Nat.reduceAdd,Nat.reduceSub,Nat.reduceLT,Nat.reduceLeDiff,reduceIte,reduceCtorEq,Nat.reduceEqDiff,Nat.reduceBEq,↓reduceIte,Int.reduceEq,Int.reduceLE,Int.reduceLT,Int.reduceAdd,Int.reduceSub,Int.reduceMul,Int.reduceNeg,$xs,*])
namespace L2
open PySem PySem.Spec PyProof.Rows
noncomputable def zp7 (Ψ:Str->Fn):GE:=zbe [none,none,some 3] (.nm 1) (zda (gVar 2)) gYes (gOp2 oAdd (zaa 1) (gArg (zbo (gCns (gArg (gVar 2)) gA0))))
noncomputable def zr3 (Ψ:Str->Fn):GS:=(gSet [] 2 (gOp2 oAdd (zaa 2) (gArg (zp7 Ψ))))
noncomputable def zqu (Ψ:Str->Fn):GS:=gFor [] (.nm 3) (zc7 (gCns (zaa 0) gA0)) (zr3 Ψ)
noncomputable def zql (Ψ:Str->Fn):GE:=zbe [none,none,some 1] (.nm 1) (zda (gVar 2)) (zah (gOp2 (oI yes2 fun i j=>.bl (decide (i<=j))) (gArg (gOpN oLen (gCns (zaa 1) gA0))) (zaa 2))) (gVar 1)
noncomputable def zmx (Ψ:Str->Fn):GS:=(gSeq (gSet [] 2 (za9 (gCns (gArg (zbo gA0)) gA0))) (gSeq (zqu Ψ) (gRet (zpa (zbo (gCns (gArg (gOpN oLen (gCns (zaa 0) gA0))) (gCns (gArg (gVar 0)) gA0))) (gArg (zql Ψ))))))
noncomputable def zgs (Ψ:Str->Fn):GE:=zbe [none,none,none] (.tp [1,2]) (gZip (gVar 3) (zae [true,false] (Ψ "_law_bits") (gCns (zaa 0) (gCns (gArg (gOpN oLen (gCns (zaa 3) gA0))) gA0)))) (zah (gOp2 oEq (zaa 2) (gArg (gC (.int 1))))) (gVar 1)
noncomputable def zqo (Ψ:Str->Fn):GS:=(gSeq (gSet [0] 3 (zae [false,false] (Ψ "_law_terms") (gCns (gArg (gVar 1)) (gCns (gArg (gVar 2)) gA0)))) (gRet (gOpN ze0 (gCns (gArg (zgs Ψ)) gA0))))
noncomputable def tmW (t:List Nat):W:=.tup (t.map fun l=>.int (l:Nat))
noncomputable def zpk:Nat->Nat->Nat->Nat->List (List Nat)
 | _,_,_,0=>[[]]
 | 0,_,_,_+1=>[]
 | fu+1,lo,m,k+1=>(if lo < m then (zpk fu (lo+1) m k).map (lo :: ·)++zpk fu (lo+1) m (k+1) else [])
noncomputable def zal (m most:Nat):List (List Nat):=(List.range (most+1)).flatMap fun k=>zpk (m+1) 0 m k
noncomputable def zrz (Φ:Fn):Prop:=∀m most:Nat,m<=6->most<=6->Φ [.int m,.int most]=some ([.int m,.int most],(.lst ((zal m most).map tmW),true))
noncomputable def tmP (Ψ:Str->Fn) (m k:Nat):Prop:=zai [false,false] 4 (zmx Ψ) [.int (m:Int),.int (k:Int)]=some ([.int (m:Int),.int (k:Int)],(.lst ((zal m k).map tmW),true))
theorem tm0 (Ψ:Str->Fn):tmP Ψ 0 0/\tmP Ψ 0 1/\tmP Ψ 0 2/\tmP Ψ 0 3/\tmP Ψ 0 4/\tmP Ψ 0 5/\tmP Ψ 0 6:=by
 unfold tmP;refine ⟨?_,?_,?_,?_,?_,?_,?_⟩<;>kernel_rfl
theorem tm1 (Ψ:Str->Fn):tmP Ψ 1 0/\tmP Ψ 1 1/\tmP Ψ 1 2/\tmP Ψ 1 3/\tmP Ψ 1 4/\tmP Ψ 1 5/\tmP Ψ 1 6:=by
 unfold tmP;refine ⟨?_,?_,?_,?_,?_,?_,?_⟩<;>kernel_rfl
theorem tm2 (Ψ:Str->Fn):tmP Ψ 2 0/\tmP Ψ 2 1/\tmP Ψ 2 2/\tmP Ψ 2 3/\tmP Ψ 2 4/\tmP Ψ 2 5/\tmP Ψ 2 6:=by
 unfold tmP;refine ⟨?_,?_,?_,?_,?_,?_,?_⟩<;>kernel_rfl
theorem tm3 (Ψ:Str->Fn):tmP Ψ 3 0/\tmP Ψ 3 1/\tmP Ψ 3 2/\tmP Ψ 3 3/\tmP Ψ 3 4/\tmP Ψ 3 5/\tmP Ψ 3 6:=by
 unfold tmP;refine ⟨?_,?_,?_,?_,?_,?_,?_⟩<;>kernel_rfl
theorem tm4 (Ψ:Str->Fn):tmP Ψ 4 0/\tmP Ψ 4 1/\tmP Ψ 4 2/\tmP Ψ 4 3/\tmP Ψ 4 4/\tmP Ψ 4 5/\tmP Ψ 4 6:=by
 unfold tmP;refine ⟨?_,?_,?_,?_,?_,?_,?_⟩<;>kernel_rfl
theorem tm5 (Ψ:Str->Fn):tmP Ψ 5 0/\tmP Ψ 5 1/\tmP Ψ 5 2/\tmP Ψ 5 3/\tmP Ψ 5 4/\tmP Ψ 5 5/\tmP Ψ 5 6:=by
 unfold tmP;refine ⟨?_,?_,?_,?_,?_,?_,?_⟩<;>kernel_rfl
theorem tm6 (Ψ:Str->Fn):tmP Ψ 6 0/\tmP Ψ 6 1/\tmP Ψ 6 2/\tmP Ψ 6 3/\tmP Ψ 6 4/\tmP Ψ 6 5/\tmP Ψ 6 6:=by
 unfold tmP;refine ⟨?_,?_,?_,?_,?_,?_,?_⟩<;>kernel_rfl
theorem zu9 (Ψ:Str->Fn):zrz (zai [false,false] 4 (zmx Ψ)):=fun m k hm hk=>by
 match m,k,hm,hk with
 | 0,0,_,_=>exact (tm0 Ψ).1
 | 0,1,_,_=>exact (tm0 Ψ).2.1
 | 0,2,_,_=>exact (tm0 Ψ).2.2.1
 | 0,3,_,_=>exact (tm0 Ψ).2.2.2.1
 | 0,4,_,_=>exact (tm0 Ψ).2.2.2.2.1
 | 0,5,_,_=>exact (tm0 Ψ).2.2.2.2.2.1
 | 0,6,_,_=>exact (tm0 Ψ).2.2.2.2.2.2
 | 1,0,_,_=>exact (tm1 Ψ).1
 | 1,1,_,_=>exact (tm1 Ψ).2.1
 | 1,2,_,_=>exact (tm1 Ψ).2.2.1
 | 1,3,_,_=>exact (tm1 Ψ).2.2.2.1
 | 1,4,_,_=>exact (tm1 Ψ).2.2.2.2.1
 | 1,5,_,_=>exact (tm1 Ψ).2.2.2.2.2.1
 | 1,6,_,_=>exact (tm1 Ψ).2.2.2.2.2.2
 | 2,0,_,_=>exact (tm2 Ψ).1
 | 2,1,_,_=>exact (tm2 Ψ).2.1
 | 2,2,_,_=>exact (tm2 Ψ).2.2.1
 | 2,3,_,_=>exact (tm2 Ψ).2.2.2.1
 | 2,4,_,_=>exact (tm2 Ψ).2.2.2.2.1
 | 2,5,_,_=>exact (tm2 Ψ).2.2.2.2.2.1
 | 2,6,_,_=>exact (tm2 Ψ).2.2.2.2.2.2
 | 3,0,_,_=>exact (tm3 Ψ).1
 | 3,1,_,_=>exact (tm3 Ψ).2.1
 | 3,2,_,_=>exact (tm3 Ψ).2.2.1
 | 3,3,_,_=>exact (tm3 Ψ).2.2.2.1
 | 3,4,_,_=>exact (tm3 Ψ).2.2.2.2.1
 | 3,5,_,_=>exact (tm3 Ψ).2.2.2.2.2.1
 | 3,6,_,_=>exact (tm3 Ψ).2.2.2.2.2.2
 | 4,0,_,_=>exact (tm4 Ψ).1
 | 4,1,_,_=>exact (tm4 Ψ).2.1
 | 4,2,_,_=>exact (tm4 Ψ).2.2.1
 | 4,3,_,_=>exact (tm4 Ψ).2.2.2.1
 | 4,4,_,_=>exact (tm4 Ψ).2.2.2.2.1
 | 4,5,_,_=>exact (tm4 Ψ).2.2.2.2.2.1
 | 4,6,_,_=>exact (tm4 Ψ).2.2.2.2.2.2
 | 5,0,_,_=>exact (tm5 Ψ).1
 | 5,1,_,_=>exact (tm5 Ψ).2.1
 | 5,2,_,_=>exact (tm5 Ψ).2.2.1
 | 5,3,_,_=>exact (tm5 Ψ).2.2.2.1
 | 5,4,_,_=>exact (tm5 Ψ).2.2.2.2.1
 | 5,5,_,_=>exact (tm5 Ψ).2.2.2.2.2.1
 | 5,6,_,_=>exact (tm5 Ψ).2.2.2.2.2.2
 | 6,0,_,_=>exact (tm6 Ψ).1
 | 6,1,_,_=>exact (tm6 Ψ).2.1
 | 6,2,_,_=>exact (tm6 Ψ).2.2.1
 | 6,3,_,_=>exact (tm6 Ψ).2.2.2.1
 | 6,4,_,_=>exact (tm6 Ψ).2.2.2.2.1
 | 6,5,_,_=>exact (tm6 Ψ).2.2.2.2.2.1
 | 6,6,_,_=>exact (tm6 Ψ).2.2.2.2.2.2
 | m+7,_,h,_=>omega
 | _,k+7,_,h=>omega
end L2
namespace L2
open PySem PySem.Spec PyProof.Rows
theorem rng1_n {a:GA}{en e1:En}{n:Nat} (h:a en=some (e1,.inl (.int (n:Nat)))) (hn:n<=1000000):zc7 (gCns a gA0) en=some (e1,rngW 0 n):=by
 have r:zdq (n:Int)=true:=by
  unfold zdq;rw [decide_eq_true (by omega),decide_eq_true (by omega)];rfl
 have h2:gCns a gA0 en=some (e1,[.inl (.int (n:Nat))]):=by unfold gCns;rw [h];rfl
 have:=zx9 h2 rfl r;rw [Int.toNat_natCast] at this;exact this
end L2
namespace L2
open PySem PySem.Spec PyProof.Rows
theorem z3t {xs ys:List W}{i:Nat}{w:W} (h:(zipW xs ys)[i]?=some w):∃x y,xs[i]?=some x/\ys[i]?=some y/\w=.tup [x,y]:=by
 have l:=(List.getElem?_eq_some_iff.mp h).1;rw [zdh] at l;have hx:xs[i]?=some xs[i]:=List.getElem?_eq_getElem (by omega);have hy:ys[i]?=some ys[i]:=List.getElem?_eq_getElem (by omega);rw [zgf hx hy] at h;obtain rfl:=sI h;exact ⟨_,_,hx,hy,rfl⟩
noncomputable def zqz (Φ:Fn):Prop:=∀(k:Nat) (st:W) (m most:Nat),HS k st->k+100 < big->m<=6->most<=6->∃(st' : W) (ts:List (List Nat)),Φ [st,.int (m:Nat),.int (most:Nat)]=some ([st',.int (m:Nat),.int (most:Nat)],(.tup (ts.map tmW),false))/\HS (k+66) st'/\ts.Sublist (zal m most)
theorem zps:∀m most:Fin 7,(zal m.val most.val).length<=64/\∀t∈zal m.val most.val,t.length<=6/\∀l∈t,l < m.val:=by decide +kernel
theorem zid {m most:Nat} (hm:m<=6) (hk:most<=6):(zal m most).length<=64/\∀t∈zal m most,t.length<=6/\∀l∈t,l < m:=zps ⟨m,by omega⟩ ⟨most,by omega⟩
theorem zw6 {Ψ:Str->Fn} (hT:zrz (Ψ "_law_terms")) (hB:zv9 (Ψ "_law_bits")):zqz (zai [true,false,false] 4 (zqo Ψ)):=fun k st m most hs hk hm ho=>by
  have s9:(1000:Nat)<=sizeLine:=by decide
  obtain ⟨tl,_⟩:=zid hm ho;have t1:=hT m most hm ho;refine aG fun _ qG=>?_;obtain ⟨st',xs,b1,g1,xl,xb⟩:=hB k st ((zal m most).length:Nat) hs hk (by omega) (by omega);refine qG ?_;clear qG;have lx:xs.length=(zal m most).length:=by omega
  have cc:∃ts:List (List Nat),zgs Ψ [some (st,true),some (.int (m:Nat),false),some (.int (most:Nat),false),some (.lst ((zal m most).map tmW),true)]=some ([some (st',true),some (.int (m:Nat),false),some (.int (most:Nat),false),some (.lst ((zal m most).map tmW),false)],(.lst (ts.map tmW),true))/\ts.Sublist (zal m most):=by
    unfold zgs;obtain ⟨ce',out,hc,hp⟩:=zgu (cap:=[none,none,none]) (T:=.tp [1,2]) (tc:=zah (gOp2 oEq (zaa 2) (gArg (gC (.int 1))))) (te:=gVar 1) (it:=gZip (gVar 3) (zae [true,false] (Ψ "_law_bits") (gCns (zaa 0) (gCns (gArg (gOpN oLen (gCns (zaa 3) gA0))) gA0)))) (en:=[some (st,true),some (.int (m:Nat),false),some (.int (most:Nat),false),some (.lst ((zal m most).map tmW),true)]) (e0:=[some (st',true),some (.int (m:Nat),false),some (.int (most:Nat),false),some (.lst ((zal m most).map tmW),false)]) (ws:=zipW ((zal m most).map tmW) (xs.map W.int)) (fun i c dn=>(∃v0 v1 v2,c=[v0,v1,v2])/\∃ts:List (List Nat),dn=ts.map tmW/\ts.Sublist ((zal m most).take i))
      (by simp! [List.length_map,b1]) rfl (by rw [zdh,List.length_map,List.length_map];omega) ⟨⟨_,_,_,rfl⟩,[],rfl,List.nil_sublist _⟩ fun i w c dn hw hp=>by
        refine aG fun _ qG=>?_;obtain ⟨⟨v0,v1,v2,rfl⟩,ts,rfl,hsub⟩:=hp;obtain ⟨x,y,hx,hy,rfl⟩:=z3t hw;refine qG ?_;clear qG;rw [List.getElem?_map] at hx hy;cases ha:(zal m most)[i]? with
        | none=>rw [ha] at hx;exact noSome hx
        | some t =>
          cases hb:xs[i]? with
          | none=>rw [hb] at hy;exact noSome hy
          | some n =>
            rw [ha] at hx;rw [hb] at hy;obtain rfl:=sI hx;obtain rfl:=sI hy;have tk:(zal m most).take (i+1)=(zal m most).take i++[t]:=by rw [List.take_succ,ha];rfl
            refine ⟨[v0,some (tmW t,false),some (.int n,false)],rfl,?_⟩;have tt:zah (gOp2 oEq (zaa 2) (gArg (gC (.int 1)))) [v0,some (tmW t,false),some (.int n,false)]=some ([v0,some (tmW t,false),some (.int n,false)],decide (n=1)):=by simp! []
            by_cases hn:n=1
            · refine .inl ⟨[v0, some (tmW t, false), some (.int n, false)], [v0, some (tmW t, false), some (.int n, false)], (tmW t, false), ?_, rfl, ⟨_, _, _, rfl⟩, ts ++ [t], ?_, ?_⟩
              · rw [tt,decide_eq_true hn]
              · rw [List.map_append];rfl
              · rw [tk];exact hsub.append (.refl _)
            · refine .inr ⟨[v0, some (tmW t, false), some (.int n, false)], ?_, ⟨_, _, _, rfl⟩, ts, rfl, ?_⟩
              · rw [tt,decide_eq_false hn]
              · rw [tk];exact hsub.trans (List.sublist_append_left _ _)
    refine aG fun _ qG=>?_;obtain ⟨⟨v0,v1,v2,rfl⟩,ts,rfl,hsub⟩:=hp;refine qG ?_;clear qG;exact ⟨ts,hc,hsub.trans (List.take_sublist _ _)⟩
  obtain ⟨ts,c1,sub⟩:=cc;refine ⟨st',ts,?_,g1,sub⟩;have ot:ze0 [.lst (ts.map tmW)]=some (.tup (ts.map tmW),false):=rfl;unfold zqo;simp! [t1,c1,ot]
end L2
namespace L2
open PySem PySem.Spec PyProof.Rows
theorem zme {c:Nat}:∀{ts:List Str},(∀t∈ts,t.length<=c)->piled ts<=(c+2) * ts.length
  | [],_=>by rw [piled_nil];omega
  | t::ts,h=>by
    have h1:=h t (List.mem_cons_self ..);have h2:=zme (c:=c) (ts:=ts) fun x hx=>h x (List.mem_cons_of_mem _ hx);rw [piled_cons,List.length_cons,Nat.mul_succ];omega
theorem zfw {c:Nat}{ts:List Str} (h:∀t∈ts,t.length<=c):(tupleText ts).length<=(c+2) * ts.length+3:=by
 have hp:=zme h;have hj:(Str.join ", " ts).length<=piled ts:=by
  cases ts with
  | nil=>exact Nat.zero_le _
  | cons x xs=>have:=join_length_add (x::xs) (by simp);omega
 unfold tupleText;rw [Str.length_append,Str.length_append];have a:(Str.ofString "(").length=1:=by decide
 have b:(Str.ofString (if (ts.length == 1)=true then ",)" else ")")).length<=2:=by
  split
  ·decide
  ·decide
 omega
theorem zck {α:Type} (f:α->PyData):∀l:List α,PyData.shownAll (l.map f)=l.map fun x=>(f x).shown
 | []=>rfl
 | x::l=>by rw [List.map_cons,PyData.shownAll,zck f l];rfl
theorem zc9 {α:Type} (f:α->PyData):∀l:List α,(∀x∈l,(f x).showable=true)->PyData.showableAll (l.map f)=true
 | [],_=>rfl
 | x::l,h=>by rw [List.map_cons,PyData.showableAll,h x (List.mem_cons_self ..),zc9 f l fun y hy=>h y (List.mem_cons_of_mem _ hy)];rfl
theorem zc8 {α:Type} (f:α->PyData):∀l:List α,(∀x∈l,(f x).hasDict=false)->PyData.hasDictAll (l.map f)=false
 | [],_=>rfl
 | x::l,h=>by rw [List.map_cons,PyData.hasDictAll,h x (List.mem_cons_self ..),zc8 f l fun y hy=>h y (List.mem_cons_of_mem _ hy)];rfl
theorem depAll_map {α:Type}{c:Nat} (f:α->PyData):∀l:List α,(∀x∈l,(f x).depth<=c)->PyData.depthAll (l.map f)<=c
  | [],_=>Nat.zero_le _
  | x::l,h=>by
    rw [List.map_cons,PyData.depthAll];have:=h x (List.mem_cons_self ..);have:=depAll_map f l fun y hy=>h y (List.mem_cons_of_mem _ hy);omega
theorem zdv {α:Type} (f:α->PyData):∀l:List α,(∀x∈l,(f x).canLay0=true)->PyData.canLayAll0 (l.map f)=true
 | [],_=>rfl
 | x::l,h=>by rw [List.map_cons,PyData.canLayAll0,h x (List.mem_cons_self ..),zdv f l fun y hy=>h y (List.mem_cons_of_mem _ hy)];rfl
theorem zka {α:Type} (f:α->W) (g:α->PyData) (h:∀x,dW (f x)=some (g x)):∀l:List α,dWs (l.map f)=some (l.map g)
 | []=>rfl
 | x::l=>by rw [List.map_cons,dWs,h x,zka f g h l];rfl
noncomputable def zi3 (n:Int):Prop:=n.natAbs.log2 < 1920
noncomputable def ndI (ns:List Int):PyData:=.tuple (ns.map .int)
theorem zg2 (ns:List Int):dW (.tup (ns.map W.int))=some (ndI ns):=by
 rw [dW,zka W.int .int (fun _=>by rw [dW]) ns];rfl
theorem ndI_ok {ns:List Int} (h:∀n∈ns,zi3 n):(ndI ns).showable=true/\(ndI ns).hasDict=false/\(ndI ns).depth<=1/\(ndI ns).canLay0=true/\(ndI ns).shown.length<=1923 * ns.length+3:=by
 refine ⟨?_,?_,?_,?_,?_⟩
 ·unfold ndI;rw [PyData.showable];exact zc9 _ _ fun n hn=>by rw [PyData.showable];exact decide_eq_true (h n hn)
 ·unfold ndI;rw [PyData.hasDict];exact zc8 _ _ fun n hn=>by rw [PyData.hasDict]
 ·unfold ndI; rw [PyData.depth]; have := depAll_map (c := 0) PyData.int ns fun n hn => by rw [PyData.depth]; exact Nat.le_refl _
  omega
 ·unfold ndI;rw [PyData.canLay0];exact zdv _ _ fun n hn=>by rw [PyData.canLay0]
 ·unfold ndI;rw [PyData.shown,zck];have:=zfw (c:=1921) (ts:=ns.map fun x=>(PyData.int x).shown) fun t ht=>by
   obtain ⟨n,hn,rfl⟩:=List.mem_map.mp ht;rw [PyData.shown];exact int_text_len_1921 (h n hn)
  rw [List.length_map] at this;exact this
noncomputable def ndR (rs:List (List Int)):PyData:=.tuple (rs.map ndI)
noncomputable def zjl (rs:List (List Int)):W:=.tup (rs.map fun ns=>.tup (ns.map W.int))
theorem zsd (rs:List (List Int)):dW (zjl rs)=some (ndR rs):=by
 unfold zjl;rw [dW,zka (fun ns:List Int=>W.tup (ns.map W.int)) ndI zg2 rs];rfl
theorem zwn {rs:List (List Int)} (h:∀ns∈rs,ns.length<=64/\∀n∈ns,zi3 n):(ndR rs).showable=true/\(ndR rs).hasDict=false/\(ndR rs).depth<=2/\(ndR rs).canLay0=true/\(ndR rs).shown.length<=123077 * rs.length+3:=by
 refine ⟨?_,?_,?_,?_,?_⟩
 ·unfold ndR;rw [PyData.showable];exact zc9 _ _ fun n hn=>(ndI_ok (h n hn).2).1
 ·unfold ndR;rw [PyData.hasDict];exact zc8 _ _ fun n hn=>(ndI_ok (h n hn).2).2.1
 ·unfold ndR; rw [PyData.depth]; have := depAll_map (c := 1) ndI rs fun n hn => (ndI_ok (h n hn).2).2.2.1;omega
 ·unfold ndR;rw [PyData.canLay0];exact zdv _ _ fun n hn=>(ndI_ok (h n hn).2).2.2.2.1
 ·unfold ndR;rw [PyData.shown,zck];have:=zfw (c:=123075) (ts:=rs.map fun x=>(ndI x).shown) fun t ht=>by
   obtain ⟨n,hn,rfl⟩:=List.mem_map.mp ht;have a:=(ndI_ok (h n hn).2).2.2.2.2;have b:=(h n hn).1;omega
  rw [List.length_map] at this;exact this
theorem zo3 {rs:List (List Int)} (h:∀ns∈rs,ns.length<=64/\∀n∈ns,zi3 n) (hl:rs.length<=64):∃s,zlg [zjl rs]=some (.str s,false):=by
 obtain ⟨h1,h2,h3,_,h4⟩:=zwn h;refine ⟨(ndR rs).shown,?_⟩;show (dW (zjl rs)).bind _=_;rw [zsd];show (if okD (ndR rs) then _ else none)=_;have ok:okD (ndR rs)=true:=by
  unfold okD;rw [h1,h2,decide_eq_true (by omega),decide_eq_true (by rw [sizeLine_eq];omega)];rfl
 rw [if_pos ok]
theorem zta {n:Int}{k:Nat} (h:n.natAbs < 2 ^ k) (hk:k<=1919):zi3 n:=by
 unfold zi3;by_cases z:n.natAbs=0
 ·rw [z];decide
 ·have := (Nat.log2_lt z).mpr h;omega
end L2
namespace L2
open PySem PySem.Spec PyProof.Rows
end L2
namespace L2
open PySem PySem.Spec PyProof.Rows
end L2
namespace L2
open PySem PySem.Spec PyProof.Rows
theorem seq_e {a b:GS}{en e1:En}{r:Option (En × Fl)} (h1:a en=some (e1,.nx)) (h2:b e1=r):gSeq a b en=r:=(seq_nx h1).trans h2
end L2
namespace L2
open PySem PySem.Spec PyProof.Rows
end L2
namespace L2
open PySem PySem.Spec PyProof.Rows
end L2
namespace L2
open PySem PySem.Spec PyProof.Rows
end L2
namespace L2
open PySem PySem.Spec PyProof.Rows
end L2
namespace L2
open PySem PySem.Spec PyProof.Rows
end L2
namespace L2
open PySem PySem.Spec PyProof.Rows
end L2
namespace L2
open PySem PySem.Spec PyProof.Rows
section
variable {en:En}{P Q:W->Prop}
end
noncomputable def isI:W->Option Int
 | .int i=>some i
 | _=>none
noncomputable def zf1:W->Bool
 | .int _=>true
 | _=>false
theorem znc:∀{ws:List W},ws.all zf1=true->∃as:List Int,ws=as.map W.int
  | [],_=>⟨[],rfl⟩
  | w::ws,h=>by
    rw [List.all_cons,Bool.and_eq_true] at h;obtain ⟨as,rfl⟩:=znc h.2;cases w with
    | int i=>exact ⟨i::as,rfl⟩
    | _=>exact absurd h.1 Bool.false_ne_true
end L2
set_option maxHeartbeats 2000000
namespace L2
open PySem PySem.Spec PyProof.Rows
section
variable {κ:Type} [DecidableEq κ] {f:κ->DKey}
end
end L2
namespace L2
open PySem PySem.Spec PyProof.Rows
noncomputable def tp (w:Nat):Nat:=w.log2
end L2
namespace My
open PySem PySem.Spec PyProof.Rows L2
noncomputable def top (i:Nat):Stmt:=PySem.Challenge.pw_yesnowords_k70_polynomials_written_and_r.main.body.getD i (.Pass ⟨0,0,0,0⟩)
noncomputable def zc2:Fd:=⟨"is_whole",["thing"],["thing"],[false],top 1⟩
noncomputable def zcf:Fd:=⟨"term_text",["term"],["term"],[false],top 4⟩
noncomputable def zb5:Fd:=⟨"poly_text",["poly"],["poly"],[false],top 5⟩
noncomputable def zgz:Fd:=⟨"rises",["things"],["things"],[false],top 10⟩
noncomputable def zbi:Fd:=⟨"term_order",["term"],["term"],[false],top 11⟩
noncomputable def zdf:Fd:=⟨"is_term",["many","thing"],["many","thing"],[false,false],top 12⟩
noncomputable def zdk:Fd:=⟨"is_poly",["many","thing"],["many","thing"],[false,false],top 13⟩
noncomputable def zb6:Fd:=⟨"term_read",["text"],["text"],[false],top 15⟩
noncomputable def zcd:Fd:=⟨"poly_read",["text"],["text"],[false],top 16⟩
noncomputable def zb8:Fd:=⟨"read_poly",["many","text"],["many","text","poly"],[false,false],top 17⟩
noncomputable def zce:Fd:=⟨"_law_hand",["_law_script"],["_law_script","_law_state","_law_weighs","_law_cell","_law_k","_law_one"],[false],top 19⟩
noncomputable def zb3:Fd:=⟨"_law_take",["_law_state","_law_count"],["_law_state","_law_count","_law_digit","_law_mixed"],[true,false],top 20⟩
noncomputable def zbz:Fd:=⟨"_law_bits",["_law_state","_law_count"],["_law_state","_law_count","_law_way","_law_found","_law_k","_law_one"],[true,false],top 21⟩
noncomputable def zbn:Fd:=⟨"_law_terms",["_law_many","_law_most"],["_law_many","_law_most","_law_found","_law_letter"],[false,false],top 22⟩
noncomputable def zb7:Fd:=⟨"_law_poly",["_law_state","_law_many","_law_most"],["_law_state","_law_many","_law_most","_law_some"],[true,false,false],top 23⟩
noncomputable def zas:Fd:=⟨"_law_poly_text",["_law_poly_here"],["_law_poly_here"],[false],top 24⟩
noncomputable def zkb:Fd:=⟨"law",["_law_script"],["_law_script","_law_state","_law_k","_law_many","_law_poly_here","_law_text","_law_again"],[false],top 25⟩
noncomputable def T:List Fd:=[zc2,zcf,zb5,zgz,zbi,zdf,zdk,zb6,zcd,zb8,zce,zb3,zbz,zbn,zb7,zas,zkb]
noncomputable def bn:List Str:=["abs","all","bool","enumerate","g SIGNS","int","isinstance","len","lt","max","min","r poly","range","repr","reversed","sorted","str","t _law_text","t poly_text","t text","t thing","tuple","zip"]
noncomputable def zd4 (Ψ:Str->Fn):GS:=(gRet (gAnd (gOp1 (oIsi .int) (zaa 0)) (gNot (gOp1 (oIsi .bool) (zaa 0)))))
theorem zof (Ψ:Str->Fn) (d:Nat):zax T bn Ψ (d+2) zc2=some (zd4 Ψ):=by kernel_rfl
theorem znw:T.find? (·.nm == ("is_whole" : Str))=some zc2:=by kernel_rfl
theorem zn7 (d:Nat):sem T bn (d+3) "is_whole" = zai [false] 1 (zd4 (sem T bn (d+2))):=zcm znw (zof _ d)
noncomputable def zeb (Ψ:Str->Fn):GE:=zbe [none,none] (.nm 1) (zda (gVar 0)) gYes (gOp2 oIxS (gArg (gC sgW)) (zaa 1))
noncomputable def zb4 (Ψ:Str->Fn):GS:=(gRet (gIf (zah (gOp2 oEq (zaa 0) (gArg (zbo gA0)))) (gC (.str "1")) (zex "" (zeb Ψ))))
theorem zk7 (Ψ:Str->Fn) (d:Nat):zax T bn Ψ (d+2) zcf=some (zb4 Ψ):=by kernel_rfl
theorem zls:T.find? (·.nm == ("term_text" : Str))=some zcf:=by kernel_rfl
theorem zkg (d:Nat):sem T bn (d+3) "term_text" = zai [false] 1 (zb4 (sem T bn (d+2))):=zcm zls (zk7 _ d)
noncomputable def zcs (Ψ:Str->Fn):GE:=zbe [none,none] (.nm 1) (zx7 (gVar 0)) gYes (zae [false] (Ψ "term_text") (gCns (gArg (gVar 1)) gA0))
noncomputable def zb9 (Ψ:Str->Fn):GS:=(gRet (gIf (zah (gOp2 oEq (zaa 0) (gArg (zbo gA0)))) (gC (.str "0")) (zex " + " (zcs Ψ))))
theorem zlw (Ψ:Str->Fn) (d:Nat):zax T bn Ψ (d+2) zb5=some (zb9 Ψ):=by kernel_rfl
theorem zk8:T.find? (·.nm == ("poly_text" : Str))=some zb5:=by kernel_rfl
theorem zk0 (d:Nat):sem T bn (d+3) "poly_text" = zai [false] 1 (zb9 (sem T bn (d+2))):=zcm zk8 (zlw _ d)
noncomputable def zg3 (Ψ:Str->Fn):GE:=zbe [none,none,some 0] (.nm 1) (zc7 (gCns (gArg (gOp2 (oI yes2 fun i j=>.int (i - j)) (gArg (gOpN oLen (gCns (zaa 0) gA0))) (gArg (gC (.int 1))))) gA0)) gYes (gOp2 oLtX (gArg (gOp2 oIx (zaa 2) (zaa 1))) (gArg (gOp2 oIx (zaa 2) (gArg (gOp2 oAdd (zaa 1) (gArg (gC (.int 1))))))))
noncomputable def zgh (Ψ:Str->Fn):GS:=(gRet (gOpN (oBl fun bs=>bs.all id) (gCns (gArg (zg3 Ψ)) gA0)))
theorem zxg (Ψ:Str->Fn) (d:Nat):zax T bn Ψ (d+2) zgz=some (zgh Ψ):=by kernel_rfl
theorem zzg:T.find? (·.nm == ("rises" : Str))=some zgz:=by kernel_rfl
theorem zw5 (d:Nat):sem T bn (d+3) "rises" = zai [false] 1 (zgh (sem T bn (d+2))):=zcm zzg (zxg _ d)
noncomputable def zbj (Ψ:Str->Fn):GS:=(gRet (zbo (gCns (gArg (gOpN oLen (gCns (zaa 0) gA0))) (gCns (gArg (gVar 0)) gA0))))
theorem zje (Ψ:Str->Fn) (d:Nat):zax T bn Ψ (d+2) zbi=some (zbj Ψ):=by kernel_rfl
theorem zig:T.find? (·.nm == ("term_order" : Str))=some zbi:=by kernel_rfl
theorem zi0 (d:Nat):sem T bn (d+3) "term_order" = zai [false] 1 (zbj (sem T bn (d+2))):=zcm zig (zje _ d)
noncomputable def zd0 (Ψ:Str->Fn):GE:=zbe [none,none,some 0] (.nm 1) (zob (gVar 1)) gYes (gAnd (zae [false] (Ψ "is_whole") (gCns (gArg (gVar 1)) gA0)) (zh2 (oI yes2 fun i j=>.bl (decide (i<=j))) (oI yes2 fun i j=>.bl (decide (i < j))) (gArg (gC (.int 0))) (zaa 1) (zaa 2)))
noncomputable def zco (Ψ:Str->Fn):GS:=(gSeq (gIfS (zlt (zah (gOp1 (oIsi .tuple) (zaa 1)))) (gRet (gC (.bl false))) zci) (gRet (gAnd (gOpN (oBl fun bs=>bs.all id) (gCns (gArg (zd0 Ψ)) gA0)) (zae [false] (Ψ "rises") (gCns (gArg (gVar 1)) gA0)))))
theorem zpn (Ψ:Str->Fn) (d:Nat):zax T bn Ψ (d+2) zdf=some (zco Ψ):=by kernel_rfl
theorem zor:T.find? (·.nm == ("is_term" : Str))=some zdf:=by kernel_rfl
theorem zpw (d:Nat):sem T bn (d+3) "is_term" = zai [false,false] 2 (zco (sem T bn (d+2))):=zcm zor (zpn _ d)
noncomputable def zd3 (Ψ:Str->Fn):GE:=zbe [none,none,some 0] (.nm 1) (zob (gVar 1)) gYes (zae [false,false] (Ψ "is_term") (gCns (gArg (gVar 2)) (gCns (gArg (gVar 1)) gA0)))
noncomputable def zdw (Ψ:Str->Fn):GE:=zbe [none,none] (.nm 1) (zob (gVar 1)) gYes (zae [false] (Ψ "term_order") (gCns (gArg (gVar 1)) gA0))
noncomputable def zcr (Ψ:Str->Fn):GS:=(gSeq (gIfS (gOrT (zlt (zah (gOp1 (oIsi .tuple) (zaa 1)))) (zlt (zah (gOpN (oBl fun bs=>bs.all id) (gCns (gArg (zd3 Ψ)) gA0))))) (gRet (gC (.bl false))) zci) (gRet (zae [false] (Ψ "rises") (gCns (gArg (zdw Ψ)) gA0))))
theorem zo5 (Ψ:Str->Fn) (d:Nat):zax T bn Ψ (d+2) zdk=some (zcr Ψ):=by kernel_rfl
theorem zra:T.find? (·.nm == ("is_poly" : Str))=some zdk:=by kernel_rfl
theorem zpx (d:Nat):sem T bn (d+3) "is_poly" = zai [false,false] 2 (zcr (sem T bn (d+2))):=zcm zra (zo5 _ d)
noncomputable def zcv (Ψ:Str->Fn):GE:=zbe [none,none] (.nm 1) (zob (gVar 0)) gYes (zxe "abcdef" (gVar 1))
noncomputable def zb1 (Ψ:Str->Fn):GS:=(gRet (gIf (zah (gOp2 oEq (zaa 0) (gArg (gC (.str "1"))))) (zbo gA0) (gOpN ze0 (gCns (gArg (zcv Ψ)) gA0))))
theorem zkx (Ψ:Str->Fn) (d:Nat):zax T bn Ψ (d+2) zb6=some (zb1 Ψ):=by kernel_rfl
theorem zkn:T.find? (·.nm == ("term_read" : Str))=some zb6:=by kernel_rfl
theorem zk6 (d:Nat):sem T bn (d+3) "term_read" = zai [false] 1 (zb1 (sem T bn (d+2))):=zcm zkn (zkx _ d)
noncomputable def zcq (Ψ:Str->Fn):GE:=zbe [none,none] (.nm 1) (gRev (zmh " + " (gVar 0))) gYes (zae [false] (Ψ "term_read") (gCns (gArg (gVar 1)) gA0))
noncomputable def zcc (Ψ:Str->Fn):GS:=(gRet (gIf (zah (gOp2 oEq (zaa 0) (gArg (gC (.str "0"))))) (zbo gA0) (gOpN ze0 (gCns (gArg (zcq Ψ)) gA0))))
theorem zk4 (Ψ:Str->Fn) (d:Nat):zax T bn Ψ (d+2) zcd=some (zcc Ψ):=by kernel_rfl
theorem zl0:T.find? (·.nm == ("poly_read" : Str))=some zcd:=by kernel_rfl
theorem zj6 (d:Nat):sem T bn (d+3) "poly_read" = zai [false] 1 (zcc (sem T bn (d+2))):=zcm zl0 (zk4 _ d)
noncomputable def zb2 (Ψ:Str->Fn):GS:=(gSeq (gIfS (zah (gOp1 (oIsi .str) (zaa 1))) (gSeq (gSet [] 2 (zae [false] (Ψ "poly_read") (gCns (gArg (gVar 1)) gA0))) (gIfS (zfe (zah (zae [false,false] (Ψ "is_poly") (gCns (gArg (gVar 0)) (gCns (gArg (gVar 2)) gA0)))) (zah (gOp2 oEq (gArg (zae [false] (Ψ "poly_text") (gCns (gArg (gVar 2)) gA0))) (zaa 1)))) (zeh [] 2) zci)) zci) znb)
theorem zle (Ψ:Str->Fn) (d:Nat):zax T bn Ψ (d+2) zb8=some (zb2 Ψ):=by kernel_rfl
theorem zlv:T.find? (·.nm == ("read_poly" : Str))=some zb8:=by kernel_rfl
theorem zla (d:Nat):sem T bn (d+3) "read_poly" = zai [false,false] 3 (zb2 (sem T bn (d+2))):=zcm zlv (zle _ d)
noncomputable def zh3 (Ψ:Str->Fn):GS:=(gSeq (zay 1 (gC (.int 0)) (gOp2 oAdd (gArg (gOp2 oIx (zaa 1) (gArg (gC (.int 0))))) (gArg (gOp2 oMult (gArg (gOp2 (oI (fun _ j=>decide (0 < j)) fun i j=>.int (i % j)) (gArg (gOpN oAbs (gCns (zaa 3) gA0))) (gArg (gOp2 (oI cPow fun i j=>.int (i ^ j.toNat)) (gArg (gC (.int 10))) (gArg (gC (.int 60))))))) (zaa 2))))) (gSet [] 2 (gOp2 oMult (zaa 2) (gArg (gOp2 (oI cPow fun i j=>.int (i ^ j.toNat)) (gArg (gC (.int 10))) (gArg (gC (.int 60))))))))
noncomputable def zh7 (Ψ:Str->Fn):GS:=gFor [] (.nm 3) (zda (gSl (zaa 0) zbp (zdr (gC (.int 63))))) (zh3 Ψ)
noncomputable def zif (Ψ:Str->Fn):GS:=(gSeq (gSet [] 5 (gOp2 oAdd (gArg (gOp2 oAdd (gArg (gOp2 (oI (fun _ j=>decide (0 < j)) fun i j=>.int (i % j)) (zaa 3) (gArg (gC (.int 2305843009213693951))))) (gArg (gOp2 oMult (gArg (gC (.int 7919))) (zaa 4))))) (gArg (gC (.int 3))))) (zay 1 (gC (.int 1)) (gOp2 (oI (fun _ j=>decide (0 < j)) fun i j=>.int (i % j)) (gArg (gOp2 oAdd (gArg (gOp2 oMult (gArg (gOp2 oIx (zaa 1) (gArg (gC (.int 1))))) (gArg (gC (.int 48271))))) (zaa 5))) (gArg (gC (.int 2305843009213693951))))))
noncomputable def zj2 (Ψ:Str->Fn):GS:=gFor [] (.tp [4,3]) (zn9 (gSl (zaa 0) zbp (zdr (gC (.int 63))))) (zif Ψ)
noncomputable def zfi (Ψ:Str->Fn):GS:=(gSeq (gSet [] 1 (za9 (gCns (gArg (gC (.int 0))) (gCns (gArg (gC (.int 0))) (gCns (gArg (gC (.int 0))) gA0))))) (gSeq (gIfS (zfe (zah (gOp2 (oI yes2 fun i j=>.bl (decide (j < i))) (gArg (gOpN oLen (gCns (zaa 0) gA0))) (gArg (gC (.int 0))))) (zah (gOp2 (oI yes2 fun i j=>.bl (decide (j<=i))) (gArg (gOp2 oIx (zaa 0) (gArg (gC (.int 0))))) (gArg (gOp2 (oI cPow fun i j=>.int (i ^ j.toNat)) (gArg (gC (.int 10))) (gArg (gC (.int 18)))))))) (gSeq (gSet [] 2 (gC (.int 1))) (zh7 Ψ)) zci) (gSeq (zj2 Ψ) (zeh [] 1))))
theorem zli (Ψ:Str->Fn) (d:Nat):zax T bn Ψ (d+2) zce=some (zfi Ψ):=by kernel_rfl
theorem zkc:T.find? (·.nm == ("_law_hand" : Str))=some zce:=by kernel_rfl
theorem zkh (d:Nat):sem T bn (d+3) "_law_hand" = zai [false] 6 (zfi (sem T bn (d+2))):=zcm zkc (zli _ d)
noncomputable def zfh (Ψ:Str->Fn):GS:=(gSeq (gIfS (zah (gOp2 (oI yes2 fun i j=>.bl (decide (j < i))) (gArg (gOp2 oIx (zaa 0) (gArg (gC (.int 0))))) (gArg (gC (.int 0))))) (gSeq (gSet [0] 2 (gOp2 (oI (fun _ j=>decide (0 < j)) fun i j=>.int (i % j)) (gArg (gOp2 oIx (zaa 0) (gArg (gC (.int 0))))) (zaa 1))) (gSeq (zay 0 (gC (.int 0)) (gOp2 (oI cDiv fun i j=>.int (i / j)) (gArg (gOp2 oIx (zaa 0) (gArg (gC (.int 0))))) (zaa 1))) (zeh [0] 2))) zci) (gSeq (zay 0 (gC (.int 2)) (gOp2 oAdd (gArg (gOp2 oIx (zaa 0) (gArg (gC (.int 2))))) (gArg (gC (.int 1))))) (gSeq (gSet [0] 3 (gOp2 (oI (fun _ j=>decide (0 < j)) fun i j=>.int (i % j)) (gArg (gOp2 oMult (gArg (gOp2 oAdd (gArg (gOp2 oAdd (gArg (gOp2 oIx (zaa 0) (gArg (gC (.int 1))))) (gArg (gOp2 oMult (gArg (gOp2 oMult (gArg (gC (.int 65537))) (gArg (gOp2 oIx (zaa 0) (gArg (gC (.int 2))))))) (gArg (gOp2 oIx (zaa 0) (gArg (gC (.int 2))))))))) (gArg (gC (.int 11))))) (gArg (gC (.int 48271))))) (gArg (gC (.int 2305843009213693921))))) (gSeq (gSet [0] 3 (gOp2 (oI (fun _ j=>decide (0 < j)) fun i j=>.int (i % j)) (gArg (gOp2 oMult (zaa 3) (gArg (gOp2 oAdd (gArg (gOp2 (oI (fun _ j=>decide (0 < j)) fun i j=>.int (i % j)) (zaa 3) (gArg (gC (.int 1000003))))) (gArg (gOp2 oMult (gArg (gC (.int 99991))) (gArg (gOp2 oIx (zaa 0) (gArg (gC (.int 2))))))))))) (gArg (gC (.int 2305843009213693907))))) (gRet (gOp2 (oI (fun _ j=>decide (0 < j)) fun i j=>.int (i % j)) (gArg (gOp2 oAdd (gArg (gOp2 (oI cDiv fun i j=>.int (i / j)) (zaa 3) (gArg (gC (.int 97))))) (gArg (gOp2 (oI cDiv fun i j=>.int (i / j)) (zaa 3) (gArg (gC (.int 1000033))))))) (zaa 1)))))))
theorem zlj (Ψ:Str->Fn) (d:Nat):zax T bn Ψ (d+2) zb3=some (zfh Ψ):=by kernel_rfl
theorem zkw:T.find? (·.nm == ("_law_take" : Str))=some zb3:=by kernel_rfl
theorem zew (d:Nat):sem T bn (d+3) "_law_take" = zai [true,false] 4 (zfh (sem T bn (d+2))):=zcm zkw (zlj _ d)
noncomputable def zjp (Ψ:Str->Fn):GS:=(gSeq (gSet [0] 5 (zae [true,false] (Ψ "_law_take") (gCns (zaa 0) (gCns (gArg (gOp2 oIx (gArg (za9 (gCns (gArg (gC (.int 2))) (gCns (gArg (gC (.int 5))) (gCns (gArg (gC (.int 5))) gA0))))) (zaa 2))) gA0)))) (ze7 (gApp 3 (gOp2 oIx (gArg (za9 (gCns (gArg (gVar 5)) (gCns (gArg (gOpN oInt (gCns (gArg (gOp2 oEq (zaa 5) (gArg (gC (.int 0))))) gA0))) (gCns (gArg (gOpN oInt (gCns (gArg (gOp2 (oI yes2 fun i j=>.bl (decide (j < i))) (zaa 5) (gArg (gC (.int 0))))) gA0))) gA0))))) (zaa 2)))))
noncomputable def zjn (Ψ:Str->Fn):GS:=gFor [0] (.nm 4) (zc7 (gCns (zaa 1) gA0)) (zjp Ψ)
noncomputable def zfd (Ψ:Str->Fn):GS:=(gSeq (gSet [0] 2 (zae [true,false] (Ψ "_law_take") (gCns (zaa 0) (gCns (gArg (gC (.int 4))) gA0)))) (gSeq (gIfS (zah (gOp2 oEq (zaa 2) (gArg (gC (.int 3))))) (gRet (gOp2 oMult (gArg (za9 (gCns (gArg (zae [true,false] (Ψ "_law_take") (gCns (zaa 0) (gCns (gArg (gC (.int 2))) gA0)))) gA0))) (zaa 1))) zci) (gSeq (gSet [0] 3 (za9 gA0)) (gSeq (zjn Ψ) (zeh [0] 3)))))
theorem zly (Ψ:Str->Fn) (d:Nat):zax T bn Ψ (d+2) zbz=some (zfd Ψ):=by kernel_rfl
theorem zkv:T.find? (·.nm == ("_law_bits" : Str))=some zbz:=by kernel_rfl
theorem zkk (d:Nat):sem T bn (d+3) "_law_bits" = zai [true,false] 6 (zfd (sem T bn (d+2))):=zcm zkv (zly _ d)
noncomputable def zg5 (Ψ:Str->Fn):GE:=zbe [none,none,some 3] (.nm 1) (zda (gVar 2)) gYes (gOp2 oAdd (zaa 1) (gArg (zbo (gCns (gArg (gVar 2)) gA0))))
noncomputable def zg1 (Ψ:Str->Fn):GS:=(gSet [] 2 (gOp2 oAdd (zaa 2) (gArg (zg5 Ψ))))
noncomputable def zg7 (Ψ:Str->Fn):GS:=gFor [] (.nm 3) (zc7 (gCns (zaa 0) gA0)) (zg1 Ψ)
noncomputable def zhc (Ψ:Str->Fn):GE:=zbe [none,none,some 1] (.nm 1) (zda (gVar 2)) (zah (gOp2 (oI yes2 fun i j=>.bl (decide (i<=j))) (gArg (gOpN oLen (gCns (zaa 1) gA0))) (zaa 2))) (gVar 1)
noncomputable def zec (Ψ:Str->Fn):GS:=(gSeq (gSet [] 2 (za9 (gCns (gArg (zbo gA0)) gA0))) (gSeq (zg7 Ψ) (gRet (zpa (zbo (gCns (gArg (gOpN oLen (gCns (zaa 0) gA0))) (gCns (gArg (gVar 0)) gA0))) (gArg (zhc Ψ))))))
theorem zis (Ψ:Str->Fn) (d:Nat):zax T bn Ψ (d+2) zbn=some (zec Ψ):=by kernel_rfl
theorem zi7:T.find? (·.nm == ("_law_terms" : Str))=some zbn:=by kernel_rfl
theorem ziz (d:Nat):sem T bn (d+3) "_law_terms" = zai [false,false] 4 (zec (sem T bn (d+2))):=zcm zi7 (zis _ d)
noncomputable def zjq (Ψ:Str->Fn):GE:=zbe [none,none,none] (.tp [1,2]) (gZip (gVar 3) (zae [true,false] (Ψ "_law_bits") (gCns (zaa 0) (gCns (gArg (gOpN oLen (gCns (zaa 3) gA0))) gA0)))) (zah (gOp2 oEq (zaa 2) (gArg (gC (.int 1))))) (gVar 1)
noncomputable def ze4 (Ψ:Str->Fn):GS:=(gSeq (gSet [0] 3 (zae [false,false] (Ψ "_law_terms") (gCns (gArg (gVar 1)) (gCns (gArg (gVar 2)) gA0)))) (gRet (gOpN ze0 (gCns (gArg (zjq Ψ)) gA0))))
theorem zlp (Ψ:Str->Fn) (d:Nat):zax T bn Ψ (d+2) zb7=some (ze4 Ψ):=by kernel_rfl
theorem zk1:T.find? (·.nm == ("_law_poly" : Str))=some zb7:=by kernel_rfl
theorem zkt (d:Nat):sem T bn (d+3) "_law_poly" = zai [true,false,false] 4 (ze4 (sem T bn (d+2))):=zcm zk1 (zlp _ d)
noncomputable def zbx (Ψ:Str->Fn):GE:=zbe [none,none] (.nm 1) (zda (gVar 1)) gYes (gOp2 oIxS (gArg (gC (.str "abcdef"))) (zaa 1))
noncomputable def za3 (Ψ:Str->Fn):GE:=zbe [none,none] (.nm 1) (zda (znh (zaa 0) (zdr (gOp1 oNeg (gArg (gC (.int 1))))))) gYes (gOrS (zex "" (zbx Ψ)) (gC (.str "1")))
noncomputable def zar (Ψ:Str->Fn):GS:=(gSeq (gIfS (zah (gOp2 oEq (zaa 0) (gArg (zbo gA0)))) (gRet (gC (.str "0"))) zci) (gRet (zex " + " (za3 Ψ))))
theorem zee (Ψ:Str->Fn) (d:Nat):zax T bn Ψ (d+2) zas=some (zar Ψ):=by kernel_rfl
theorem zek:T.find? (·.nm == ("_law_poly_text" : Str))=some zas:=by kernel_rfl
theorem zeg (d:Nat):sem T bn (d+3) "_law_poly_text" = zai [false] 1 (zar (sem T bn (d+2))):=zcm zek (zee _ d)
noncomputable def zl8 (Ψ:Str->Fn):GS:=(gIfS (gOrT (zah (gOp2 oNe (gArg (gOpN zf9 (gCns (gArg (zae [false] (Ψ "poly_text") (gCns (gArg (gVar 4)) gA0))) gA0))) (gArg (gOpN zf9 (gCns (zaa 5) gA0))))) (zah (gOp2 oNe (gArg (gOpN zlg (gCns (gArg (zae [false,false] (Ψ "read_poly") (gCns (gArg (gVar 3)) (gCns (gArg (gVar 5)) gA0)))) gA0))) (gArg (gOpN zlg (gCns (zaa 4) gA0)))))) (gRet (gC (.bl false))) zci)
noncomputable def L1_law (Ψ:Str->Fn):GS:=gFor [] (.nm 6) (zc7 (gCns (gArg (gC (.int 2))) gA0)) (zl8 Ψ)
noncomputable def zl6 (Ψ:Str->Fn):GS:=(gSeq (gSet [] 3 (gOp2 oAdd (gArg (gC (.int 1))) (gArg (zae [true,false] (Ψ "_law_take") (gCns (zaa 1) (gCns (gArg (gC (.int 6))) gA0)))))) (gSeq (gSet [] 4 (zae [true,false,false] (Ψ "_law_poly") (gCns (zaa 1) (gCns (gArg (gVar 3)) (gCns (gArg (zae [true,false] (Ψ "_law_take") (gCns (zaa 1) (gCns (gArg (gOp2 oAdd (zaa 3) (gArg (gC (.int 1))))) gA0)))) gA0))))) (gSeq (gSet [] 5 (zae [false] (Ψ "_law_poly_text") (gCns (gArg (gVar 4)) gA0))) (L1_law Ψ))))
noncomputable def zov (Ψ:Str->Fn):GS:=gFor [] (.nm 2) (zc7 (gCns (gArg (gOpN oMax (gCns (gArg (gC (.int 4))) (gCns (gArg (gOpN oMin (gCns (gArg (gC (.int 16))) (gCns (gArg (gOpN oLen (gCns (zaa 0) gA0))) gA0)))) gA0)))) gA0)) (zl6 Ψ)
noncomputable def zw9 (Ψ:Str->Fn):GS:=(gSeq (gSet [] 1 (zae [false] (Ψ "_law_hand") (gCns (gArg (gVar 0)) gA0))) (gSeq (zov Ψ) (gRet (gAnd (gOp2 oEq (gArg (zae [false] (Ψ "poly_text") (gCns (gArg (zbo (gCns (gArg (zbo (gCns (gArg (gC (.int 2))) gA0))) (gCns (gArg (zbo (gCns (gArg (gC (.int 0))) (gCns (gArg (gC (.int 1))) gA0)))) gA0)))) gA0))) (gArg (gC (.str "ab + c")))) (gAnd (gOp2 oEq (gArg (zae [false] (Ψ "poly_text") (gCns (gArg (zbo (gCns (gArg (zbo gA0)) gA0))) gA0))) (gArg (gC (.str "1")))) (gOp2 oEq (gArg (zae [false,false] (Ψ "read_poly") (gCns (gArg (gC (.int 1))) (gCns (gArg (gC (.str "0"))) gA0)))) (gArg (zbo gA0))))))))
theorem z48 (Ψ:Str->Fn) (d:Nat):zax T bn Ψ (d+2) zkb=some (zw9 Ψ):=by kernel_rfl
theorem z39:T.find? (·.nm == ("law" : Str))=some zkb:=by kernel_rfl
theorem z4k (d:Nat):sem T bn (d+3) "law" = zai [false] 7 (zw9 (sem T bn (d+2))):=zcm z39 (z48 _ d)
theorem seq_e {a b:GS}{en e1:En}{r:Option (En × Fl)} (h1:a en=some (e1,.nx)) (h2:b e1=r):gSeq a b en=r:=(seq_nx h1).trans h2
noncomputable def sep:List Nat:=[32,43,32]
noncomputable def sepJ:List (List Nat)->List Nat
 | []=>[]
 | [p]=>p
 | p::q::r=>p++sep++sepJ (q::r)
noncomputable def cutF:Nat->List (List Nat)->List Nat
 | _,[]=>[]
 | _,[_]=>[]
 | a,p::q::r=>(a+p.length)::cutF (a+p.length+3) (q::r)
noncomputable def zog (s sub:Str) (hi limit:Nat) (st:Array Nat × Nat) (i:Nat):Array Nat × Nat:=if ((st.fst.size < limit/\st.snd<=i)/\i+sub.length<=hi)/\Builtin.Str.subAt s sub i=true then (st.fst.push i,i+sub.length) else st
theorem zgk {s sub:Str}{hi limit:Nat}:∀(l:List Nat) (st:Array Nat × Nat),(forIn l st (StrLaws.occBody s sub hi limit)).run=l.foldl (zog s sub hi limit) st
  | [],st=>rfl
  | a::l,st=>by
    rw [List.forIn_cons,List.foldl_cons];unfold StrLaws.occBody zog;split
    · exact zgk l _
    · exact zgk l _
theorem zdn {s sub:Str}{hi limit:Nat}{st:Array Nat × Nat}:∀(l:List Nat),(∀i∈l,¬ (((st.fst.size < limit/\st.snd<=i)/\i+sub.length<=hi)/\Builtin.Str.subAt s sub i=true))->l.foldl (zog s sub hi limit) st=st
  | [],_=>rfl
  | a::l,h=>by
    rw [List.foldl_cons,show zog s sub hi limit st a=st from if_neg (h a List.mem_cons_self)];exact zdn l fun i hi=>h i (List.mem_cons_of_mem _ hi)
theorem zxd {x:Str}{i:Nat} (h:Builtin.Str.subAt x " + " i=true):x.cps.toList[i]?=some 32:=by
 rw [StrLaws.subAt_eq] at h;have e:(x.cps.toList.drop i).take 3=sep:=eq_of_beq h;have e1:((x.cps.toList.drop i).take 3)[0]?=some 32:=by rw [e];rfl
 rw [List.getElem?_take_of_lt (by decide),List.getElem?_drop] at e1;exact e1
theorem z2l {x:Str}{pre r:List Nat} (h:x.cps.toList=pre++(sep++r)):Builtin.Str.subAt x " + " pre.length=true:=by
 rw [StrLaws.subAt_eq,h,List.drop_left];exact beq_self_eq_true _
theorem zwd {x:Str}{pre p r:List Nat} (h:x.cps.toList=pre++(p++r)) (hp:32 ∉ p) {i:Nat} (h1:pre.length<=i) (h2:i < pre.length+p.length):¬ Builtin.Str.subAt x " + " i=true:=fun q=>by
 have e:=zxd q;rw [h,List.getElem?_append_right h1,List.getElem?_append_left (by omega)] at e;exact hp (List.mem_of_getElem? e)
theorem zj3 {x:Str}{n lim:Nat} (hn:x.length=n) (hlim:n < lim):∀(parts:List (List Nat)) (pre:List Nat) (acc:Array Nat) (f:Nat),parts≠[]->(∀p∈parts,32 ∉ p)->x.cps.toList=pre++sepJ parts->f<=pre.length->acc.size<=pre.length ->
    ((List.range' pre.length (n+1 - pre.length)).foldl (zog x " + " n lim) (acc,f)).fst.toList=acc.toList++cutF pre.length parts
  | [],_,_,_,h,_,_,_,_=>absurd rfl h
  | [p],pre,acc,f,_,hp,hx,hf,ha=>by
    have hl:n=pre.length+p.length:=by rw [<-hn];show x.cps.size=_;rw [<-Array.length_toList,hx,List.length_append];rfl
    rw [zdn]
    · exact (List.append_nil _).symm
    · intro i hi q
      rw [List.mem_range'_1] at hi;have q3:i+3<=n:=q.1.2;exact zwd (r:=[]) (by rw [List.append_nil];exact hx) (hp p List.mem_cons_self) hi.1 (by omega) q.2
  | p::q::r,pre,acc,f,_,hp,hx,hf,ha=>by
    have hx1:x.cps.toList=pre++(p++(sep++sepJ (q::r))):=by rw [hx,sepJ,List.append_assoc]
    have hx2:x.cps.toList=(pre++p)++(sep++sepJ (q::r)):=by rw [hx1,List.append_assoc]
    have hx3:x.cps.toList=(pre++p++sep)++sepJ (q::r):=by rw [hx2,List.append_assoc,List.append_assoc,List.append_assoc]
    have hl:n=pre.length+p.length+3+(sepJ (q::r)).length:=by rw [<-hn];show x.cps.size=_;rw [<-Array.length_toList,hx3,List.length_append,List.length_append,List.length_append];rfl
    have l3:(pre++p++sep).length=pre.length+p.length+3:=by rw [List.length_append,List.length_append];rfl
    have e:List.range' pre.length (n+1 - pre.length)=List.range' pre.length p.length++((pre.length+p.length)::(List.range' (pre.length+p.length+1) 2++List.range' (pre++p++sep).length (n+1 - (pre++p++sep).length))):=by
      rw [l3,show List.range' (pre.length+p.length+1) 2++List.range' (pre.length+p.length+3) (n+1 - (pre.length+p.length+3))=List.range' (pre.length+p.length+1) (2+(n+1 - (pre.length+p.length+3))) from List.range'_append_1,<-List.range'_succ,List.range'_append_1];congr 1;omega
    rw [e,List.foldl_append,zdn (st:=(acc,f)) (List.range' pre.length p.length) fun i hi z=>by
      rw [List.mem_range'_1] at hi;exact zwd hx1 (hp p List.mem_cons_self) hi.1 hi.2 z.2,List.foldl_cons]
    have st:zog x " + " n lim (acc,f) (pre.length+p.length)=(acc.push (pre.length+p.length),pre.length+p.length+3):=by
      have s1:=z2l hx2;rw [List.length_append] at s1;exact if_pos ⟨⟨⟨by show acc.size < lim;omega,by show f<=_;omega⟩,by show pre.length+p.length+3<=n;omega⟩,s1⟩
    rw [st,List.foldl_append,zdn (st:=(acc.push (pre.length+p.length),pre.length+p.length+3)) (List.range' (pre.length+p.length+1) 2) fun i hi z=>by
      rw [List.mem_range'_1] at hi;have:pre.length+p.length+3<=i:=z.1.1.2;omega]
    rw [zj3 hn hlim (q::r) (pre++p++sep) _ _ (List.cons_ne_nil _ _) (fun z hz=>hp z (List.mem_cons_of_mem _ hz)) hx3 (by rw [l3];exact Nat.le_refl _) (by rw [l3,Array.size_push];omega),Array.toList_push,l3,List.append_assoc]
    rfl
noncomputable def mkS (l:List Nat):Str:=⟨l.toArray⟩
theorem zsn {x:Str}{pre p r:List Nat} (h:x.cps.toList=pre++(p++r)):Builtin.Str.strSub x pre.length (pre.length+p.length)=mkS p:=by
 apply Str.ext';apply Array.toList_inj.mp;rw [StrLaws.strSub_toList,h,List.drop_left,Nat.add_sub_cancel_left,List.take_left]
 rfl
theorem zij {x:Str}:∀(parts:List (List Nat)) (pre:List Nat),parts≠[]->x.cps.toList=pre++sepJ parts->StrLaws.partsFrom x 3 pre.length (cutF pre.length parts)=parts.map mkS
  | [],_,h,_=>absurd rfl h
  | [p],pre,_,hx=>by
    have hl:x.length=pre.length+p.length:=by show x.cps.size=_;rw [<-Array.length_toList,hx,List.length_append];rfl
    show [Builtin.Str.strSub x pre.length x.length]=[mkS p];rw [hl,zsn (r:=[]) (by rw [List.append_nil];exact hx)]
  | p::q::r,pre,_,hx=>by
    have hx1:x.cps.toList=pre++(p++(sep++sepJ (q::r))):=by rw [hx,sepJ,List.append_assoc]
    have hx3:x.cps.toList=(pre++p++sep)++sepJ (q::r):=by rw [hx1,List.append_assoc,List.append_assoc]
    have l3:(pre++p++sep).length=pre.length+p.length+3:=by rw [List.length_append,List.length_append];rfl
    show Builtin.Str.strSub x pre.length (pre.length+p.length)::StrLaws.partsFrom x 3 (pre.length+p.length+3) (cutF (pre.length+p.length+3) (q::r))=mkS p::(q::r).map mkS;rw [zsn hx1,<-l3,zij (q::r) _ (List.cons_ne_nil _ _) hx3]
theorem zk2 {parts:List (List Nat)} (hne:parts≠[]) (hp:∀p∈parts,32 ∉ p):Txt.split (mkS (sepJ parts)) " + " = parts.map mkS:=by
  have hx:(mkS (sepJ parts)).cps.toList=[]++sepJ parts:=rfl;have oc:=zj3 (x:=mkS (sepJ parts)) rfl (Nat.lt_succ_self _) parts [] #[] 0 hne hp hx (Nat.le_refl _) (Nat.le_refl _);have o2:Builtin.Str.occurrences (mkS (sepJ parts)) " + " 0 (mkS (sepJ parts)).length ((mkS (sepJ parts)).length+1)=cutF 0 parts:=by
    rw [StrLaws.occ_eq,zgk];exact oc
  have pc:=zij (x:=mkS (sepJ parts)) parts [] hne hx;unfold Txt.split;rw [o2]
  match parts,hne with
  | [p],_ =>
    have e:(cutF 0 [p]).isEmpty=true:=rfl;rw [if_pos e,ite_self]
    rfl
  | p::q::r,_ =>
    have e:(cutF 0 (p::q::r)).isEmpty=false:=rfl;have hl:3<=(mkS (sepJ (p::q::r))).length:=by
      show 3<=((sepJ (p::q::r)).toArray).size;rw [List.size_toArray,sepJ,List.length_append,List.length_append];show 3<=_+3+_;omega
    have k:(decide ((mkS (sepJ (p::q::r))).length < Str.length " + ") || decide (Builtin.Str.strKind (mkS (sepJ (p::q::r))) < Builtin.Str.strKind " + "))=false:=by
      rw [decide_eq_false (by show ¬ _ < 3;omega),Bool.false_or];refine decide_eq_false ?_;rw [show Builtin.Str.strKind " + " = 1 from by decide +kernel];unfold Builtin.Str.strKind;split
      · decide
      · split<;>decide
    rw [k,if_neg Bool.false_ne_true,e,if_neg Bool.false_ne_true,StrLaws.partsBetween_eq];exact pc
noncomputable def one (c:Nat):W:=.str ⟨#[c]⟩
theorem zmu:∀cs:List Nat,zcw (cs.map one)=some (cs.map fun c=>(⟨#[c]⟩ : Str))
  | []=>rfl
  | c::cs=>by
    show (zcw (cs.map one)).bind _=_;rw [zmu cs];rfl
theorem zpt:∀cs:List Nat,((cs.map fun c=>(⟨#[c]⟩ : Str)).map (·.length)).sum=cs.length
  | []=>rfl
  | c::cs=>by
    rw [List.map_cons,List.map_cons,List.sum_cons,zpt cs,List.length_cons];show 1+_=_;omega
theorem z1m {g:GE}{en e1:En}{cs:List Nat}{fl:Bool} (h:g en=some (e1,(.lst (cs.map one),fl))) (hz:cs.length<=1000):zex "" g en=some (e1,(.str ⟨cs.toArray⟩,false)):=by
 unfold zex;rw [h];show (zcw (cs.map one)).bind _=_;rw [zmu];show (if ((cs.map fun c=>(⟨#[c]⟩ : Str)).map (·.length)).sum+(cs.map fun c=>(⟨#[c]⟩ : Str)).length * (Str.length "")<=16777216 then some (e1,(W.str (Txt.join "" (cs.map fun c=>(⟨#[c]⟩ : Str))),false)) else none)=_;rw [zpt,show Str.length "" = 0 from rfl,if_pos (by omega)];have e:Txt.join "" (cs.map fun c=>(⟨#[c]⟩ : Str))=⟨cs.toArray⟩:=(StrLaws.glued_eq_join _ _).trans (join_ones cs);rw [e]
theorem z37 {as bs:List Int} (h:∀n∈as,zi3 n) (h' : ∀n∈bs,zi3 n):oEq (.tup (as.map W.int)) (.tup (bs.map W.int))=some (.bl (decide (as=bs)),false):=by
 obtain ⟨_,_,h3,h5,_⟩:=ndI_ok h;obtain ⟨_,_,_,h5',_⟩:=ndI_ok h';have e:eqD (.tup (as.map W.int)) (.tup (bs.map W.int))=some (decide (as=bs)):=by
  unfold eqD;rw [zg2,zg2];show (if (ndI as).canLay0 && (ndI bs).canLay0 && decide ((ndI as).depth<=100) then some (PyData.eqv (ndI as) (ndI bs)) else none)=_;rw [h5,h5',decide_eq_true (by omega)];show some (PyData.eqv (ndI as) (ndI bs))=_;unfold ndI;rw [PyData.eqv,PySem.W.ked_eqvAll]
 show (eqD _ _).bind _=_;rw [e];rfl
noncomputable def GT (t:List Nat):Prop:=t.length<=6/\∀l∈t,l < 6
noncomputable def teS (t:List Nat):List Nat:=match t with
 | []=>[49]
 | l::t=>(l::t).map (97 + ·)
theorem zhd {t:List Nat} (h:GT t):∀n∈t.map (fun l:Nat=>(l:Int)),zi3 n:=fun n hn=>by
 obtain ⟨l,hl,rfl⟩:=List.mem_map.mp hn;have:=h.2 l hl;exact zta (k:=3) (by omega) (by decide)
theorem zgi (t:List Nat):tmW t=.tup ((t.map fun l:Nat=>(l:Int)).map W.int):=by unfold tmW;rw [List.map_map];rfl
theorem z5c {t:List Nat} (h:GT t):oEq (tmW t) (.tup [])=some (.bl (decide (t=[])),false):=by
 rw [zgi];refine (z37 (bs:=[]) (zhd h) (fun _ h=>nomatch h)).trans ?_;congr 3;exact decide_eq_decide.mpr List.map_eq_nil_iff
theorem z35 {ts:List (List Nat)} (h:∀t∈ts,GT t) (hl:ts.length<=64):oEq (.tup (ts.map tmW)) (.tup [])=some (.bl (decide (ts=[])),false):=by
 have hr:(W.tup (ts.map tmW))=zjl (ts.map fun t=>t.map fun l:Nat=>(l:Int)):=by
  unfold zjl;rw [List.map_map];congr 1;exact List.map_congr_left fun t _=>zgi t
 obtain ⟨h1,h2,h3,h5,h4⟩:=zwn (rs:=ts.map fun t=>t.map fun l:Nat=>(l:Int)) fun ns hn=>by
  obtain ⟨t,ht,rfl⟩:=List.mem_map.mp hn;exact ⟨by rw [List.length_map];have:=(h t ht).1;omega,zhd (h t ht)⟩
 obtain ⟨_,_,_,h5',_⟩:=ndI_ok (ns:=[]) fun _ h=>nomatch h
 have e:eqD (.tup (ts.map tmW)) (.tup [])=some (decide (ts=[])):=by
  unfold eqD;rw [hr,zsd,show dW (.tup [])=some (ndI []) from zg2 []];show (if (ndR _).canLay0 && (ndI []).canLay0 && decide ((ndR _).depth<=100) then some (PyData.eqv (ndR _) (ndI [])) else none)=_;rw [h5,h5',decide_eq_true (by omega)];show some (PyData.eqv (ndR _) (ndI []))=_;unfold ndI ndR;cases ts with
  | nil=>rfl
  | cons t ts=>rfl
 show (eqD _ _).bind _=_;rw [e];rfl
theorem z4u:∀l:Nat,l < 6->oIxS (.str "abcdef") (.int ((l:Nat):Int))=some (one (97+l),false)
 | 0,_=>by kernel_rfl
 | 1,_=>by kernel_rfl
 | 2,_=>by kernel_rfl
 | 3,_=>by kernel_rfl
 | 4,_=>by kernel_rfl
 | 5,_=>by kernel_rfl
 | n+6,h=>absurd h (by omega)
theorem z0c:∀l:Nat,l < 6->Txt.find "abcdef" ⟨#[97+l]⟩=(l:Int)
 | 0,_=>by decide +kernel
 | 1,_=>by decide +kernel
 | 2,_=>by decide +kernel
 | 3,_=>by decide +kernel
 | 4,_=>by decide +kernel
 | 5,_=>by decide +kernel
 | n+6,h=>absurd h (by omega)
theorem zxa (t:List Nat):(t.map fun l=>one (97+l))=(t.map (97 + ·)).map one:=by rw [List.map_map];rfl
noncomputable def z3n (Φ:Fn):Prop:=∀t,GT t->Φ [tmW t]=some ([tmW t],(.str (mkS (teS t)),false))
theorem zwi {t:List Nat}{g:GE}{en e1:En}{fl:Bool} (h:g en=some (e1,(.lst (t.map fun l=>one (97+l)),fl))) (hz:t.length<=6):zex "" g en=some (e1,(.str (mkS (t.map (97 + ·))),false)):=by
 rw [zxa] at h;exact z1m h (by rw [List.length_map];omega)
theorem zwo {t:List Nat} (h:GT t) {a:GA}{en e0:En}{g:GL} (hg:g en=some (e0,t.map fun l=>.int (l:Nat))) (hx:zej [none,none] e0=[none,none]) (hb:∀v0 v1,zaq [none,none] e0 [v0,v1]=e0) (ha:∀v0 w,a [v0,some (w,false)]=some ([v0,some (w,false)],.inl (.str "abcdef"))):zbe [none,none] (.nm 1) g gYes (gOp2 oIxS a (zaa 1)) en=some (e0,(.lst (t.map fun l=>one (97+l)),true)):=by
  refine zd8 (xs:=[]) (e0:=e0) (ws:=t.map fun l=>.int (l:Nat)) hg (by rw [List.length_map];have:=h.1;omega) (by rw [List.length_map,List.length_map]) rfl rfl hx hb fun i v0 w r hw hr=>?_;rw [List.getElem?_map] at hw hr;cases ht:t[i]? with
  | none=>rw [ht] at hw;exact noSome hw
  | some l =>
    rw [ht] at hw hr;obtain rfl:=sI hw;obtain rfl:=sI hr;have ll:=z4u l (h.2 l (List.mem_of_getElem? ht));have a1:=ha v0 (.int (l:Nat));exact ⟨some (.int (l:Nat),false),false,by simp! [a1,ll]⟩
theorem zz2 (Ψ:Str->Fn):z3n (zai [false] 1 (zb4 Ψ)):=fun t h=>by
 have c:zeb Ψ [some (tmW t,false)]=some ([some (tmW t,false)],(.lst (t.map fun l=>one (97+l)),true)) :=
  zwo h (by unfold tmW;simp! []) rfl (fun _ _=>rfl) (fun _ _=>rfl)
 have j:=zwi c h.1;have e:=z5c h;unfold zb4;cases t with
 | nil=>simp! [e,decide_true];rfl
 | cons l t=>rw [decide_eq_false (List.cons_ne_nil l t)] at e;simp! [e,j];rfl
noncomputable def zbf (ts:List (List Nat)):List (List Nat):=(ts.map teS).reverse
noncomputable def ptS (ts:List (List Nat)):Str:=match ts with
 | [] => "0"
 | t::ts=>mkS (sepJ (zbf (t::ts)))
theorem zjx:∀ps:List (List Nat),ps≠[]->Str.join " + " (ps.map mkS)=mkS (sepJ ps)
  | [],h=>absurd rfl h
  | [p],_=>rfl
  | p::q::r,_=>by
    show mkS p++" + "++Str.join " + " ((q::r).map mkS)=_;rw [zjx (q::r) (List.cons_ne_nil _ _)];apply Str.ext';apply Array.toList_inj.mp;rw [Str.cps_append,Str.cps_append,Array.toList_append,Array.toList_append]
    rfl
theorem zq0:∀ps:List (List Nat),zcw (ps.map fun p=>W.str (mkS p))=some (ps.map mkS)
  | []=>rfl
  | p::ps=>by
    show (zcw (ps.map fun p=>W.str (mkS p))).bind _=_;rw [zq0 ps];rfl
theorem z0r {ps:List (List Nat)} (h:∀p∈ps,p.length<=6):((ps.map mkS).map (·.length)).sum<=6 * ps.length:=by
  induction ps with
  | nil=>exact Nat.le_refl _
  | cons p ps ih =>
    rw [List.map_cons,List.map_cons,List.sum_cons,List.length_cons];have:=ih fun q hq=>h q (List.mem_cons_of_mem _ hq);have h1:(mkS p).length=p.length:=by show (p.toArray).size=_;rw [List.size_toArray]
    have:=h p List.mem_cons_self;omega
theorem zwz {ps:List (List Nat)}{g:GE}{en e1:En}{fl:Bool} (hne:ps≠[]) (h6:∀p∈ps,p.length<=6) (hz:ps.length<=64) (h:g en=some (e1,(.lst (ps.map fun p=>W.str (mkS p)),fl))):zex " + " g en=some (e1,(.str (mkS (sepJ ps)),false)):=by
 unfold zex;rw [h];show (zcw (ps.map fun p=>W.str (mkS p))).bind _=_;rw [zq0];show (if ((ps.map mkS).map (·.length)).sum+(ps.map mkS).length * (Str.length " + ")<=16777216 then some (e1,(W.str (Txt.join " + " (ps.map mkS)),false)) else none)=_;have:=z0r h6;rw [show Str.length " + " = 3 from rfl,List.length_map,if_pos (by omega)];have e:Txt.join " + " (ps.map mkS)=mkS (sepJ ps):=(StrLaws.glued_eq_join _ _).trans (zjx ps hne);rw [e]
theorem zy7 {t:List Nat} (h:GT t):(teS t).length<=6:=by
 cases t with
 | nil=>show 1<=6;decide
 | cons l t=>show ((l::t).map _).length<=6;rw [List.length_map];exact h.1
theorem z2g {t:List Nat}:32 ∉ teS t:=by
  cases t with
  | nil=>decide
  | cons l t =>
    intro h;obtain ⟨x,_,e⟩:=List.mem_map.mp (show 32∈(l::t).map (97 + ·) from h);have e:97+x=32:=e;omega
theorem zke {ts:List (List Nat)} (h:∀t∈ts,GT t):∀p∈zbf ts,p.length<=6:=fun p hp=>by
 obtain ⟨t,ht,rfl⟩:=List.mem_map.mp (List.mem_reverse.mp hp);exact zy7 (h t ht)
theorem zbq (ts:List (List Nat)):(zbf ts).length=ts.length:=by unfold zbf;rw [List.length_reverse,List.length_map]
theorem zep (t:List Nat) (ts:List (List Nat)):zbf (t::ts)≠[]:=fun e=>by
 have:=zbq (t::ts);rw [e] at this;cases this
theorem zjm {ts:List (List Nat)}{i:Nat}{t:List Nat} (h:ts.reverse[i]?=some t):(zbf ts)[i]?=some (teS t):=by
 unfold zbf;rw [<-List.map_reverse,List.getElem?_map,h];rfl
noncomputable def zgp (Φ:Fn):Prop:=∀ts:List (List Nat),(∀t∈ts,GT t)->ts.length<=64->Φ [.tup (ts.map tmW)]=some ([.tup (ts.map tmW)],(.str (ptS ts),false))
theorem zt5 {Ψ:Str->Fn} (hT:z3n (Ψ "term_text")):zgp (zai [false] 1 (zb9 Ψ)):=fun ts h hl=>by
  have c:zcs Ψ [some (.tup (ts.map tmW),false)]=some ([some (.tup (ts.map tmW),false)],(.lst ((zbf ts).map fun p=>W.str (mkS p)),true)):=by
    unfold zcs;refine zd8 (xs:=[]) (e0:=[some (.tup (ts.map tmW),false)]) (ws:=(ts.map tmW).reverse) rfl (by rw [List.length_reverse,List.length_map];omega) (by rw [List.length_map,zbq,List.length_reverse,List.length_map]) rfl rfl rfl (fun _ _=>rfl) fun i v0 w r hw hr=>?_;rw [<-List.map_reverse,List.getElem?_map] at hw;cases ht:ts.reverse[i]? with
    | none=>rw [ht] at hw;exact noSome hw
    | some t =>
      rw [ht] at hw;rw [List.getElem?_map,zjm ht] at hr;obtain rfl:=sI hw;obtain rfl:=sI hr;have a:=hT t (h t (List.mem_reverse.mp (List.mem_of_getElem? ht)));exact ⟨some (tmW t,false),false,by simp! [a]⟩
  have e:=z35 h hl;unfold zb9;cases ts with
  | nil=>simp! [e,decide_true];rfl
  | cons t ts =>
    have j:=zwz (zep t ts) (zke h) (by rw [zbq];exact hl) c;rw [decide_eq_false (List.cons_ne_nil t ts)] at e;simp! [e,j];rfl
theorem zp1 (Ψ:Str->Fn):zgp (zai [false] 1 (zar Ψ)):=fun ts h hl=>by
  have c:za3 Ψ [some (.tup (ts.map tmW),false)]=some ([some (.tup (ts.map tmW),false)],(.lst ((zbf ts).map fun p=>W.str (mkS p)),true)):=by
    unfold za3;refine zd8 (xs:=[]) (e0:=[some (.tup (ts.map tmW),false)]) (ws:=(ts.map tmW).reverse) (by
      have rv:znh (zaa 0) (zdr (gOp1 oNeg (gArg (gC (.int 1))))) [some (.tup (ts.map tmW),false)]=some ([some (.tup (ts.map tmW),false)],(.tup (ts.map tmW).reverse,false)):=zyp rfl rfl rfl rfl;simp! [rv]) (by rw [List.length_reverse,List.length_map];omega) (by rw [List.length_map,zbq,List.length_reverse,List.length_map]) rfl rfl rfl (fun _ _=>rfl) fun i v0 w r hw hr=>?_
    rw [<-List.map_reverse,List.getElem?_map] at hw;cases ht:ts.reverse[i]? with
    | none=>rw [ht] at hw;exact noSome hw
    | some t =>
      rw [ht] at hw;rw [List.getElem?_map,zjm ht] at hr;obtain rfl:=sI hw;obtain rfl:=sI hr;have gt:=h t (List.mem_reverse.mp (List.mem_of_getElem? ht));have c1:zbx Ψ [v0,some (tmW t,false)]=some ([v0,some (tmW t,false)],(.lst (t.map fun l=>one (97+l)),true)) :=
        zwo gt (by unfold tmW;simp! []) rfl (fun _ _=>rfl) (fun _ _=>rfl)
      have j:=zwi c1 gt.1;refine ⟨some (tmW t,false),false,?_⟩;unfold gOrS;rw [j];have l1:(mkS (t.map (97 + ·))).length=t.length:=by show ((t.map (97 + ·)).toArray).size=_;rw [List.size_toArray,List.length_map]
      have hs:(mkS (t.map (97 + ·))).length<=sizeLine:=by rw [l1,sizeLine_eq];have:=gt.1;omega
      show (if (mkS (t.map (97 + ·))).length<=sizeLine then (if (mkS (t.map (97 + ·))).length=0 then _ else _) else none)=_;rw [if_pos hs,l1];cases t with
      | nil=>rfl
      | cons l t=>rfl
  have e:=z35 h hl;unfold zar;cases ts with
  | nil=>simp! [e,decide_true];rfl
  | cons t ts =>
    have j:=zwz (zep t ts) (zke h) (by rw [zbq];exact hl) c;rw [decide_eq_false (List.cons_ne_nil t ts)] at e;simp! [e,j];rfl
theorem zlb (x y:Str):oEq (.str x) (.str y)=some (.bl (decide (x=y)),false):=rfl
theorem zwt {a b:List Nat}:mkS a=mkS b↔a=b:=by
 constructor
 ·intro h;have:=congrArg (fun s:Str=>s.cps.toList) h;exact this
 ·exact fun h=>h ▸ rfl
theorem zzk {t:List Nat} (h:GT t):decide (mkS (teS t)=("1" : Str))=decide (t=[]):=by
  cases t with
  | nil=>decide +kernel
  | cons l t =>
    rw [decide_eq_false (List.cons_ne_nil l t)];refine decide_eq_false fun e=>?_;have e:(97+l)::t.map (97 + ·)=[49]:=zwt.mp (e.trans (show ("1" : Str)=mkS [49] from by decide +kernel));have:=(List.cons.inj e).1;omega
theorem z47 (cs:List Nat):chW (mkS cs)=cs.map one:=by unfold chW mkS;simp [one]
noncomputable def z03 (Φ:Fn):Prop:=∀t,GT t->Φ [.str (mkS (teS t))]=some ([.str (mkS (teS t))],(tmW t,false))
theorem zxj (Ψ:Str->Fn):z03 (zai [false] 1 (zb1 Ψ)):=fun t h=>by
  have e:=zzk h;have e0:=zlb (mkS (teS t)) "1";rw [e] at e0;unfold zb1;cases t with
  | nil=>rw [decide_eq_true rfl] at e0;simp! [e0];rfl
  | cons l t =>
    rw [decide_eq_false (List.cons_ne_nil l t)] at e0;have c:zcv Ψ [some (.str (mkS (teS (l::t))),false)]=some ([some (.str (mkS (teS (l::t))),false)],(.lst ((l::t).map fun l=>W.int (l:Nat)),true)):=by
      unfold zcv;refine zd8 (xs:=[]) (e0:=[some (.str (mkS (teS (l::t))),false)]) (ws:=((l::t).map (97 + ·)).map one) ?_ (by rw [List.length_map,List.length_map];have:=h.1;omega) (by rw [List.length_map,List.length_map,List.length_map]) rfl rfl rfl (fun _ _=>rfl) fun i v0 w r hw hr=>?_
      · show (some _ : Option (En × List W)) = _
        rw [<-z47];rfl
      · rw [List.getElem?_map, List.getElem?_map] at hw
        rw [List.getElem?_map] at hr;cases ht:(l::t)[i]? with
        | none=>rw [ht] at hw;exact noSome hw
        | some x =>
          rw [ht] at hw hr;obtain rfl:=sI hw;obtain rfl:=sI hr;have f:=z0c x (h.2 x (List.mem_of_getElem? ht));refine ⟨some (one (97+x),false),false,?_⟩;show (some ([v0,some (one (97+x),false)],(W.int (Txt.find "abcdef" ⟨#[97+x]⟩),false)):Option (En × (W × Bool)))=_;rw [f]
    simp! [e0,c];rfl
theorem z2w {ts:List (List Nat)} (h:∀t∈ts,GT t):decide (ptS ts=("0" : Str))=decide (ts=[]):=by
  cases ts with
  | nil=>decide +kernel
  | cons t ts =>
    rw [decide_eq_false (List.cons_ne_nil t ts)];refine decide_eq_false fun e=>?_;have e:sepJ (zbf (t::ts))=[48]:=zwt.mp (show mkS (sepJ (zbf (t::ts)))=mkS [48] from e.trans (by decide +kernel));have ge:∀ps:List (List Nat),ps≠[]->(∀p∈ps,∃c r,p=c::r/\c≠48)->sepJ ps≠[48]:=fun ps hne hp=>by
      match ps,hne with
      | [p],_ =>
        obtain ⟨c,r,rfl,hc⟩:=hp p List.mem_cons_self;exact fun e=>hc (List.cons.inj e).1
      | p::q::r,_ =>
        obtain ⟨c,r',rfl,hc⟩:=hp p List.mem_cons_self;exact fun e=>hc (List.cons.inj e).1
    refine ge _ (zep t ts) (fun p hp=>?_) e;obtain ⟨x,hx,rfl⟩:=List.mem_map.mp (List.mem_reverse.mp hp);cases x with
    | nil=>exact ⟨49,[],rfl,by decide⟩
    | cons l x=>exact ⟨97+l,x.map (97 + ·),rfl,by omega⟩
theorem zsl:∀{ps:List (List Nat)},(∀p∈ps,p.length<=6)->(sepJ ps).length<=9 * ps.length
  | [],_=>Nat.le_refl _
  | [p],h=>by
    have:=h p List.mem_cons_self;show p.length<=9 * 1;omega
  | p::q::r,h=>by
    have h1:=h p List.mem_cons_self;have h2:=zsl (ps:=q::r) fun z hz=>h z (List.mem_cons_of_mem _ hz);rw [sepJ,List.length_append,List.length_append,List.length_cons (a:=p)];show _+3+_<=_;omega
theorem zwy {ts:List (List Nat)} (h:∀t∈ts,GT t) (hl:ts.length<=64):(ptS ts).length<=600:=by
  cases ts with
  | nil=>show 1<=600;decide
  | cons t ts =>
    have:=zsl (zke h);rw [zbq] at this;show ((sepJ (zbf (t::ts))).toArray).size<=600;rw [List.size_toArray];omega
noncomputable def zsi (Φ:Fn):Prop:=∀ts:List (List Nat),(∀t∈ts,GT t)->ts.length<=64->Φ [.str (ptS ts)]=some ([.str (ptS ts)],(.tup (ts.map tmW),false))
theorem zvm {Ψ:Str->Fn} (hR:z03 (Ψ "term_read")):zsi (zai [false] 1 (zcc Ψ)):=fun ts h hl=>by
  have e:=z2w h;have e0:=zlb (ptS ts) "0";rw [e] at e0;have pl:=zwy h hl;unfold zcc;cases ts with
  | nil=>rw [decide_eq_true rfl] at e0;simp! [e0];rfl
  | cons t ts =>
    rw [decide_eq_false (List.cons_ne_nil t ts)] at e0;have sp:Txt.split (ptS (t::ts)) " + " = (zbf (t::ts)).map mkS:=zk2 (zep t ts) fun p hp=>by
      obtain ⟨x,_,rfl⟩:=List.mem_map.mp (List.mem_reverse.mp hp);exact z2g
    have c:zcq Ψ [some (.str (ptS (t::ts)),false)]=some ([some (.str (ptS (t::ts)),false)],(.lst ((t::ts).map tmW),true)):=by
      unfold zcq;refine zd8 (xs:=[]) (e0:=[some (.str (ptS (t::ts)),false)]) (ws:=(t::ts).map fun t=>W.str (mkS (teS t))) ?_ (by rw [List.length_map];omega) (by rw [List.length_map,List.length_map]) rfl rfl rfl (fun _ _=>rfl) fun i v0 w r hw hr=>?_
      · have g:zmh " + " (gVar 0) [some (.str (ptS (t::ts)),false)]=some ([some (.str (ptS (t::ts)),false)],(.lst ((Txt.split (ptS (t::ts)) " + ").map W.str),true)):=by
          show (if (ptS (t::ts)).length+2<=sizeLine then _ else none)=_;rw [if_pos (by rw [sizeLine_eq];omega)]
          rfl
        have r:(((Txt.split (ptS (t::ts)) " + ").map W.str)).reverse=(t::ts).map fun t=>W.str (mkS (teS t)):=by
          rw [sp,List.map_map,<-List.map_reverse];unfold zbf;rw [List.reverse_reverse,List.map_map]
          rfl
        rw [<-r];unfold gRev;rw [g];rfl
      · rw [List.getElem?_map] at hw hr
        cases ht:(t::ts)[i]? with
        | none=>rw [ht] at hw;exact noSome hw
        | some x =>
          rw [ht] at hw hr;obtain rfl:=sI hw;obtain rfl:=sI hr;have a:=hR x (h x (List.mem_of_getElem? ht));exact ⟨some (.str (mkS (teS x)),false),false,by simp! [a]⟩
    simp! [e0,c]
    rfl
noncomputable def sh:W->Bool
 | .frl _=>false
 | .dcz _ _=>false
 | _=>true
noncomputable def T0 (w:W):Prop:=sh w=true
noncomputable def T1 (w:W):Prop:=T0 w/\∀us,w=.tup us->us.length<=300/\∀u∈us,T0 u
noncomputable def T2 (w:W):Prop:=T0 w/\∀us,w=.tup us->us.length<=300/\∀u∈us,T1 u
noncomputable def letB (m:Int):W->Bool
 | .int i=>decide (0<=i) && decide (i < m)
 | _=>false
noncomputable def ltB (a b:W):Bool:=match oLtX a b with
 | some (.bl x,_)=>x
 | _=>false
noncomputable def rsB (us:List W):Bool:=(List.zipWith ltB us us.tail).all id
noncomputable def tB (m:Int):W->Bool
 | .tup us=>us.all (letB m) && rsB us
 | _=>false
noncomputable def ordW:W->W
 | .tup us=>.tup [.int us.length,.tup us]
 | w=>w
noncomputable def pB (m:Int):W->Bool
 | .tup ts=>ts.all (tB m) && rsB (ts.map ordW)
 | _=>false
noncomputable def zso (Φ:Fn):Prop:=∀w,T0 w->Φ [w]=some ([w],(.bl (zf1 w),false))
theorem zy2 (Ψ:Str->Fn):zso (zai [false] 1 (zd4 Ψ)):=fun w h=>by
 cases w with
 | frl _=>cases h
 | dcz _ _=>cases h
 | _=>rfl
noncomputable def LtOk (us:List W):Prop:=∀a∈us,∀b∈us,oLtX a b=some (.bl (ltB a b),false)
theorem z2c {us:List W}{i:Nat} (h:i+1 < us.length):(List.zipWith ltB us us.tail)[i]?=some (ltB us[i] us[i+1]):=by
 rw [List.getElem?_zipWith,List.getElem?_eq_getElem (by omega),List.getElem?_tail,List.getElem?_eq_getElem h]
theorem z2m (us:List W):(List.zipWith ltB us us.tail).length=us.length - 1:=by rw [List.length_zipWith,List.length_tail];omega
noncomputable def zmq (Φ:Fn):Prop:=∀(x:W) (us:List W),(x=.lst us\/x=.tup us)->us.length<=300->LtOk us->Φ [x]=some ([x],(.bl (rsB us),false))
theorem zz6 (Ψ:Str->Fn):zmq (zai [false] 1 (zgh Ψ)):=fun x us hx hl ho=>by
 have sx:seqW x=some us:=by rcases hx with rfl | rfl<;>rfl
 have rng:zc7 (gCns (gArg (gOp2 (oI yes2 fun i j=>.int (i - j)) (gArg (gOpN oLen (gCns (zaa 0) gA0))) (gArg (gC (.int 1))))) gA0) [some (x,false)]=some ([some (x,false)],rngW 0 (us.length - 1)):=by
  by_cases z:us.length=0
  ·have e : us = [] := List.length_eq_zero_iff.mp z;subst e;rcases hx with rfl | rfl<;>kernel_rfl
  ·refine rng1_n (n := us.length - 1) ?_ (by omega);have e:((us.length:Nat):Int) - 1=((us.length - 1:Nat):Int):=by omega
   simp! [sx,e]
 have c:zg3 Ψ [some (x,false)]=some ([some (x,false)],(.lst ((List.zipWith ltB us us.tail).map W.bl),true)):=by
  unfold zg3;refine zd8 (xs:=[some (x,false)]) (e0:=[some (x,false)]) (ws:=rngW 0 (us.length - 1)) rng (by rw [zeq];omega) (by rw [zeq,List.length_map,z2m]) rfl rfl rfl (fun _ _=>rfl) fun i v0 w r hw hr=>?_;obtain ⟨li,rfl⟩:=zeo hw;rw [Int.zero_add] at *
  have l1:i+1 < us.length:=by omega
  rw [List.getElem?_map,z2c l1] at hr;obtain rfl:=sI hr;have a1:atI us (i:Int)=some us[i]:=zbl (List.getElem?_eq_getElem (by omega));have a2:atI us ((i:Int)+1)=some us[i+1]:=by
   have:=zbl (xs:=us) (i:=i+1) (List.getElem?_eq_getElem l1);rw [<-this];congr 1
  have o:=ho us[i] (List.getElem_mem _) us[i+1] (List.getElem_mem _);refine ⟨some (.int (i:Nat),false),false,?_⟩;simp! [sx,a1,a2,o]
 have al:(List.zipWith ltB us us.tail).all id=rsB us:=rfl;unfold zgh;simp! [c,al]
noncomputable def z3r (Φ:Fn):Prop:=∀(m:Nat) (w:W),T1 w->Φ [.int (m:Nat),w]=some ([.int (m:Nat),w],(.bl (tB m w),false))
theorem zz3 {m:Int}{us:List W} (h:us.all (letB m)=true):LtOk us:=fun a ha b hb=>by
  have h1:=List.all_eq_true.mp h a ha;have h2:=List.all_eq_true.mp h b hb;cases a with
  | int i =>
    cases b with
    | int j=>rfl
    | _=>cases h2
  | _=>cases h1
theorem zyy {Ψ:Str->Fn} (hW:zso (Ψ "is_whole")) {m:Nat}{v0:Option (W × Bool)}{w:W} (h:T0 w):∃u f,(gAnd (zae [false] (Ψ "is_whole") (gCns (gArg (gVar 1)) gA0)) (zh2 (oI yes2 fun i j=>.bl (decide (i<=j))) (oI yes2 fun i j=>.bl (decide (i < j))) (gArg (gC (.int 0))) (zaa 1) (zaa 2))) (v0::some (w,false)::[some (.int (m:Nat),false)])=some (v0::u::[some (.int (m:Nat),false)],(.bl (letB m w),f)):=by
  have e:=hW w h;cases w with
  | frl _=>cases h
  | dcz _ _=>cases h
  | int i =>
    refine ⟨some (.int i,false),false,?_⟩;by_cases c:0<=i
    · have d := decide_eq_true c
      simp! [e,zf1,d];simp only [letB,d,Bool.true_and]
    · have d := decide_eq_false c
      simp! [e,zf1,d];simp only [letB,d,Bool.false_and]
  | _=>exact ⟨_,_,by simp! [e,zf1];rfl⟩
theorem zm3 (p:W->Bool) (ws:List W):(ws.map p).all id=ws.all p:=by rw [List.all_map];rfl
theorem z3a {Ψ:Str->Fn} (hW:zso (Ψ "is_whole")) (hR:zmq (Ψ "rises")):z3r (zai [false,false] 2 (zco Ψ)):=fun m w h=>by
  cases w with
  | frl _=>cases h.1
  | dcz _ _=>cases h.1
  | tup us =>
    obtain ⟨lz,hz⟩:=h.2 us rfl;have c:zd0 Ψ [some (.int (m:Nat),false),some (.tup us,false)]=some ([some (.int (m:Nat),false),some (.tup us,false)],(.lst ((us.map (letB m)).map W.bl),true)):=by
      unfold zd0;refine zd8 (xs:=[some (.int (m:Nat),false)]) (e0:=[some (.int (m:Nat),false),some (.tup us,false)]) (ws:=us) rfl (by omega) (by rw [List.length_map,List.length_map]) rfl rfl rfl (fun _ _=>rfl) fun i v0 w r hw hr=>?_;rw [List.getElem?_map,List.getElem?_map,hw] at hr;obtain rfl:=sI hr;exact zyy hW (hz w (List.mem_of_getElem? hw))
    have al:=zm3 (letB m) us;unfold zco;cases q:us.all (letB m) with
    | true =>
      have r:=hR (.tup us) us (.inr rfl) lz (zz3 q);have e:tB m (.tup us)=rsB us:=by show (us.all (letB m) && rsB us)=_;rw [q];rfl
      rw [e];simp! [c,al,q,r]
    | false =>
      have e:tB m (.tup us)=false:=by show (us.all (letB m) && rsB us)=_;rw [q];rfl
      rw [e];simp! [c,al,q]
  | _=>unfold zco;simp! [];rfl
theorem zk5 {m:Int}{w:W} (h:tB m w=true):∃ns:List Int,w=.tup (ns.map W.int):=by
  cases w with
  | tup us =>
    have h:(us.all (letB m) && rsB us)=true:=h;rw [Bool.and_eq_true] at h;have a:us.all zf1=true:=List.all_eq_true.mpr fun u hu=>by
      have:=List.all_eq_true.mp h.1 u hu;cases u with
      | int i=>rfl
      | _=>cases this
    obtain ⟨ns,rfl⟩:=znc a;exact ⟨ns,rfl⟩
  | _=>cases h
theorem z3x {m:Int}{ts:List W} (h:ts.all (tB m)=true):LtOk (ts.map ordW):=fun a ha b hb=>by
 obtain ⟨t,ht,rfl⟩:=List.mem_map.mp ha;obtain ⟨t',ht',rfl⟩:=List.mem_map.mp hb;obtain ⟨ns,rfl⟩:=zk5 (List.all_eq_true.mp h t ht);obtain ⟨ms,rfl⟩:=zk5 (List.all_eq_true.mp h t' ht');have k:∀ns:List Int,keyP (ordW (.tup (ns.map W.int)))=some (((ns.map W.int).length:Int)::ns):=fun ns=>by
  show (zc5 (ns.map W.int)).bind _=_;rw [zga];rfl
 have o:oLtX (ordW (.tup (ns.map W.int))) (ordW (.tup (ms.map W.int)))=some (.bl (lexI (((ns.map W.int).length:Int)::ns) (((ms.map W.int).length:Int)::ms)),false):=by
  show (keyP (ordW (.tup (ns.map W.int)))).bind _=_;rw [k ns];show (keyP (ordW (.tup (ms.map W.int)))).bind _=_;rw [k ms];rfl
 unfold ltB;rw [o]
noncomputable def zw1 (Φ:Fn):Prop:=∀us,Φ [.tup us]=some ([.tup us],(ordW (.tup us),false))
theorem zxq (Ψ:Str->Fn):zw1 (zai [false] 1 (zbj Ψ)):=fun us=>by
 unfold zbj;simp! []
 rfl
noncomputable def zko (Φ:Fn):Prop:=∀(m:Nat) (w:W),T2 w->Φ [.int (m:Nat),w]=some ([.int (m:Nat),w],(.bl (pB m w),false))
theorem z2q {Ψ:Str->Fn} (hT:z3r (Ψ "is_term")) (hO:zw1 (Ψ "term_order")) (hR:zmq (Ψ "rises")):zko (zai [false,false] 2 (zcr Ψ)):=fun m w h=>by
  cases w with
  | frl _=>cases h.1
  | dcz _ _=>cases h.1
  | tup ts =>
    obtain ⟨lz,hz⟩:=h.2 ts rfl;have c:zd3 Ψ [some (.int (m:Nat),false),some (.tup ts,false)]=some ([some (.int (m:Nat),false),some (.tup ts,false)],(.lst ((ts.map (tB m)).map W.bl),true)):=by
      unfold zd3;refine zd8 (xs:=[some (.int (m:Nat),false)]) (e0:=[some (.int (m:Nat),false),some (.tup ts,false)]) (ws:=ts) rfl (by omega) (by rw [List.length_map,List.length_map]) rfl rfl rfl (fun _ _=>rfl) fun i v0 w r hw hr=>?_;rw [List.getElem?_map,List.getElem?_map,hw] at hr;obtain rfl:=sI hr;have e:=hT m w (hz w (List.mem_of_getElem? hw));exact ⟨some (w,false),false,by simp! [e]⟩
    have al:=zm3 (tB m) ts;unfold zcr;cases q:ts.all (tB m) with
    | true =>
      have c2:zdw Ψ [some (.int (m:Nat),false),some (.tup ts,false)]=some ([some (.int (m:Nat),false),some (.tup ts,false)],(.lst (ts.map ordW),true)):=by
        unfold zdw;refine z08 (ws:=ts) rfl (by omega) (by rw [List.length_map]) fun i v0 w r hw hr=>?_;rw [List.getElem?_map,hw] at hr;obtain rfl:=sI hr;obtain ⟨ns,rfl⟩:=zk5 (List.all_eq_true.mp q w (List.mem_of_getElem? hw));have e:=hO (ns.map W.int);exact ⟨some (.tup (ns.map W.int),false),false,by simp! [e]⟩
      have r:=hR (.lst (ts.map ordW)) (ts.map ordW) (.inl rfl) (by rw [List.length_map];exact lz) (z3x q);have e:pB m (.tup ts)=rsB (ts.map ordW):=by show (ts.all (tB m) && rsB (ts.map ordW))=_;rw [q];rfl
      rw [e];simp! [c,al,q,c2,r]
    | false =>
      have e:pB m (.tup ts)=false:=by show (ts.all (tB m) && rsB (ts.map ordW))=_;rw [q];rfl
      rw [e];simp! [c,al,q]
  | _=>unfold zcr;simp! [];rfl
theorem zsv:∀{us:List W},us.Pairwise (fun a b=>ltB a b=true)->rsB us=true
  | [],_=>rfl
  | [_],_=>rfl
  | a::b::us,h=>by
    show (ltB a b && rsB (b::us))=true;rw [(List.pairwise_cons.mp h).1 b List.mem_cons_self,zsv (List.pairwise_cons.mp h).2];rfl
theorem zom:∀m most:Fin 7,(∀t∈zal m.val most.val,tB m.val (tmW t)=true)/\((zal m.val most.val).map fun t=>ordW (tmW t)).Pairwise (fun a b=>ltB a b=true):=by decide +kernel
theorem zpq {m most:Nat}{ts:List (List Nat)} (hm:m<=6) (ho:most<=6) (h:ts.Sublist (zal m most)):pB m (.tup (ts.map tmW))=true:=by
 obtain ⟨h1,h2⟩:=zom ⟨m,by omega⟩ ⟨most,by omega⟩;show ((ts.map tmW).all (tB m) && rsB ((ts.map tmW).map ordW))=true;rw [Bool.and_eq_true];refine ⟨List.all_eq_true.mpr fun w hw=>?_,?_⟩
 ·obtain ⟨t, ht, rfl⟩ := List.mem_map.mp hw;exact h1 t (h.mem ht)
 ·rw [List.map_map];exact zsv (h2.sublist (h.map _))
theorem zy8 {ts:List (List Nat)} (h:∀t∈ts,GT t) (hl:ts.length<=64):T2 (.tup (ts.map tmW)):=⟨rfl,fun us e=>by
 obtain rfl:=W.tup.inj e;refine ⟨by rw [List.length_map];omega,fun u hu=>?_⟩;obtain ⟨t,ht,rfl⟩:=List.mem_map.mp hu;refine ⟨rfl,fun us e=>?_⟩;obtain rfl:=W.tup.inj e;refine ⟨by rw [List.length_map];have:=(h t ht).1;omega,fun u hu=>?_⟩;obtain ⟨l,_,rfl⟩:=List.mem_map.mp hu
 rfl⟩
noncomputable def zvo (Φ:Fn):Prop:=∀(m most:Nat) (ts:List (List Nat)),m<=6->most<=6->ts.Sublist (zal m most)->Φ [.int (m:Nat),.str (ptS ts)]=some ([.int (m:Nat),.str (ptS ts)],(.tup (ts.map tmW),false))
theorem zsm {m most:Nat}{ts:List (List Nat)} (hm:m<=6) (ho:most<=6) (h:ts.Sublist (zal m most)):(∀t∈ts,GT t)/\ts.length<=64:=by
 obtain ⟨tl,ta⟩:=zid hm ho;refine ⟨fun t ht=>⟨(ta t (h.mem ht)).1,fun l hl=>?_⟩,?_⟩
 ·have := (ta t (h.mem ht)).2 l hl;omega
 ·have := h.length_le;omega
theorem zuw {Ψ:Str->Fn} (hP:zsi (Ψ "poly_read")) (hI:zko (Ψ "is_poly")) (hT:zgp (Ψ "poly_text")):zvo (zai [false,false] 3 (zb2 Ψ)):=fun m most ts hm ho h=>by
 obtain ⟨g,hl⟩:=zsm hm ho h;have a:=hP ts g hl;have b:=hI m (.tup (ts.map tmW)) (zy8 g hl);rw [zpq hm ho h] at b;have c:=hT ts g hl;have e:=zlb (ptS ts) (ptS ts);rw [decide_eq_true rfl] at e;unfold zb2;simp! [a,b,c,e]
theorem zqf {n:Nat} (hn:43 < n):∀{ps:List (List Nat)},(∀p∈ps,∀c∈p,c < n)->∀c∈sepJ ps,c < n
  | [],_,_,hc=>nomatch hc
  | [p],h,c,hc=>h p List.mem_cons_self c hc
  | p::q::r,h,c,hc=>by
    rw [sepJ] at hc;rcases List.mem_append.mp hc with hc | hc
    · rcases List.mem_append.mp hc with hc | hc
      · exact h p List.mem_cons_self c hc
      · have : ∀ c ∈ sep, c ≤ 43 := by decide
        have:=this c hc;omega
    · exact zqf hn (fun z hz=>h z (List.mem_cons_of_mem _ hz)) c hc
theorem z5i {ts:List (List Nat)} (h:∀t∈ts,GT t):∀c∈(ptS ts).cps.toList,c < 200:=by
  cases ts with
  | nil=>decide +kernel
  | cons t ts =>
    show ∀c∈sepJ (zbf (t::ts)),c < 200;refine zqf (by decide) fun p hp c hc=>?_;obtain ⟨x,hx,rfl⟩:=List.mem_map.mp (List.mem_reverse.mp hp);cases x with
    | nil=>rw [List.mem_singleton.mp (show c∈[49] from hc)];decide
    | cons l x =>
      obtain ⟨y,hy,rfl⟩:=List.mem_map.mp (show c∈(l::x).map (97 + ·) from hc);have:=(h _ hx).2 y hy;show 97+y < 200;omega
theorem zzc {ts:List (List Nat)} (h:∀t∈ts,GT t) (hl:ts.length<=64):zf9 [.str (ptS ts)]=some (.str (reprText (ptS ts)),false):=by
 have r:=StrLaws.reprText_len (ptS ts) fun c hc=>Nat.lt_trans (z5i h c hc) (by decide);have l:=zwy h hl;show (if (reprText (ptS ts)).length<=sizeLine then _ else none)=_;rw [if_pos (by rw [sizeLine_eq];omega)]
theorem zz1 {ts:List (List Nat)} (h:∀t∈ts,GT t) (hl:ts.length<=64):∃s,zlg [.tup (ts.map tmW)]=some (.str s,false):=by
 have hr:(W.tup (ts.map tmW))=zjl (ts.map fun t=>t.map fun l:Nat=>(l:Int)):=by
  unfold zjl;rw [List.map_map];congr 1;exact List.map_congr_left fun t _=>zgi t
 rw [hr];exact zo3 (fun ns hn=>by
  obtain ⟨t,ht,rfl⟩:=List.mem_map.mp hn;exact ⟨by rw [List.length_map];have:=(h t ht).1;omega,zhd (h t ht)⟩) (by rw [List.length_map];exact hl)
theorem z3m {Ψ:Str->Fn} (hX:zgp (Ψ "poly_text")) (hR:zvo (Ψ "read_poly")) {m most:Nat}{ts:List (List Nat)} (hm:m<=6) (ho:most<=6) (h:ts.Sublist (zal m most)) {v0 v1 v2 v6:Option (W × Bool)}:zl8 Ψ [v0,v1,v2,some (.int (m:Nat),false),some (.tup (ts.map tmW),false),some (.str (ptS ts),false),v6]=some ([v0,v1,v2,some (.int (m:Nat),false),some (.tup (ts.map tmW),false),some (.str (ptS ts),false),v6],.nx):=by
 obtain ⟨g,hl⟩:=zsm hm ho h;have x:=hX ts g hl;have r:=hR m most ts hm ho h;have rp:=zzc g hl;obtain ⟨s,ri⟩:=zz1 g hl;unfold zl8;simp! [x,r,rp,ri]
theorem z2r {Ψ:Str->Fn} (hK:zj0 (Ψ "_law_take")) (hP:zqz (Ψ "_law_poly")) (hL:zgp (Ψ "_law_poly_text")) (hX:zgp (Ψ "poly_text")) (hR:zvo (Ψ "read_poly")) {k:Nat}{st:W}{v0 v2 v3 v4 v5 v6:Option (W × Bool)} (hs:HS k st) (hk:k+900 < big):∃st' w3 w4 w5 w6,zl6 Ψ [v0,some (st,true),v2,v3,v4,v5,v6]=some ([v0,some (st',true),v2,w3,w4,w5,w6],.nx)/\HS (k+80) st':=by
 obtain ⟨st1,r,e1,g1,r0,r5⟩:=hK k st 6 hs (by omega) (by decide) (by decide);obtain ⟨r,rfl⟩:=Int.eq_ofNat_of_zero_le r0;obtain ⟨st2,q,e2,g2,q0,q1⟩:=hK (k+1) st1 (((1+r:Nat):Int)+1) g1 (by omega) (by omega) (by omega);obtain ⟨most,rfl⟩:=Int.eq_ofNat_of_zero_le q0;have hm:1+r<=6:=by omega
 have ho:most<=6:=by omega
 obtain ⟨st3,ts,e3,g3,sub⟩:=hP (k+2) st2 (1+r) most g2 (by omega) hm ho;have ec:(1:Int)+(r:Int)=((1+r:Nat):Int):=by omega
 obtain ⟨g,hl⟩:=zsm hm ho sub;have t:=hL ts g hl;generalize 1+r=m at *
 refine ⟨st3,some (.int (m:Nat),false),some (.tup (ts.map tmW),false),some (.str (ptS ts),false),some (.int (0+((1:Nat):Int)),false),?_,g3.mono (by omega)⟩;unfold zl6;refine seq_e (e1:=[v0,some (st1,true),v2,some (.int (m:Nat),false),v4,v5,v6]) ?_ (seq_e (e1:=[v0,some (st3,true),v2,some (.int (m:Nat),false),some (.tup (ts.map tmW),false),v5,v6]) ?_ (seq_e (e1:=[v0,some (st3,true),v2,some (.int (m:Nat),false),some (.tup (ts.map tmW),false),some (.str (ptS ts),false),v6]) ?_ ?_))
 ·simp! [e1,ec]
 ·simp! [e2,e3]
 ·simp! [t]
 ·unfold L1_law;obtain ⟨en',h,v,rfl,hv⟩:=zfm (mp:=[]) (T:=.nm 6) (body:=zl8 Ψ) (fun i e=>∃v,e=[v0,some (st3,true),v2,some (.int (m:Nat),false),some (.tup (ts.map tmW),false),some (.str (ptS ts),false),v]/\(i=2->v=some (.int (0+((1:Nat):Int)),false))) (rng1_n (a:=gArg (gC (.int 2))) (en:=[v0,some (st3,true),v2,some (.int (m:Nat),false),some (.tup (ts.map tmW),false),some (.str (ptS ts),false),v6]) (e1:=[v0,some (st3,true),v2,some (.int (m:Nat),false),some (.tup (ts.map tmW),false),some (.str (ptS ts),false),v6]) (n:=2) rfl (by omega)) ⟨_,rfl,fun z=>nomatch z⟩ fun i w e hw hp=>by
   obtain ⟨v,rfl,_⟩:=hp;obtain ⟨li,rfl⟩:=zeo hw;exact ⟨_,_,rfl,.inl (z3m hX hR hm ho sub),_,rfl,fun z=>by rw [show i=1 by omega]⟩
  rw [zeq] at hv;rw [h,hv rfl]
theorem zve (ns:List Int) (hl:ns.length<=63):sem T bn 40 "law" [.frl (ns.map W.int)]=some ([.frl (ns.map W.int)],(.bl true,false)):=by
 have bb:(20000:Nat) < big:=by decide
 rw [z4k];generalize hΨ:sem T bn 39=Ψ;have hH:zwq (Ψ "_law_hand"):=by rw [<-hΨ,zkh];exact zy9 (sem T bn 0)
 have hT:∀d,zj0 (sem T bn (d+3) "_law_take"):=fun d=>by rw [zew];exact zrb (sem T bn 0)
 have hK:zj0 (Ψ "_law_take"):=by rw [<-hΨ];exact hT 36
 have hP:zqz (Ψ "_law_poly"):=by rw [<-hΨ,zkt];exact zw6 (by rw [ziz];exact zu9 (sem T bn 0)) (by rw [zkk];exact zzl (by rw [zew];exact zrb (sem T bn 0)))
 have hL:zgp (Ψ "_law_poly_text"):=by rw [<-hΨ,zeg];exact zp1 _
 have hX:∀d,zgp (sem T bn (d+6) "poly_text"):=fun d=>by rw [zk0];exact zt5 (by rw [zkg];exact zz2 _)
 have hX0:zgp (Ψ "poly_text"):=by rw [<-hΨ];exact hX 33
 have hQ:∀d,zsi (sem T bn (d+6) "poly_read"):=fun d=>by rw [zj6];exact zvm (by rw [zk6];exact zxj _)
 have hRi:∀d,zmq (sem T bn (d+3) "rises"):=fun d=>by rw [zw5];exact zz6 _
 have hI:∀d,zko (sem T bn (d+9) "is_poly"):=fun d=>by
  rw [zpx];exact z2q (by rw [zpw];exact z3a (by rw [zn7];exact zy2 _) (hRi _)) (by rw [zi0];exact zxq _) (hRi _)
 have hR:zvo (Ψ "read_poly"):=by rw [<-hΨ,zla];exact zuw (hQ 32) (hI 29) (hX 32)
 obtain ⟨st0,h0,g0⟩:=hH ns hl;have ct:∃t:Nat,t<=16/\gArg (gOpN oMax (gCns (gArg (gC (.int 4))) (gCns (gArg (gOpN oMin (gCns (gArg (gC (.int 16))) (gCns (gArg (gOpN oLen (gCns (zaa 0) gA0))) gA0)))) gA0))) [some (.frl (ns.map W.int),false),some (st0,true),none,none,none,none,none]=some ([some (.frl (ns.map W.int),false),some (st0,true),none,none,none,none,none],.inl (.int (t:Nat))):=by
  have s:seqW (.frl (ns.map W.int))=some (ns.map W.int):=rfl;have om:∃n:Nat,oMin [.int 16,.int (ns.length:Nat)]=some (.int (n:Nat),false)/\n<=16:=by
   by_cases c:(ns.length:Int) < 16
   ·exact ⟨ns.length,by show some (W.int (if (ns.length:Int) < 16 then _ else _),false)=_;rw [if_pos c],by omega⟩
   ·exact ⟨16,by show some (W.int (if (ns.length:Int) < 16 then _ else _),false)=_;rw [if_neg c];rfl,by omega⟩
  obtain ⟨n,om,hn⟩:=om;have ox:∃j:Nat,oMax [.int 4,.int (n:Nat)]=some (.int (j:Nat),false)/\j<=16:=by
   by_cases c:(n:Int) > 4
   ·exact ⟨n,by show some (W.int (if (n:Int) > 4 then _ else _),false)=_;rw [if_pos c],hn⟩
   ·exact ⟨4,by show some (W.int (if (n:Int) > 4 then _ else _),false)=_;rw [if_neg c];rfl,by omega⟩
  obtain ⟨j,ox,hj⟩:=ox;exact ⟨j,hj,by simp! [s,List.length_map,om,ox]⟩
 obtain ⟨t,t16,ct⟩:=ct;have l2:∃en',zov Ψ [some (.frl (ns.map W.int),false),some (st0,true),none,none,none,none,none]=some (some (.frl (ns.map W.int),false)::en',.nx):=by
  unfold zov;obtain ⟨en',h,st',w2,w3,w4,w5,w6,rfl,_⟩:=zfm (mp:=[]) (T:=.nm 2) (body:=zl6 Ψ) (fun i e=>∃st' w2 w3 w4 w5 w6,e=[some (.frl (ns.map W.int),false),some (st',true),w2,w3,w4,w5,w6]/\HS (80 * i) st') (rng1_n ct (by omega)) ⟨_,_,_,_,_,_,rfl,g0⟩ fun i w e hw hp=>by
   obtain ⟨st',w2,w3,w4,w5,w6,rfl,g⟩:=hp;obtain ⟨li,rfl⟩:=zeo hw;obtain ⟨st2,x3,x4,x5,x6,hb,g2⟩:=z2r (Ψ:=Ψ) (v0:=some (.frl (ns.map W.int),false)) (v2:=some (.int (0+(i:Int)),false)) (v3:=w3) (v4:=w4) (v5:=w5) (v6:=w6) hK hP hL hX0 hR g (by omega);exact ⟨_,_,rfl,.inl hb,_,_,_,_,_,_,rfl,g2.mono (by omega)⟩
  exact ⟨_,h⟩
 obtain ⟨en',l2⟩:=l2;have y1:Ψ "poly_text" [.tup [.tup [.int 2],.tup [.int 0,.int 1]]]=some ([.tup [.tup [.int 2],.tup [.int 0,.int 1]]],(.str "ab + c",false)):=hX0 [[2],[0,1]] (by unfold GT;decide) (by decide);have y2:Ψ "poly_text" [.tup [.tup []]]=some ([.tup [.tup []]],(.str "1",false)):=hX0 [[]] (by unfold GT;decide) (by decide);have y3:Ψ "read_poly" [.int 1,.str "0"]=some ([.int 1,.str "0"],(.tup [],false)):=hR 1 0 [] (by decide) (by decide) (List.nil_sublist _);have q1:oEq (.str "ab + c") (.str "ab + c")=some (.bl true,false):=by kernel_rfl
 have q2:oEq (.str "1") (.str "1")=some (.bl true,false):=by kernel_rfl
 have q3:oEq (.tup []) (.tup [])=some (.bl true,false):=z37 (as:=[]) (bs:=[]) (fun _ h=>nomatch h) (fun _ h=>nomatch h);unfold zw9;refine zl4 (en:=some (.frl (ns.map W.int),false)::en') rfl (seq_e (e1:=[some (.frl (ns.map W.int),false),some (st0,true),none,none,none,none,none]) ?_ (seq_e l2 ?_)) rfl
 ·simp! [h0]
 ·simp! [y1,y2,y3,q1,q2,q3]
noncomputable abbrev nA (K:PySem.W.Frag) (n:Str) (f:Addr):Prop:=PySem.W.nsIn K mainGlobals n=some (some (.ref f))
noncomputable abbrev nL (K:PySem.W.Frag) (f:Addr) (oc:Value) (od:Option Addr) (n:Str) (st:Stmt) (kV dc pm:Value) (an:Option Addr) (cd ct:Value) (sl:Array (Option Value)):Prop:=K.lookup f=some ⟨oc,od,.func (PySem.W.fnOf n n (zdy st) (zcx st) (zaj st) .none kV dc pm an cd ct),sl⟩
noncomputable abbrev nC (K:PySem.W.Frag) (cd:Value) (n:Str):Prop:=PySem.W.codeIn K cd n=true
noncomputable abbrev nK (K:PySem.W.Frag) (f:Addr):Prop:=PySem.W.keepIn K (.ref f)=true
noncomputable def nD (K:PySem.W.Frag) (t:Fd):Prop:=∃(f:Addr) (oc:Value) (od:Option Addr) (kV dc pm:Value) (an:Option Addr) (cd ct:Value) (sl:Array (Option Value)),nA K t.nm f/\nL K f oc od t.nm t.st kV dc pm an cd ct sl/\nC K cd t.nm/\nK K f
theorem nD_i {K:PySem.W.Frag}{n:Str}{t:Fd}{f:Addr}{oc:Value}{od:Option Addr}{kV dc pm:Value}{an:Option Addr}{cd ct:Value}{sl:Array (Option Value)} (e:t.nm=n) (a:nA K n f) (l:nL K f oc od n t.st kV dc pm an cd ct sl) (c:nC K cd n) (k:nK K f):nD K t:=by
 subst e;exact ⟨_,_,_,_,_,_,_,_,_,_,a,l,c,k⟩
noncomputable def bO (t:Fd):Prop:=FnScope t.N t.ps (zaj t.st)/\t.m.length=t.ps.length/\∀(kV doc pm:Value) (an:Option Addr) (cdv ct:Value) (us:List Value),us.length=t.ps.length->bindArgs (PySem.W.fnOf t.nm t.nm (zdy t.st) (zcx t.st) (zaj t.st) .none kV doc pm an cdv ct) ⟨us,[]⟩=pure (t.ps.zip us)
theorem z4x {K:PySem.W.Frag}{h:Heap}{mg:Str->Option Value} (X:K.In h) (G:h.Ns mainGlobals mg) {t:Fd} (b:bO t) (lm:t.nm∈lams->zuq K t.nm=true) (d:nD K t):FdOk K mg t:=by
 obtain ⟨f,oc,od,kV,dc,pm,an,cd,ct,sl,a,l,c,k⟩:=d;have F:=zwp (st:=t.st) l c k;exact ⟨b.1,b.2.1,⟨_,_,F,F.binds b.2.2,PySem.W.mg_of X G a⟩,lm⟩
theorem nd_T:(T.map (·.nm)).Nodup:=by decide +kernel
theorem all_c {α:Type}{P:α->Prop}{a:α}{l:List α} (h:P a) (r:∀x∈l,P x):∀x∈a::l,P x:=List.forall_mem_cons.mpr ⟨h,r⟩
theorem all_n {α:Type}{P:α->Prop}:∀x∈([]:List α),P x:=fun _ h=>nomatch h
@[elab_as_elim] theorem lenS {α:Type}{P:List α->Prop}{n:Nat} (us:List α) (hl:us.length=n+1) (h:∀a l,l.length=n->P (a::l)):P us:=by
 cases us with
 | nil=>cases hl
 | cons a l=>exact h a l (Nat.succ.inj hl)
@[elab_as_elim] theorem len0 {α:Type}{P:List α->Prop} (us:List α) (hl:us.length=0) (h:P []):P us:=by
 cases us with
 | nil=>exact h
 | cons a l=>cases hl
@[elab_as_elim] theorem len1 {α:Type}{P:List α->Prop} (us:List α) (hl:us.length=1) (h:∀a,P [a]):P us:=lenS us hl fun a l e=>len0 l e (h a)
@[elab_as_elim] theorem len2 {α:Type}{P:List α->Prop} (us:List α) (hl:us.length=2) (h:∀a b,P [a,b]):P us:=lenS us hl fun a l e=>lenS l e fun b l e=>len0 l e (h a b)
@[elab_as_elim] theorem len3 {α:Type}{P:List α->Prop} (us:List α) (hl:us.length=3) (h:∀a b c,P [a,b,c]):P us:=lenS us hl fun a l e=>len2 l e (h a)
theorem zlx:bO zc2:=⟨⟨by kernel_rfl,by kernel_rfl,by kernel_rfl,by decide +kernel,rfl,by decide +kernel,by decide +kernel⟩,rfl,fun _ _ _ _ _ _ us hl=>len1 us hl fun _=>rfl⟩
theorem zio:bO zcf:=⟨⟨by kernel_rfl,by kernel_rfl,by kernel_rfl,by decide +kernel,rfl,by decide +kernel,by decide +kernel⟩,rfl,fun _ _ _ _ _ _ us hl=>len1 us hl fun _=>rfl⟩
theorem zh6:bO zb5:=⟨⟨by kernel_rfl,by kernel_rfl,by kernel_rfl,by decide +kernel,rfl,by decide +kernel,by decide +kernel⟩,rfl,fun _ _ _ _ _ _ us hl=>len1 us hl fun _=>rfl⟩
theorem zug:bO zgz:=⟨⟨by kernel_rfl,by kernel_rfl,by kernel_rfl,by decide +kernel,rfl,by decide +kernel,by decide +kernel⟩,rfl,fun _ _ _ _ _ _ us hl=>len1 us hl fun _=>rfl⟩
theorem zha:bO zbi:=⟨⟨by kernel_rfl,by kernel_rfl,by kernel_rfl,by decide +kernel,rfl,by decide +kernel,by decide +kernel⟩,rfl,fun _ _ _ _ _ _ us hl=>len1 us hl fun _=>rfl⟩
theorem zoo:bO zdf:=⟨⟨by kernel_rfl,by kernel_rfl,by kernel_rfl,by decide +kernel,rfl,by decide +kernel,by decide +kernel⟩,rfl,fun _ _ _ _ _ _ us hl=>len2 us hl fun _ _=>rfl⟩
theorem zop:bO zdk:=⟨⟨by kernel_rfl,by kernel_rfl,by kernel_rfl,by decide +kernel,rfl,by decide +kernel,by decide +kernel⟩,rfl,fun _ _ _ _ _ _ us hl=>len2 us hl fun _ _=>rfl⟩
theorem zi4:bO zb6:=⟨⟨by kernel_rfl,by kernel_rfl,by kernel_rfl,by decide +kernel,rfl,by decide +kernel,by decide +kernel⟩,rfl,fun _ _ _ _ _ _ us hl=>len1 us hl fun _=>rfl⟩
theorem zjc:bO zcd:=⟨⟨by kernel_rfl,by kernel_rfl,by kernel_rfl,by decide +kernel,rfl,by decide +kernel,by decide +kernel⟩,rfl,fun _ _ _ _ _ _ us hl=>len1 us hl fun _=>rfl⟩
theorem zie:bO zb8:=⟨⟨by kernel_rfl,by kernel_rfl,by kernel_rfl,by decide +kernel,rfl,by decide +kernel,by decide +kernel⟩,rfl,fun _ _ _ _ _ _ us hl=>len2 us hl fun _ _=>rfl⟩
theorem zh4:bO zce:=⟨⟨by kernel_rfl,by kernel_rfl,by kernel_rfl,by decide +kernel,rfl,by decide +kernel,by decide +kernel⟩,rfl,fun _ _ _ _ _ _ us hl=>len1 us hl fun _=>rfl⟩
theorem zi6:bO zb3:=⟨⟨by kernel_rfl,by kernel_rfl,by kernel_rfl,by decide +kernel,rfl,by decide +kernel,by decide +kernel⟩,rfl,fun _ _ _ _ _ _ us hl=>len2 us hl fun _ _=>rfl⟩
theorem zjr:bO zbz:=⟨⟨by kernel_rfl,by kernel_rfl,by kernel_rfl,by decide +kernel,rfl,by decide +kernel,by decide +kernel⟩,rfl,fun _ _ _ _ _ _ us hl=>len2 us hl fun _ _=>rfl⟩
theorem zhj:bO zbn:=⟨⟨by kernel_rfl,by kernel_rfl,by kernel_rfl,by decide +kernel,rfl,by decide +kernel,by decide +kernel⟩,rfl,fun _ _ _ _ _ _ us hl=>len2 us hl fun _ _=>rfl⟩
theorem zht:bO zb7:=⟨⟨by kernel_rfl,by kernel_rfl,by kernel_rfl,by decide +kernel,rfl,by decide +kernel,by decide +kernel⟩,rfl,fun _ _ _ _ _ _ us hl=>len3 us hl fun _ _ _=>rfl⟩
theorem zd6:bO zas:=⟨⟨by kernel_rfl,by kernel_rfl,by kernel_rfl,by decide +kernel,rfl,by decide +kernel,by decide +kernel⟩,rfl,fun _ _ _ _ _ _ us hl=>len1 us hl fun _=>rfl⟩
theorem z1z:bO zkb:=⟨⟨by kernel_rfl,by kernel_rfl,by kernel_rfl,by decide +kernel,rfl,by decide +kernel,by decide +kernel⟩,rfl,fun _ _ _ _ _ _ us hl=>len1 us hl fun _=>rfl⟩
theorem zs_i {K:PySem.W.Frag}{t:Tok} (e:PySem.W.nsIn K mainGlobals "SIGNS" = some (some (.str "abcdef" t))):∃t,PySem.W.nsIn K mainGlobals "SIGNS" = some (some (.str "abcdef" t)):=⟨t,e⟩
theorem all_mk {l:PySem.W.OpenLaw}{w:World}{K:PySem.W.Frag}{h:Heap}{mg:Str->Option Value}{fa:Addr} (X:K.In h) (G:h.Ns mainGlobals mg) (hfa:mg "law" = some (.ref fa)) (D:∀t∈T,nD K t) (M:∀x∈(["_law_terms","law"]:List Str),zuq K x=true) (Z:∀x∈bn,PySem.W.nsIn K mainGlobals x=some none) (Z2:∃t,PySem.W.nsIn K mainGlobals "SIGNS" = some (some (.str "abcdef" t))) :
  ∃fd:FuncData,(∀(s:Shared) (v:Value),BindsTo s fd ⟨[v],[]⟩ [("_law_script",v)])/\∀base:Heap,K.In base->base.Ns mainGlobals mg->FnOk l.prog w K mg base CX0 40 fa fd ["_law_script"] (spF K [false] (sem T bn 40 "law")):=by
 have B:∀t∈T,bO t:=all_c zlx (all_c zio (all_c zh6 (all_c zug (all_c zha (all_c zoo (all_c zop (all_c zi4 (all_c zjc (all_c zie (all_c zh4 (all_c zi6 (all_c zjr (all_c zhj (all_c zht (all_c zd6 (all_c z1z (all_n)))))))))))))))));have q:∀t∈T,t.nm∈lams->t.nm∈(["_law_terms","law"]:List Str):=by decide +kernel
 obtain ⟨f,oc,od,kV,dc,pm,an,cd,ct,sl,a,lk,c,k⟩:=D zkb (by simp [T]);have F:=zwp (st:=zkb.st) lk c k;have e:=hfa.symm.trans (PySem.W.mg_of X G a);cases e;exact ⟨_,fun s v=>.of_eq rfl,fun base kb nb=>zr2 nd_T (fun t ht=>z4x X G (B t ht) (fun hl=>M _ (q t ht hl)) (D t ht)) (fun x hx=>PySem.W.mg_none_of X G (Z x hx)) kb nb (fun _=>let ⟨t,e⟩:=Z2;⟨t,PySem.W.mg_of X G e⟩) 40 zkb (by simp [T]) _ _ F (PySem.W.mg_of X G a)⟩
theorem walk {l:PySem.W.OpenLaw}{q:Program}{loose:List Str}{XP:(Str->Option Value)->Heap->Prop}{YP:World->Heap->Prop}{d:DefRec}{K:Params->PySem.W.Frag} (hn:l.most=some 63) (hdf:d.params.defaults=[])
  (hY:∀(w:World) (h:Heap),YP w h->(K w.params).In h)
  (nt:∀w:World,PySem.W.noTabs (K w.params)=true) (nd:∀w:World,zsx (K w.params)=true) (hrec:∀(w:World),∀x∈lams,∀c P,PySem.W.tabIn (K w.params) x=some (c,P)->∃d,(recsOf q).find? (fun e=>e.name == x)=some d)
  (F:∀(w:World) (mg:Str->Option Value) (fa:Addr) (h:Heap),(K w.params).In h->h.Ns mainGlobals mg->mg d.name=some (.ref fa) ->
   ∃fd:FuncData,(∀(s:Shared) (u:Value),BindsTo s fd ⟨[u],[]⟩ [("_law_script",u)])/\∀base:Heap,(K w.params).In base->base.Ns mainGlobals mg->FnOk l.prog w (K w.params) mg base CX0 40 fa fd ["_law_script"] (spF (K w.params) [false] (sem T bn 40 "law"))) :
  PySem.W.WalkO q loose XP YP l.row.toRowW d [] (fun f vs=>PySem.call f vs) :=
 L2.walk_ofT (n:=63) (k:=40) (x := "_law_script") (CX:=fun _=>CX0) (sp:=fun w=>spF (K w.params) [false] (sem T bn 40 "law")) hn (by decide) hdf ⟨rfl,by decide,by decide,rfl⟩ hY nt nd hrec F (fun _ _ _ a ns hl st hS=>zn0 st.sub st.tb hS (ws':=[.frl (ns.map W.int)]) (zve ns hl) rfl) fun _ _ _ _ _ z=>z
end My
open PySem PySem.W PyProof.Rows
set_option maxRecDepth 100000 in
set_option maxHeartbeats 0 in
theorem PySem.Challenge.cw_yesnowords_k70_polynomials_written_and_r_holds : PySem.Challenge.rw_yesnowords_k70_polynomials_written_and_r.Holds := by
 w_on;o_law;k_head;(case hw=>w_witness2)
 k_fill
 refine My.walk (l:=PySem.Challenge.rw_yesnowords_k70_polynomials_written_and_r) rfl rfl (fun w h Y=>by first | exact PySem.W.kIn_of Y | exact PySem.W.km_in_of Y) ?nt ?nd ?hrec ?F
 case nt=>exact fun w=>by kernel_rfl
 case nd=>exact fun w=>by kernel_rfl
 case hrec =>
  intro w x hx c P e;simp only [L2.lams,List.mem_cons,List.not_mem_nil,or_false] at hx;rcases hx with rfl | rfl | rfl | rfl | rfl
  ·exact Option.isSome_iff_exists.mp (by kernel_rfl)
  ·exact nomatch (Eq.trans (by kernel_rfl) e:(none:Option (Addr × Addr))=some (c,P))
  ·exact nomatch (Eq.trans (by kernel_rfl) e:(none:Option (Addr × Addr))=some (c,P))
  ·exact nomatch (Eq.trans (by kernel_rfl) e:(none:Option (Addr × Addr))=some (c,P))
  ·exact Option.isSome_iff_exists.mp (by kernel_rfl)
 case F =>
  intro w mg fa h KX G hmg;refine My.all_mk KX G hmg ?xD ?xM ?xZ ?xS
  case xS =>
   refine' My.zs_i ?_
   any_goals k_is
  case xM=>exact My.all_c (by kernel_rfl) (My.all_c (by kernel_rfl) (My.all_n))
  case xZ =>
   refine' My.all_c ?_ (My.all_c ?_ (My.all_c ?_ (My.all_c ?_ (My.all_c ?_ (My.all_c ?_ (My.all_c ?_ (My.all_c ?_ (My.all_c ?_ (My.all_c ?_ (My.all_c ?_ (My.all_c ?_ (My.all_c ?_ (My.all_c ?_ (My.all_c ?_ (My.all_c ?_ (My.all_c ?_ (My.all_c ?_ (My.all_c ?_ (My.all_c ?_ (My.all_c ?_ (My.all_c ?_ (My.all_c ?_ (My.all_n)))))))))))))))))))))))
   any_goals k_is
  case xD =>
   refine' My.all_c (My.nD_i (n := "is_whole") rfl ?_ ?_ ?_ ?_) (My.all_c (My.nD_i (n := "term_text") rfl ?_ ?_ ?_ ?_) (My.all_c (My.nD_i (n := "poly_text") rfl ?_ ?_ ?_ ?_) (My.all_c (My.nD_i (n := "rises") rfl ?_ ?_ ?_ ?_) (My.all_c (My.nD_i (n := "term_order") rfl ?_ ?_ ?_ ?_) (My.all_c (My.nD_i (n := "is_term") rfl ?_ ?_ ?_ ?_) (My.all_c (My.nD_i (n := "is_poly") rfl ?_ ?_ ?_ ?_) (My.all_c (My.nD_i (n := "term_read") rfl ?_ ?_ ?_ ?_) (My.all_c (My.nD_i (n := "poly_read") rfl ?_ ?_ ?_ ?_) (My.all_c (My.nD_i (n := "read_poly") rfl ?_ ?_ ?_ ?_) (My.all_c (My.nD_i (n := "_law_hand") rfl ?_ ?_ ?_ ?_) (My.all_c (My.nD_i (n := "_law_take") rfl ?_ ?_ ?_ ?_) (My.all_c (My.nD_i (n := "_law_bits") rfl ?_ ?_ ?_ ?_) (My.all_c (My.nD_i (n := "_law_terms") rfl ?_ ?_ ?_ ?_) (My.all_c (My.nD_i (n := "_law_poly") rfl ?_ ?_ ?_ ?_) (My.all_c (My.nD_i (n := "_law_poly_text") rfl ?_ ?_ ?_ ?_) (My.all_c (My.nD_i (n := "law") rfl ?_ ?_ ?_ ?_) (My.all_n)))))))))))))))))
   any_goals (first | (delta My.nA;k_is) | (delta My.nL;k_is) | (delta My.nC;k_is) | (delta My.nK;k_is) | k_is)