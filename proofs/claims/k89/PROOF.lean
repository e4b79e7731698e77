import PyProof.Rows.All
import Wide.All
import OpenK.AllK
import Wide.FinOn
import Lean
import PyProof.EqAt
import PyProof.EqKinds
import PyProof.TupleCall
import PySem.Challenge.RW_yesnowords_k89_forms_and_their_weights
set_option Elab.async false
set_option linter.all false
set_option maxRecDepth 100000
namespace PySem.W.Fast
def tw16324098512959319412:=0
def tw10146095991898224356:=0
def tw12687009252004659744:=0
def tw13754934601920907265:=0
def tw16930101033543626453:=0
def tw7641116873050451801:=0
def tw8644769236152957747:=0
def tw10274811153152372756:=0
def tw6349893809842465805:=0
def tw10814784206413927821:=0
def tw9494391586602099926:=0
def tw7174240260069770361:=0
def tw13061238533353057950:=0
def tw8586922704875904385:=0
def tw8690393048415486399:=0
def tw2358058961785817204:=0
def tw1397304906157407380:=0
def tw2898546387565131879:=0
def tw8592662065731270000:=0
def tw322606298418086684:=0
def tw3709763177394007503:=0
def tw6726635312328890490:=0
def tw7547537766302574096:=0
def tw3001849768014225178:=0
def tw732226025166542080:=0
def tw3498657959384793560:=0
def tw4150481589425067706:=0
def tw9799160886861185242:=0
def tw15711103815277591543:=0
def tw16635739414050021406:=0
def tw13928662180754213955:=0
def tw8955180835711191470:=0
def tw1740219928804347223:=0
def tw2582396255762376129:=0
def tw6868914028907812803:=0
def tw8369793510454134885:=0
def tw13752802316523701333:=0
def tw3746621802460791384:=0
def tw7940287508987725618:=0
def tw1398426723032602343:=0
def tw6539615184142308804:=0
def tw4391908791602511944:=0
def tw16850147897774840999:=0
def tw11849573053762624216:=0
def tw8753009841605132263:=0
def tw3759352877653820712:=0
def tw9325240416134014156:=0
def tw11571387897216889394:=0
def tw8030393192691262882:=0
def tw5148232127359366931:=0
def tw1316474960041645025:=0
def tw3739741577067190008:=0
def tw13639933640760937249:=0
def tw4400149915301604676:=0
def tw7692555561381274417:=0
def tw2022302758785534382:=0
def tw15706161633752955337:=0
def tw16816043548441244800:=0
def tw16214216381874096892:=0
def tw2127481935024705254:=0
def tw8782748552697850382:=0
def tw1858931299617743354:=0
def tw2974169924290742299:=0
def tw4033824362142817612:=0
def tw7972680215811703257:=0
def tw3657030975839115687:=0
def tw17926142343475493671:=0
def tw7872209194229296423:=0
def tw6094597834239220285:=0
def tw17619519754968571697:=0
def tw11534502778336115129:=0
def tw1951115582502935500:=0
def tw9469420911999920201:=0
def tw7565145714719147257:=0
def tw9562678953649991440:=0
def tw13917246323944308531:=0
def tw10679094485468445023:=0
def tw4665456365735218384:=0
def tw6270719184625048592:=0
def tw12218363525640518776:=0
def tw6747817830161856324:=0
def tw2118229599407168041:=0
def tw6396600824710149385:=0
def tw4867862244394052108:=0
def tw5856855402309764714:=0
def tw6763099757960896420:=0
def tw15087505856852432553:=0
def tw3907610781167216627:=0
def tw11777459386168453513:=0
def tw2589560637797463533:=0
def tw12192466407143545057:=0
def tw4377081581710001848:=0
def tw7219729342347610432:=0
def tw17142393087009737639:=0
def tw16444175322086932851:=0
def tw14228445273044367643:=0
def tw9341856458990701694:=0
def tw7194083757349548375:=0
def tw12888044346320235340:=0
def tw16206126564565486162:=0
def tw3132671549658483220:=0
def tw14635044427197202402:=0
def tw15414884460182543374:=0
def tw8969631208325235044:=0
def tw18017020010617926587:=0
def tw9516469131225770338:=0
def tw11374690329929967689:=0
def tw1978827086672334265:=0
def tw9576329660149775337:=0
end PySem.W.Fast
theorem bS {α β}{o:Option α}{f:α->Option β}{b} (h:o.bind f=some b):∃a,o=some a/\f a=some b:=Option.bind_eq_some_iff.mp h
theorem sI {α}{a b:α} (h:some a=some b):a=b:=Option.some.inj h
namespace L2
open PySem PySem.Spec PyProof.Rows
theorem aG {P:Prop} (h:∀G:Prop,(P->G)->G):P:=h P id
noncomputable abbrev Key:=Sum Int Str
noncomputable def z26:Key->Value->Bool
 | .inl k,v=>Value.isInt k v
 | .inr x,v=>Value.isStrOf x v
noncomputable def keyH (w:World):Key->Int
 | .inl k=>hashInt k
 | .inr x=>hashStr w x
theorem keyIs_shape:∀{k:Key}{v:Value},z26 k v=true->(∃i t,k=Sum.inl i/\v=Value.int i t)\/(∃x t,k=Sum.inr x/\v=Value.str x t)
  | .inl i,v,h=>by
    obtain ⟨t,e⟩:=Value.isInt_shape (k:=i) (v:=v) h;exact .inl ⟨i,t,rfl,e⟩
  | .inr x,v,h=>by
    obtain ⟨t,e⟩:=Value.isStrOf_shape (x:=x) (v:=v) h;exact .inr ⟨x,t,rfl,e⟩
theorem z1l (a b:Int):decide ((Sum.inl a:Key)=Sum.inl b)=(a == b):=by
 by_cases e:a=b
 ·subst e;simp
 ·have h : ¬ (Sum.inl a : Key) = Sum.inl b := fun q => e (Sum.inl.inj q);rw [decide_eq_false h];exact (beq_eq_false_iff_ne.mpr e).symm
theorem z0c (a b:Str):decide ((Sum.inr a:Key)=Sum.inr b)=decide (a=b):=by
 by_cases e:a=b
 ·subst e;simp
 ·have h : ¬ (Sum.inr a : Key) = Sum.inr b := fun q => e (Sum.inr.inj q);rw [decide_eq_false h,decide_eq_false e]
theorem z2j (a:Int) (b:Str):decide ((Sum.inl a:Key)=Sum.inr b)=false:=decide_eq_false (fun q=>nomatch q)
theorem z1z (a:Str) (b:Int):decide ((Sum.inr a:Key)=Sum.inl b)=false:=decide_eq_false (fun q=>nomatch q)
noncomputable def zoz (prog:Program) (w:World):PySem.KeyKind prog w Key where
 is:=z26
 hash:=keyH w
 inj:=fun v a b ha hb=>by
  rcases keyIs_shape ha with ⟨i,t,rfl,rfl⟩ | ⟨x,t,rfl,rfl⟩
  ·rcases keyIs_shape hb with ⟨j, u, rfl, e⟩ | ⟨y, u, rfl, e⟩
   ·injection e with e1 _;rw [e1]
   ·exact nomatch e
  ·rcases keyIs_shape hb with ⟨j, u, rfl, e⟩ | ⟨y, u, rfl, e⟩
   ·exact nomatch e
   ·injection e with e1 _;rw [e1]
 byValue:=fun k v h=>by
  rcases keyIs_shape h with ⟨i,t,rfl,rfl⟩ | ⟨x,t,rfl,rfl⟩<;>rfl
 pyHash:=fun hv h=>by
  rcases keyIs_shape hv with ⟨i,t,rfl,rfl⟩ | ⟨x,t,rfl,rfl⟩
  ·exact wpAny_pyHash_int h
  ·exact wpAny_pyHash_str h
 eqBool:=fun hu hv h=>by
  rcases keyIs_shape hu with ⟨i,t,rfl,rfl⟩ | ⟨x,t,rfl,rfl⟩
  ·rcases keyIs_shape hv with ⟨j, u, rfl, rfl⟩ | ⟨y, u, rfl, rfl⟩
   ·rw [z1l] at h;exact wpAny_eqBool_int h
   ·rw [z2j] at h;exact SeqAt.EqAt.int_str i t y u _ _ _ _ h
  ·rcases keyIs_shape hv with ⟨j, u, rfl, rfl⟩ | ⟨y, u, rfl, rfl⟩
   ·rw [z1z] at h;exact SeqAt.EqAt.str_int x t j u _ _ _ _ h
   ·rw [z0c] at h;exact wpAny_eqBool_str h
 «strs»:=fun k x t v h=>by
  rcases keyIs_shape h with ⟨i,u,rfl,e⟩ | ⟨y,u,rfl,e⟩
  ·exact nomatch e
  ·injection e with e1 _;subst e1;cases v<;>rfl
end L2
namespace L2
open PySem PySem.Spec PyProof.Rows
inductive V where
 | non | bl (b:Bool) | int (i:Int) | str (x:Str) | byt (b:Array UInt8) | flt (b:UInt64) | ref (a:Addr) | ty (n:String)
 deriving DecidableEq
noncomputable def RelV:V->Value->Prop
 | .non,u=>u=Value.none
 | .bl b,u=>u=Value.bool b
 | .int i,u=>∃t,u=Value.int i t
 | .str x,u=>∃t,u=Value.str x t
 | .byt b,u=>∃t,u=Value.bytes b t
 | .flt b,u=>∃t,u=Value.float b t
 | .ref a,u=>u=Value.ref a
 | .ty n,u=>u=Value.type n
noncomputable abbrev Vals:List V->List Value->Prop:=Paired RelV
theorem Vals.length {xs:List V}{us:List Value} (r:Vals xs us):xs.length=us.length:=Paired.length r
theorem Vals.get:∀{xs:List V}{us:List Value}{i:Nat}{x:V},Vals xs us->xs[i]?=some x->∃u,us[i]?=some u/\RelV x u
  | _,_,_,_,.nil,e=>by simp at e
  | _,_,0,_,.cons r _,e=>by simp at e;subst e;exact ⟨_,rfl,r⟩
  | _,_,i+1,x,.cons _ t,e=>by
    obtain ⟨u,h1,h2⟩:=Vals.get (i:=i) (x:=x) t (by simpa using e);exact ⟨u,by simpa using h1,h2⟩
theorem Vals.set {x:V}{u:Value} (r:RelV x u):∀{xs:List V}{us:List Value} (i:Nat),Vals xs us->Vals (xs.set i x) (us.set i u)
 | _,_,_,.nil=>.nil
 | _,_,0,.cons _ t=>.cons r t
 | _,_,i+1,.cons q t=>.cons q (Vals.set r i t)
theorem Vals.append:∀{xs ys:List V}{us ws:List Value},Vals xs us->Vals ys ws->Vals (xs++ys) (us++ws)
 | _,_,_,_,.nil,s=>s
 | _,_,_,_,.cons r t,s=>.cons r (Vals.append t s)
theorem Vals.take:∀{xs:List V}{us:List Value} (n:Nat),Vals xs us->Vals (xs.take n) (us.take n)
 | _,_,0,_=>.nil
 | _,_,_+1,.nil=>.nil
 | _,_,n+1,.cons r t=>.cons r (Vals.take n t)
theorem Vals.drop:∀{xs:List V}{us:List Value} (n:Nat),Vals xs us->Vals (xs.drop n) (us.drop n)
 | _,_,0,r=>r
 | _,_,_+1,.nil=>.nil
 | _,_,n+1,.cons _ t=>Vals.drop n t
noncomputable def RelO:Option V->Option Value->Prop
 | some v,some u=>RelV v u
 | none,none=>True
 | _,_=>False
noncomputable def KV {κ:Type}:List (κ × V)->List (κ × Value)->Prop:=Paired fun (p:κ × V) (q:κ × Value)=>p.1=q.1/\RelV p.2 q.2
noncomputable def kV:Key->V
 | .inl i=>.int i
 | .inr x=>.str x
inductive HO where
 /-- a list -/
 | lst (xs:List V)
 /-- a tuple (never changes) -/
 | tup (xs:List V)
 /-- a dict whose keys are ints and texts;one whose keys are tuples of ints and texts (the empty one is both) -/
 | dK (kvs:List (Key × V)) | dT (kvs:List (List Key × V))
 /-- a set of ints: its members,its size -/
 | set (S:Int->Bool) (n:Nat)
 /-- an instance of the class at C,its dict at dx,its attributes -/
 | ins (C dx:Addr) (fs:List (Str × V))
 /-- the dict of the instance at x -/
 | own (x:Addr)
 /-- the dict of an exception -/
 | xd (fs:List (Str × V))
 /-- a bound method,f of x -/
 | met (f x:Addr)
 /-- a range object lo,lo+1,.. below hi -/
 | rng (lo hi:Int)
 /-- a thing that is known to the object (the script;a dict while a loop walks it): read,never written while it is so -/
 | frz (o:Obj) (u:HO)
 /-- a code object's table -/
 | tbl (ps:Array Value)
 /-- any other thing,by what is true of its one object (a def of one's own: SetO a S n:=HO.ext fun h=>..) -/
 | ext (φ:Heap->Prop)
noncomputable abbrev Hp:=Addr->Option HO
noncomputable def upd (H:Hp) (a:Addr) (o:HO):Hp:=fun b=>if b=a then some o else H b
theorem upd_same {H:Hp}{a:Addr}{o:HO}:upd H a o a=some o:=by unfold upd;rw [if_pos rfl]
theorem upd_ne {H:Hp}{a b:Addr}{o:HO} (h:b≠a):upd H a o b=H b:=by unfold upd;rw [if_neg h]
theorem zad {H:Hp}{a b:Addr}{o:HO} (h:H a=some o) (h' : H b=none):a≠b:=by
 intro e;subst e;rw [h] at h';cases h'
section
variable (P:Program) (w:World)
noncomputable def zb6 (H:Hp) (h:Heap) (a:Addr):HO->Prop
 | .lst xs=>xs.length<=sizeLine/\∃(its:List Value) (n:Nat),Vals xs its/\h.get? a=some { cls:=.type "list",data:=.seq its.toArray n }
 | .tup xs=>xs.length<=sizeLine/\∃its:List Value,Vals xs its/\IsTup h a its.toArray
 | .dK kvs=>kvs.length<=sizeLine/\(a == sysModules)=false/\∃vs,KV kvs vs/\h.DictOf (zoz P w) a vs
 | .dT kvs=>kvs.length<=sizeLine/\(a == sysModules)=false/\∃xs:List (List Key × Addr × Value),
   Paired (fun (p:List Key × V) (q:List Key × Addr × Value)=>p.1=q.1/\H q.2.1=some (.tup (p.1.map kV))/\RelV p.2 q.2.2) kvs xs /\
   ∃o es ep,h.get? a=some o/\o.ExactDict/\o.data=.dict es ep/\es.toList=xs.map (entryOfKey (tupleKind (zoz P w)))/\(xs.map (·.1)).Nodup
 | .set S n=>h.SetOf (intKind P w) a S n
 | .ins C dx fs=>H dx=some (.own a)/\fs.length<=1000/\dx≠a/\h.get? a=some (PySem.W.instObj C dx) /\
   ∃mA,h.Ns1 dx mA/\(∀f,RelO (fs.lookup f) (mA f))/\PySem.Within mA (fs.map (·.1))
 | .own _=>∃o,h.get? a=some o
 | .xd fs=>∃mA,h.Ns1 a mA/\∀f,RelO (fs.lookup f) (mA f)
 | .rng lo hi=>∃t u v,h.get? a=some { cls:=.type "range",data:=.fields #[.int lo t,.int hi u,.int 1 v] }
 | .frz o u=>h.get? a=some o/\zb6 H h a u
 | .tbl ps=>h.get? a=some { cls:=.none,data:=.fields ps }
 | .met f x=>h.get? a=some (PySem.W.methodObj (.ref f) (.ref x))
 | .ext φ=>φ h/\(∃o,h.get? a=some o)/\∀h1 h2:Heap,φ h1->(∀o,h1.get? a=some o->h2.get? a=some o)->φ h2
noncomputable def HOk (H:Hp) (h:Heap):Prop:=∀a o,H a=some o->zb6 P w H h a o
end
section
variable {P:Program}{w:World}{H H' : Hp}{h h' : Heap}{a:Addr}{o:HO}
theorem zb6.lt (x:zb6 P w H h a o):a < h.objs.size:=by
 cases o with
 | lst xs=>obtain ⟨_,_,_,_,e⟩:=x;exact Heap.lt_size e
 | tup xs=>obtain ⟨_,_,_,p⟩:=x;exact p.lt
 | dK kvs=>obtain ⟨_,_,_,_,o,_,_,e,_⟩:=x;exact Heap.lt_size e
 | dT kvs=>obtain ⟨_,_,_,_,o,_,_,e,_⟩:=x;exact Heap.lt_size e
 | set S n=>obtain ⟨o,_,_,_,e,_⟩:=x;exact Heap.lt_size e
 | ins C dx fs=>obtain ⟨_,_,_,e,_⟩:=x;exact Heap.lt_size e
 | own y=>obtain ⟨_,e⟩:=x;exact Heap.lt_size e
 | xd fs=>obtain ⟨_,⟨_,_,_,e,_⟩,_⟩:=x;exact Heap.lt_size e
 | rng lo hi=>obtain ⟨_,_,_,e⟩:=x;exact Heap.lt_size e
 | frz ob u=>obtain ⟨e,_⟩:=x;exact Heap.lt_size e
 | tbl ps=>exact Heap.lt_size (show h.get? a=some _ from x)
 | met f y=>exact Heap.lt_size (show h.get? a=some _ from x)
 | ext φ=>obtain ⟨_,⟨_,e⟩,_⟩:=x;exact Heap.lt_size e
theorem Paired.mapP {α β:Type}{F G:α->β->Prop}:∀{l₁:List α}{l₂:List β},Paired F l₁ l₂->(∀a b,F a b->G a b)->Paired G l₁ l₂
 | _,_,.nil,_=>.nil
 | _,_,.cons r t,f=>.cons (f _ _ r) (Paired.mapP t f)
theorem zb6.stay (x:zb6 P w H h a o) (k:∀b u,(b=a\/H b=some (.own a))->h.get? b=some u->h'.get? b=some u)
    (ho:∀b,H b=some (.own a)->H' b=some (.own a)) (ht:∀b xs,H b=some (.tup xs)->H' b=some (.tup xs)):zb6 P w H' h' a o:=by
  induction o with
  | lst xs=>obtain ⟨z,its,n,r,e⟩:=x;exact ⟨z,its,n,r,k _ _ (.inl rfl) e⟩
  | tup xs=>obtain ⟨z,its,r,ob,e,c⟩:=x;exact ⟨z,its,r,ob,k _ _ (.inl rfl) e,c⟩
  | dK kvs=>obtain ⟨z,y,vs,r,ob,es,ep,e,c⟩:=x;exact ⟨z,y,vs,r,ob,es,ep,k _ _ (.inl rfl) e,c⟩
  | dT kvs =>
    obtain ⟨z,y,xs,r,ob,es,ep,e,c⟩:=x;exact ⟨z,y,xs,Paired.mapP r fun p q z=>⟨z.1,ht _ _ z.2.1,z.2.2⟩,ob,es,ep,k _ _ (.inl rfl) e,c⟩
  | set S n=>obtain ⟨ob,es,ep,t,e,c⟩:=x;exact ⟨ob,es,ep,t,k _ _ (.inl rfl) e,c⟩
  | ins C dx fs =>
    obtain ⟨d,z,ne,e,mA,⟨od,es,ep,e2,c⟩,r⟩:=x;exact ⟨ho _ d,z,ne,k _ _ (.inl rfl) e,mA,⟨od,es,ep,k _ _ (.inr d) e2,c⟩,r⟩
  | own y=>obtain ⟨ob,e⟩:=x;exact ⟨ob,k _ _ (.inl rfl) e⟩
  | xd fs=>obtain ⟨mA,⟨od,es,ep,e,c⟩,r⟩:=x;exact ⟨mA,⟨od,es,ep,k _ _ (.inl rfl) e,c⟩,r⟩
  | rng lo hi=>obtain ⟨t,u,v,e⟩:=x;exact ⟨t,u,v,k _ _ (.inl rfl) e⟩
  | frz ob u ih=>obtain ⟨e,q⟩:=x;exact ⟨k _ _ (.inl rfl) e,ih q⟩
  | tbl ps =>
    have e:h.get? a=some { cls:=.none,data:=.fields ps }:=x;show h'.get? a=some { cls:=.none,data:=.fields ps };exact k a _ (.inl rfl) e
  | met f y =>
    have e:h.get? a=some (PySem.W.methodObj (.ref f) (.ref y)):=x;show h'.get? a=some (PySem.W.methodObj (.ref f) (.ref y));exact k a _ (.inl rfl) e
  | ext φ=>obtain ⟨p,⟨o,e⟩,st⟩:=x;exact ⟨st _ _ p fun o q=>k _ _ (.inl rfl) q,⟨o,k _ _ (.inl rfl) e⟩,st⟩
theorem HOk.lt (x:HOk P w H h) (e:H a=some o):a < h.objs.size:=(x a o e).lt
theorem HOk.fresh (x:HOk P w H h) (e:h.objs.size<=a):H a=none:=by
 cases q:H a with
 | none=>rfl
 | some u=>exact absurd (Nat.lt_of_lt_of_le (x.lt q) e) (Nat.lt_irrefl _)
theorem HOk.kept (x:HOk P w H h) (k:∀b u,h.get? b=some u->h'.get? b=some u):HOk P w H h':=fun a o e =>
 (x a o e).stay (fun b u _ q=>k b u q) (fun _ q=>q) fun _ _ q=>q
theorem HOk.laid (x:HOk P w H h) (k:∀b u,h.get? b=some u->h'.get? b=some u) (hp:h.objs.size<=a) (new:zb6 P w (upd H a o) h' a o):HOk P w (upd H a o) h':=fun b u e=>by
 have hn:=x.fresh hp;by_cases hb:b=a
 ·subst hb;rw [upd_same] at e;obtain rfl:=sI e;exact new
 ·rw [upd_ne hb] at e;exact (x b u e).stay (fun c v _ q=>k c v q) (fun c q=>by rw [upd_ne (zad q hn)];exact q) fun c xs q=>by rw [upd_ne (zad q hn)];exact q
end
noncomputable def Rd (H:Hp) (a:Addr) (u:HO):Prop:=H a=some u\/∃o,H a=some (.frz o u)
theorem Rd.ok {P:Program}{w:World}{H:Hp}{h:Heap}{a:Addr}{u:HO} (r:Rd H a u) (x:HOk P w H h):zb6 P w H h a u:=by
 rcases r with r | ⟨o,r⟩
 ·exact x a u r
 ·obtain ⟨_, q⟩ := x a _ r;exact q
noncomputable def Mut:Option HO->Prop
 | some (.lst _)=>True
 | some (.dK _)=>True
 | some (.dT _)=>True
 | some (.set _ _)=>True
 | some (.ins _ _ _)=>True
 | some (.ext _)=>True
 | _=>False
section
variable {P:Program}{w:World}{H:Hp}{h h' : Heap}{x e:Addr}{o' : HO}
theorem HOk.write (ok:HOk P w H h) (mu:Mut (H x)) (he:e=x\/H e=some (.own x)) (k:∀b u,b≠e->h.get? b=some u->h'.get? b=some u) (heo:∃u,h'.get? e=some u)
  (new:zb6 P w (upd H x o') h' x o'):HOk P w (upd H x o') h':=fun b u q=>by
 have nown:∀c y,H c=some (.own y)->c≠x:=fun c y r z=>by subst z;rw [r] at mu;exact mu
 have ntup:∀c xs,H c=some (.tup xs)->c≠x:=fun c xs r z=>by subst z;rw [r] at mu;exact mu
 by_cases hb:b=x
 ·subst hb;rw [upd_same] at q;obtain rfl:=sI q;exact new
 ·rw [upd_ne hb] at q;by_cases hbe:b=e
  ·have q' : H b=some (.own x):=by
    rcases he with z | z
    ·exact absurd (hbe.trans z) hb
    ·rw [hbe];exact z
   rw [q] at q';obtain rfl:=sI q';obtain ⟨v,hv⟩:=heo;exact ⟨v,by rw [hbe];exact hv⟩
  ·refine (ok b u q).stay (fun c v hc r => k c v ?_ r) (fun c r => by rw [upd_ne (nown c b r)]; exact r) fun c xs r => by rw [upd_ne (ntup c xs r)]; exact r
   rcases hc with rfl | hc
   ·exact hbe
   ·rintro rfl;rcases he with z | z
    ·exact nown c b hc z
    ·rw [hc] at z;cases z;exact hb rfl
end
structure Un (fs ex:List Addr) (H H' : Hp) (h h' : Heap):Prop where
 keep:∀b o,h.get? b=some o->H b=none->b ∉ fs->b ∉ ex->h'.get? b=some o
 slot:∀b o,h.get? b=some o->H b=none->b∈fs->b ∉ ex->∃sl,h'.get? b=some { o with slots:=sl }
 free:∀b o,h.get? b=some o->H b=none->b ∉ ex->H' b=none
 there:∀b o,h.get? b=some o->b ∉ ex->∃o',h'.get? b=some o'
 tups:∀b xs,H b=some (.tup xs)->H' b=some (.tup xs)
 frzs:∀b o u,H b=some (.frz o u)->H' b=some (.frz o u)
 tbls:∀b ps,H b=some (.tbl ps)->∃more,H' b=some (.tbl (ps++more))
section
variable {fs fs' ex ex' : List Addr}{H H1 H2:Hp}{h h1 h2 h' : Heap}{a x e:Addr}{o:HO}
theorem Un.any (u:Un fs ex H H1 h h1) {b:Addr}{ob:Obj} (q:h.get? b=some ob) (n:H b=none) (hx:b ∉ ex):∃sl,h1.get? b=some { ob with slots:=sl }:=by
 by_cases hb:b∈fs
 ·exact u.slot b ob q n hb hx
 ·exact ⟨ob.slots,u.keep b ob q n hb hx⟩
theorem Un.kept (k:∀b u,h.get? b=some u->h'.get? b=some u):Un fs ex H H h h' :=
 ⟨fun b ob q _ _ _=>k b ob q,fun b ob q _ _ _=>⟨ob.slots,k b ob q⟩,fun _ _ _ n _=>n,fun b ob q _=>⟨ob,k b ob q⟩,fun _ _ q=>q,fun _ _ _ q=>q,fun _ ps q=>⟨#[],by rw [q];simp⟩⟩
theorem Un.refl:Un fs ex H H h h:=Un.kept fun _ _ q=>q
theorem Un.laid (k:∀b u,h.get? b=some u->h'.get? b=some u) (hp:h.objs.size<=a) (hn:H a=none):Un fs ex H (upd H a o) h h' where
 keep:=fun b u q _ _ _=>k b u q
 slot:=fun b u q _ _ _=>⟨u.slots,k b u q⟩
 free:=fun b u q n _=>by rw [upd_ne (Nat.ne_of_lt (Nat.lt_of_lt_of_le (Heap.lt_size q) hp))];exact n
 there:=fun b u q _=>⟨u,k b u q⟩
 tups:=fun b xs q=>by rw [upd_ne (zad q hn)];exact q
 frzs:=fun b u xs q=>by rw [upd_ne (zad q hn)];exact q
 tbls:=fun b ps q=>⟨#[],by rw [upd_ne (zad q hn),q];simp⟩
theorem Un.write (mu:Mut (H x)) (he:e=x\/H e=some (.own x)) (k:∀b u,b≠e->h.get? b=some u->h'.get? b=some u) (heo:∃u,h'.get? e=some u):Un fs ex H (upd H x o) h h':=by
 have hx:∀b,H b=none->b≠x:=fun b n z=>by subst z;rw [n] at mu;exact mu
 have hb:∀b,H b=none->b≠e:=fun b n z=>by
  subst z;rcases he with r | r
  ·exact hx b n r
  ·rw [n] at r;cases r
 have hm:∀b u,H b=some u->¬ Mut (some u)->b≠x:=fun b u q nm z=>by subst z;rw [q] at mu;exact nm mu
 refine ⟨fun b u q n _ _=>k b u (hb b n) q,fun b u q n _ _=>⟨u.slots,k b u (hb b n) q⟩,fun b u q n _=>by rw [upd_ne (hx b n)];exact n,fun b u q _=>?_,
  fun b xs q=>by rw [upd_ne (hm b _ q fun z=>z)];exact q,fun b u xs q=>by rw [upd_ne (hm b _ q fun z=>z)];exact q,fun b ps q=>⟨#[],by rw [upd_ne (hm b _ q fun z=>z),q];simp⟩⟩
 by_cases hbe:b=e
 ·subst hbe;exact heo
 ·exact ⟨u,k b u hbe q⟩
end
noncomputable def trk (h:Heap) (H:Hp):List Addr:=(List.range h.objs.size).filter fun a=>(H a).isSome
noncomputable def hidT (h:Heap) (H:Hp):Heap:=PySem.W.hideAll h (trk h H)
theorem zpb (h:Heap) (H:Hp):(hidT h H).objs.size=h.objs.size:=PySem.W.hideAll_size _ _
theorem zt6 {h:Heap}{H:Hp}{b:Addr}{o:Obj} (e:h.get? b=some o) (n:H b=none):(hidT h H).get? b=some o :=
 PySem.W.hideAll_get _ e fun hm=>by
  have q:(H b).isSome=true:=(List.mem_filter.mp hm).2;rw [n] at q;simp at q
theorem zy7 {h:Heap}{H:Hp}{b:Addr}{o:Obj} (e:(hidT h H).get? b=some o):h.get? b=some o/\H b=none:=by
  have e' : h.get? b=some o:=PySem.W.of_hideAll (trk h H) e;refine ⟨e',?_⟩;cases q:H b with
  | none=>rfl
  | some x =>
    have hm:b∈trk h H:=List.mem_filter.mpr ⟨List.mem_range.mpr (Heap.lt_size e'),by simp [q]⟩;have z:(hidT h H).get? b=none:=PySem.W.hideAll_none (trk h H) hm;rw [z] at e;cases e
end L2
namespace L2
open PySem PySem.Spec PyProof.Rows
structure Mod (K:PySem.W.Frag) (mg:Str->Option Value) (base:Heap):Prop where
 kin:K.In base
 glob:base.Ns mainGlobals mg
 blt:∃mb,base.Ns builtinsNs mb/\∀x:Str,x≠"__name__" -> mb x=bootBuiltins x
 nolimit:base.NoLimit
 bmn:∃(b:Addr) (ob:Obj),mg "__builtins__" = some (.ref b)/\b≠builtinsNs/\base.get? b=some ob/\ob.cls=.type "module"/\ob.dict=some builtinsNs/\ob.data=.plain
structure Cx where
 prog:Program
 w:World
 K:PySem.W.Frag
 mg:Str->Option Value
 base:Heap
 A:Around
 N:List Str
 s₀:Shared
 H₀:Hp
 env:Env
 outer:List Env
 stack:List Env
 ex:List Addr
 fn:Str->Bool
 calm:Bool
 pn:List (Addr × Obj)
 xe:Value->Shared->Prop
noncomputable def frs (l:List Env):List Addr:=l.filterMap (·.frame)
noncomputable abbrev Cx.fs (X:Cx):List Addr:=frs X.outer
noncomputable def Vis (sc:Scope) (x:Str):Prop:=sc.names.lookup x=some .local\/sc.names.lookup x=some .cell\/sc.names.lookup x=some .free
noncomputable def Loc (sc:Scope) (x:Str):Prop:=sc.names.lookup x=some .local\/sc.names.lookup x=some .cell
noncomputable def Look (env:Env) (h:Heap) (m:Str->Option Value) (x:Str) (u:Value):Prop :=
 (env.kindOf x=some .local/\m x=some u)\/((env.kindOf x=some .cell\/env.kindOf x=some .free)/\∃c,env.cells.lookup x=some c/\h.IsCell c (some u))
structure Cx.Ok (X:Cx):Prop where
 mod:Mod X.K X.mg X.base
 kind:X.env.scope.kind=.function
 glob:X.env.globals=mainGlobals
 blt:X.env.builtins=builtinsNs
 above:X.s₀.heap.objs.size<=X.env.locals
 inj:∀x y c,X.env.cells.lookup x=some c->X.env.cells.lookup y=some c->x=y
 has:∀x,(X.env.kindOf x=some .cell\/X.env.kindOf x=some .free)->∃c,X.env.cells.lookup x=some c
 cab:∀x c,X.fn x=true->X.env.cells.lookup x=some c->X.s₀.heap.objs.size<=c
 hd:X.calm=true->X.A.handled=none
 frames:X.A.frames=some X.stack
 stk:X.stack=X.outer\/(X.stack=X.env::X.outer/\X.env.frame=some X.env.locals)
 exf:∀b∈X.ex,b≠X.env.locals/\∀x c,X.env.cells.lookup x=some c->c≠b
 bs:∀b o,X.base.get? b=some o->X.s₀.heap.get? b=some o/\X.H₀ b=none
 bsz:X.base.objs.size<=X.s₀.heap.objs.size
 noex:∀b o,X.base.get? b=some o->b ∉ X.ex
 exfs:∀b∈X.ex,b ∉ X.fs
 funs:X.s₀.heap.FunFrames X.base X.outer
 frf:∀b∈X.fs,X.H₀ b=none
structure Inv (X:Cx) (pins:List (Addr × Obj)) (σ:List (Option V)) (H:Hp) (s:Shared):Prop where
 ok:X.Ok
 os:s.os=X.s₀.os
 bare:AllBare s.gens
 base:Un X.fs X.ex X.H₀ H X.s₀.heap s.heap
 loc:∃m,s.heap.Ns X.env.locals m/\∀(i:Nat) (x:Str) (v:V),X.N[i]?=some x->σ[i]?=some (some v)->Vis X.env.scope x->∃u,RelV v u/\Look X.env s.heap m x u
 cell:∀x c,X.env.cells.lookup x=some c->∃v,s.heap.IsCell c v
 free:H X.env.locals=none
 freeC:∀x c,X.env.cells.lookup x=some c->H c=none
 pin:∀p∈X.pn++pins,s.heap.get? p.1=some p.2/\H p.1=none/\p.1≠X.env.locals/\p.1 ∉ X.fs/\∀v,p.2.data≠.cell v
 hok:HOk X.prog X.w H s.heap
 len:σ.length=X.N.length
section
variable {X:Cx}{pins:List (Addr × Obj)}{σ:List (Option V)}{H H' : Hp}{s:Shared}{h' : Heap}
theorem Cx.Ok.nofr (ok:X.Ok) {b:Addr}{o:Obj} (e:X.base.get? b=some o):b ∉ X.fs:=fun hb=>by
 have:=(ok.funs.mem hb).1;rw [e] at this;cases this
theorem Inv.bs (I:Inv X pins σ H s):∀b o,X.base.get? b=some o->s.heap.get? b=some o/\H b=none:=fun b o e =>
 ⟨I.base.keep b o (I.ok.bs b o e).1 (I.ok.bs b o e).2 (I.ok.nofr e) (I.ok.noex b o e),I.base.free b o (I.ok.bs b o e).1 (I.ok.bs b o e).2 (I.ok.noex b o e)⟩
theorem Inv.bk (I:Inv X pins σ H s):∀b o,X.base.get? b=some o->s.heap.get? b=some o:=fun b o e=>(I.bs b o e).1
theorem Inv.mod (I:Inv X pins σ H s):Mod X.K X.mg X.base:=I.ok.mod
theorem Inv.kIn (I:Inv X pins σ H s):X.K.In s.heap:=I.ok.mod.kin.keeps I.bk
theorem Inv.lt (I:Inv X pins σ H s):X.env.locals < s.heap.objs.size:=let ⟨_,hn,_⟩:=I.loc;hn.lt
theorem Inv.sz (I:Inv X pins σ H s):X.s₀.heap.objs.size<=s.heap.objs.size:=Nat.le_trans I.ok.above (Nat.le_of_lt I.lt)
theorem Inv.nofs (I:Inv X pins σ H s) {a:Addr} (h:s.heap.objs.size<=a):a ∉ X.fs:=fun hb=>by
 obtain ⟨_,o,ho,_⟩:=I.ok.funs.mem hb;exact absurd (Nat.lt_of_lt_of_le (Heap.lt_size ho) (Nat.le_trans I.sz h)) (Nat.lt_irrefl _)
theorem Inv.cne (I:Inv X pins σ H s):∀x c,X.env.cells.lookup x=some c->c≠X.env.locals:=fun x c e z=>by
 obtain ⟨v,o,ho,hd⟩:=I.cell x c e;obtain ⟨m,⟨o',es,ep,ho',hd',_⟩,_⟩:=I.loc;rw [z,ho'] at ho;obtain rfl:=sI ho;rw [hd'] at hd;cases hd
theorem Inv.funs (I:Inv X pins σ H s):s.heap.FunFrames X.base X.outer:=by
  have all:∀(l:List Env),(∀b∈frs l,b∈X.fs)->X.s₀.heap.FunFrames X.base l->s.heap.FunFrames X.base l:=by
    intro l
    induction l with
    | nil=>intro _ _;trivial
    | cons env r ih =>
      intro hs hl;refine aG fun _ qG=>?_;obtain ⟨hk,⟨L,o,hf,hn,ho,hd⟩,hr⟩:=hl;refine qG ?_;clear qG;have hL:L∈X.fs:=hs L (by unfold frs;rw [List.filterMap_cons,hf];exact List.mem_cons_self);obtain ⟨sl,e⟩:=I.base.slot L o ho (I.ok.frf L hL) hL fun z=>I.ok.exfs L z hL;exact ⟨hk,⟨L,_,hf,hn,e,hd⟩,ih (fun b hb=>hs b (by unfold frs;rw [List.filterMap_cons,hf];exact List.mem_cons_of_mem _ hb)) hr⟩
  exact all X.outer (fun _ hb=>hb) I.ok.funs
theorem Inv.stack (I:Inv X pins σ H s):s.heap.FunFrames X.base X.stack:=by
 rcases I.ok.stk with e | ⟨e,hf⟩
 ·rw [e];exact I.funs
 ·rw [e];obtain ⟨m,hn,_⟩:=I.loc;refine .cons (by rw [I.ok.kind];decide) hf hn ?_ I.funs;exact Heap.get?_none_of_le (Nat.le_trans I.ok.bsz I.ok.above)
theorem Inv.stkSub (I:Inv X pins σ H s):∀b∈frs X.stack,b∈X.env.locals::X.fs:=fun b hb=>by
 rcases I.ok.stk with e | ⟨e,hf⟩
 ·rw [e] at hb;exact List.mem_cons_of_mem _ hb
 ·rw [e] at hb;unfold frs at hb;rw [List.filterMap_cons,hf] at hb;exact hb
theorem Inv.stkFree (I:Inv X pins σ H s):∀b∈frs X.stack,H b=none:=fun b hb=>by
 rcases List.mem_cons.mp (I.stkSub b hb) with e | hb
 ·rw [e];exact I.free
 ·obtain ⟨_, o, ho, _⟩ := I.ok.funs.mem hb;exact I.base.free b o ho (I.ok.frf b hb) fun z=>I.ok.exfs b z hb
theorem Inv.step {g' : Array GenState}{t' : Nat}{d' : Drawn}{ch:List Addr} (I:Inv X pins σ H s)
  (hch:∀b∈ch,(b∈X.ex\/X.s₀.heap.objs.size<=b)/\b≠X.env.locals/\(∀x c,X.env.cells.lookup x=some c->c≠b)/\∀p∈X.pn++pins,p.1≠b)
  (keep:∀b o,b≠X.env.locals->b ∉ X.fs->b ∉ ch->s.heap.get? b=some o->H b=none->h'.get? b=some o)
  (slot:∀b o,b≠X.env.locals->b∈X.fs->b ∉ ch->s.heap.get? b=some o->H b=none->∃sl,h'.get? b=some { o with slots:=sl }) (free:∀b o,b ∉ ch->s.heap.get? b=some o->H b=none->H' b=none)
  (there:∀b o,b ∉ ch->s.heap.get? b=some o->∃o',h'.get? b=some o')
  (tups:∀b xs,H b=some (.tup xs)->H' b=some (.tup xs)) (frzs:∀b o u,H b=some (.frz o u)->H' b=some (.frz o u)) (tbls:∀b ps,H b=some (.tbl ps)->∃more,H' b=some (.tbl (ps++more)))
  (ns:∀m,s.heap.Ns X.env.locals m->h'.Ns X.env.locals m) (hok:HOk X.prog X.w H' h') (hg:AllBare g') :
  Inv X pins σ H' { s with heap:=h',gens:=g',drawn:=d',toks:=t' }:=by
 have neL:∀b o,X.s₀.heap.get? b=some o->b≠X.env.locals:=fun b o e=>Nat.ne_of_lt (Nat.lt_of_lt_of_le (Heap.lt_size e) I.ok.above);have neC:∀b o,X.s₀.heap.get? b=some o->b ∉ X.ex->b ∉ ch:=fun b o e hx hb=>by
  rcases (hch b hb).1 with z | z
  ·exact hx z
  ·exact absurd (Nat.lt_of_lt_of_le (Heap.lt_size e) z) (Nat.lt_irrefl _)
 have cellK:∀x c,X.env.cells.lookup x=some c->∀v,s.heap.IsCell c v->h'.IsCell c v:=fun x c e v ⟨o,ho,hd⟩=>by
  have nch:c ∉ ch:=fun z=>(hch c z).2.2.1 x c e rfl;by_cases hc:c∈X.fs
  ·obtain ⟨sl, q⟩ := slot c o (I.cne x c e) hc nch ho (I.freeC x c e);exact ⟨_,q,hd⟩
  ·exact ⟨o,keep c o (I.cne x c e) hc nch ho (I.freeC x c e),hd⟩
 refine ⟨I.ok,I.os,hg,⟨fun b o e n hb hx=>?_,fun b o e n hb hx=>?_,fun b o e n hx=>?_,fun b o e hx=>?_,fun b xs e=>tups b xs (I.base.tups b xs e),fun b o xs e=>frzs b o xs (I.base.frzs b o xs e),fun b ps e=>?_⟩,?_,fun x c e=>?_,?_,fun x c e=>?_,fun p hp=>?_,hok,I.len⟩
 ·exact keep b o (neL b o e) hb (neC b o e hx) (I.base.keep b o e n hb hx) (I.base.free b o e n hx)
 ·obtain ⟨sl, e1⟩ := I.base.slot b o e n hb hx;obtain ⟨sl',e2⟩:=slot b _ (neL b o e) hb (neC b o e hx) e1 (I.base.free b o e n hx);exact ⟨sl',e2⟩
 ·obtain ⟨o', e1⟩ := I.base.there b o e hx;exact free b o' (neC b o e hx) e1 (I.base.free b o e n hx)
 ·obtain ⟨o', e1⟩ := I.base.there b o e hx;exact there b o' (neC b o e hx) e1
 ·obtain ⟨m1, e1⟩ := I.base.tbls b ps e;obtain ⟨m2,e2⟩:=tbls b _ e1;exact ⟨m1++m2,by rw [e2,Array.append_assoc]⟩
 ·obtain ⟨m, hn, hl⟩ := I.loc;refine ⟨m,ns m hn,fun i x v e1 e2 e3=>?_⟩;obtain ⟨u,r,l⟩:=hl i x v e1 e2 e3;refine ⟨u,r,?_⟩;rcases l with l | ⟨k,c,e,z⟩
  ·exact .inl l
  ·exact .inr ⟨k,c,e,cellK x c e _ z⟩
 ·obtain ⟨v, z⟩ := I.cell x c e;exact ⟨v,cellK x c e v z⟩
 ·obtain ⟨m, ⟨o, _, _, ho, _⟩, _⟩ := I.loc;exact free _ o (fun z=>(hch _ z).2.1 rfl) ho I.free
 ·obtain ⟨v, o, ho, hd⟩ := I.cell x c e;exact free c o (fun z=>(hch c z).2.2.1 x c e rfl) ho (I.freeC x c e)
 ·obtain ⟨e, n, ne, nf, d⟩ := I.pin p hp;have nch:p.1 ∉ ch:=fun z=>(hch p.1 z).2.2.2 p hp rfl;exact ⟨keep p.1 p.2 ne nf nch e n,free p.1 p.2 nch e n,ne,nf,d⟩
theorem Inv.un {t' : Nat} (I:Inv X pins σ H s) (u:Un X.fs [] H H' s.heap h') (hok:HOk X.prog X.w H' h'):Inv X pins σ H' { s with heap:=h',toks:=t' }:=by
 obtain ⟨m,⟨o,es,ep,ho,r⟩,_⟩:=id I.loc;obtain ⟨sl,hL⟩:=u.any ho I.free (by simp);exact I.step (g':=s.gens) (d':=s.drawn) (ch:=[]) (fun _ z=>nomatch z) (fun b o _ hb _ e n=>u.keep b o e n hb (by simp)) (fun b o _ hb _ e n=>u.slot b o e n hb (by simp)) (fun b o _ e n=>u.free b o e n (by simp)) (fun b o _ e=>u.there b o e (by simp)) u.tups u.frzs u.tbls (fun m' hm=>by
  obtain ⟨o',es',ep',ho',r'⟩:=hm;rw [ho] at ho';obtain rfl:=sI ho';exact ⟨_,es',ep',hL,r'⟩) hok I.bare
theorem Inv.call {g' : Array GenState}{t' : Nat}{d' : Drawn}{ch:List Addr} (I:Inv X pins σ H s) (u:Un (frs X.stack) ch H H' s.heap h') (hok:HOk X.prog X.w H' h') (hg:AllBare g')
  (hch:∀b∈ch,(b∈X.ex\/X.s₀.heap.objs.size<=b)/\b≠X.env.locals/\(∀x c,X.env.cells.lookup x=some c->c≠b)/\∀p∈X.pn++pins,p.1≠b) :
  Inv X pins σ H' { s with heap:=h',gens:=g',drawn:=d',toks:=t' }:=by
 obtain ⟨m,⟨o,es,ep,ho,r⟩,_⟩:=id I.loc;obtain ⟨sl,hL⟩:=u.any ho I.free fun z=>(hch _ z).2.1 rfl;exact I.step (ch:=ch) hch (fun b o hL hb hc e n=>u.keep b o e n (fun z=>(List.mem_cons.mp (I.stkSub b z)).elim hL hb) hc) (fun b o _ _ hc e n=>u.any e n hc) (fun b o hc e n=>u.free b o e n hc) (fun b o hc e=>u.there b o e hc) u.tups u.frzs u.tbls (fun m' hm=>by
  obtain ⟨o',es',ep',ho',r'⟩:=hm;rw [ho] at ho';obtain rfl:=sI ho';exact ⟨_,es',ep',hL,r'⟩) hok hg
theorem Inv.turned {t' : Nat}{it:Addr} (I:Inv X pins σ H s) (k:∀b o,b≠it->s.heap.get? b=some o->h'.get? b=some o) (hn:H it=none) (hL:it≠X.env.locals)
  (h1:it∈X.ex\/X.s₀.heap.objs.size<=it) (h2:∀x c,X.env.cells.lookup x=some c->c≠it) (h3:∀p∈X.pn++pins,p.1≠it):Inv X pins σ H { s with heap:=h',toks:=t' }:=by
 have nit:∀b u,H b=some u->b≠it:=fun b u e z=>by rw [z,hn] at e;cases e
 refine I.step (g':=s.gens) (d':=s.drawn) (ch:=[it]) (fun b hb=>?_) (fun b o _ _ hc e _=>k b o (fun z=>hc (by simp [z])) e) (fun b o _ _ hc e _=>⟨o.slots,k b o (fun z=>hc (by simp [z])) e⟩) (fun _ _ _ _ n=>n)
  (fun b o hc e=>⟨o,k b o (fun z=>hc (by simp [z])) e⟩) (fun _ _ e=>e) (fun _ _ _ e=>e) (fun b ps e=>⟨#[],by rw [e];simp⟩) (fun m hm=>?_) (fun b u e=>?_) I.bare
 ·have e : b = it := by simpa using hb
  subst e;exact ⟨h1,hL,h2,h3⟩
 ·obtain ⟨o, es, ep, ho, r⟩ := hm;exact ⟨o,es,ep,k _ o (Ne.symm hL) ho,r⟩
 ·refine (I.hok b u e).stay (fun c v hc q => k c v ?_ q) (fun _ q => q) fun _ _ q => q;rcases hc with z | z
  ·rw [z];exact nit b u e
  ·exact nit c _ z
theorem Inv.tok (I:Inv X pins σ H s) (t:Nat):Inv X pins σ H { s with toks:=t }:=I.un (h':=s.heap) (t':=t) Un.refl I.hok
theorem Inv.kept {t' : Nat} (I:Inv X pins σ H s) (k:∀b u,s.heap.get? b=some u->h'.get? b=some u):Inv X pins σ H { s with heap:=h',toks:=t' }:=I.un (Un.kept k) (I.hok.kept k)
theorem Inv.laid {a:Addr}{o:HO}{t' : Nat} (I:Inv X pins σ H s) (k:∀b u,s.heap.get? b=some u->h'.get? b=some u) (hp:s.heap.objs.size<=a) (new:zb6 X.prog X.w (upd H a o) h' a o) :
  Inv X pins σ (upd H a o) { s with heap:=h',toks:=t' }:=I.un (Un.laid k hp (I.hok.fresh hp)) (I.hok.laid k hp new)
theorem Inv.write {x e:Addr}{o:HO}{t' : Nat} (I:Inv X pins σ H s) (mu:Mut (H x)) (he:e=x\/H e=some (.own x)) (k:∀b u,b≠e->s.heap.get? b=some u->h'.get? b=some u) (heo:∃u,h'.get? e=some u)
  (new:zb6 X.prog X.w (upd H x o) h' x o):Inv X pins σ (upd H x o) { s with heap:=h',toks:=t' }:=I.un (Un.write mu he k heo) (I.hok.write mu he k heo new)
theorem Inv.pins_of {pins' : List (Addr × Obj)} (I:Inv X pins σ H s) (h:∀p∈pins',s.heap.get? p.1=some p.2/\H p.1=none/\p.1≠X.env.locals/\p.1 ∉ X.fs/\∀v,p.2.data≠.cell v):Inv X pins' σ H s :=
 ⟨I.ok,I.os,I.bare,I.base,I.loc,I.cell,I.free,I.freeC,fun p hp=>(List.mem_append.mp hp).elim (fun z=>I.pin p (List.mem_append_left _ z)) (h p),I.hok,I.len⟩
theorem zlk {N:List Str} (hN:N.Nodup) {i j:Nat}{x:Str} (a:N[i]?=some x) (b:N[j]?=some x):i=j:=by
 obtain ⟨h1,e1⟩:=List.getElem?_eq_some_iff.mp a;obtain ⟨h2,e2⟩:=List.getElem?_eq_some_iff.mp b;exact (List.getElem_inj hN).mp (e1.trans e2.symm)
theorem zix {M:Model}{A:Around}{E:Value->Shared->Prop}{i:Nat}{x:Str}{v:V}{u:Value}{Q:Unit->Shared->Prop} (I:Inv X pins σ H s) (hN:X.N.Nodup) (hi:X.N[i]?=some x) (hx:Loc X.env.scope x) (r:RelV v u)
  (h:∀s',Inv X pins (σ.set i (some v)) H s'->(∃a,Heap.SameBut a s.heap s'.heap/\(a=X.env.locals\/X.env.cells.lookup x=some a))->Q () s') (hf:X.fn x=true\/X.env.scope.names.lookup x=some .local:=by first | exact .inl rfl | exact .inr rfl | assumption):wpAny M A (storeName X.env x u) Q E s:=by
 obtain ⟨m,hn,hl⟩:=id I.loc;have hcls:(X.env.scope.kind == .class || (X.env.scope.kind == .module && X.env.locals != X.env.globals))=false:=by rw [I.ok.kind];rfl
 have hiσ:i < σ.length:=by rw [I.len];exact (List.getElem?_eq_some_iff.mp hi).1
 have cne:=I.cne;have tracked:∀{a:Addr}{h' : Heap},(∃o,s.heap.get? a=some o/\H a=none)->Heap.SameBut a s.heap h'->HOk X.prog X.w H h':=fun {a h'} ha hs b ob e=>by
  obtain ⟨_,_,hfree⟩:=ha;refine (I.hok b ob e).stay (fun c w' hc q=>(hs.2 c ?_).trans q) (fun _ q=>q) fun _ _ q=>q;rintro rfl;rcases hc with rfl | hc
  ·rw [hfree] at e;cases e
  ·rw [hfree] at hc;cases hc
 rcases hx with hk | hk
 ·refine wpAny_storeName_local hk hn (fun h' hn' hs => ?_) hcls;obtain ⟨oL,_,_,hoL,_⟩:=id hn;refine h _ ⟨I.ok,I.os,I.bare,⟨fun b o e n hb hx=>?_,fun b o e n hb hx=>?_,I.base.free,fun b o e hx=>?_,I.base.tups,I.base.frzs,I.base.tbls⟩,⟨_,hn',fun j y v' e1 e2 e3=>?_⟩,fun y c e=>?_,I.free,I.freeC,fun p hp=>?_,tracked ⟨oL,hoL,I.free⟩ hs,by simpa using I.len⟩ ⟨_,hs,.inl rfl⟩
  ·exact (hs.2 b (Nat.ne_of_lt (Nat.lt_of_lt_of_le (Heap.lt_size e) I.ok.above))).trans (I.base.keep b o e n hb hx)
  ·obtain ⟨sl, e1⟩ := I.base.slot b o e n hb hx;exact ⟨sl,(hs.2 b (Nat.ne_of_lt (Nat.lt_of_lt_of_le (Heap.lt_size e) I.ok.above))).trans e1⟩
  ·obtain ⟨o', e1⟩ := I.base.there b o e hx;exact ⟨o',(hs.2 b (Nat.ne_of_lt (Nat.lt_of_lt_of_le (Heap.lt_size e) I.ok.above))).trans e1⟩
  ·by_cases hj : j = i
   ·subst hj;rw [hi] at e1;obtain rfl:=sI e1;rw [List.getElem?_set_self hiσ] at e2;cases e2;exact ⟨u,r,.inl ⟨hk,by simp⟩⟩
   ·rw [List.getElem?_set_ne (Ne.symm hj)] at e2;obtain ⟨u',r',q⟩:=hl j y v' e1 e2 e3;refine ⟨u',r',?_⟩;rcases q with ⟨k,e⟩ | ⟨k,c,e,z⟩
    ·refine .inl ⟨k, ?_⟩;have:y≠x:=fun e=>hj (zlk hN e1 (e ▸ hi));simp [this,e]
    ·exact .inr ⟨k,c,e,z.sameBut hs (cne y c e)⟩
  ·obtain ⟨w', z⟩ := I.cell y c e;exact ⟨w',z.sameBut hs (cne y c e)⟩
  ·obtain ⟨e, n, ne, nf, d⟩ := I.pin p hp;exact ⟨(hs.2 p.1 ne).trans e,n,ne,nf,d⟩
 ·have hfn:X.fn x=true:=by
   rcases hf with z | z
   ·exact z
   ·rw [z] at hk;cases hk
  obtain ⟨c,hc⟩:=I.ok.has x (.inl hk);obtain ⟨w',z⟩:=I.cell x c hc;refine wpAny_storeName_cell I.ok.kind hk hc z (fun h' hc' hs=>?_);obtain ⟨oc,hoc,hocd⟩:=id z;refine h { s with heap:=h' } ⟨I.ok,I.os,I.bare,⟨fun b o e n hb hx=>?_,fun b o e n hb hx=>?_,I.base.free,fun b o e hx=>?_,I.base.tups,I.base.frzs,I.base.tbls⟩,⟨m,hn.sameBut hs (Ne.symm (cne x c hc)),fun j y v' e1 e2 e3=>?_⟩,fun y c' e=>?_,I.free,I.freeC,fun p hp=>?_,tracked ⟨oc,hoc,I.freeC x c hc⟩ hs,by simpa using I.len⟩ ⟨c,hs,.inr hc⟩
  ·exact (hs.2 b (Nat.ne_of_lt (Nat.lt_of_lt_of_le (Heap.lt_size e) (I.ok.cab x c hfn hc)))).trans (I.base.keep b o e n hb hx)
  ·obtain ⟨sl, e1⟩ := I.base.slot b o e n hb hx;exact ⟨sl,(hs.2 b (Nat.ne_of_lt (Nat.lt_of_lt_of_le (Heap.lt_size e) (I.ok.cab x c hfn hc)))).trans e1⟩
  ·obtain ⟨o', e1⟩ := I.base.there b o e hx;exact ⟨o',(hs.2 b (Nat.ne_of_lt (Nat.lt_of_lt_of_le (Heap.lt_size e) (I.ok.cab x c hfn hc)))).trans e1⟩
  ·by_cases hj : j = i
   ·subst hj;rw [hi] at e1;obtain rfl:=sI e1;rw [List.getElem?_set_self hiσ] at e2;cases e2;exact ⟨u,r,.inr ⟨.inl hk,c,hc,hc'⟩⟩
   ·rw [List.getElem?_set_ne (Ne.symm hj)] at e2;obtain ⟨u',r',q⟩:=hl j y v' e1 e2 e3;refine ⟨u',r',?_⟩;rcases q with q | ⟨k,c',e,z'⟩
    ·exact .inl q
    ·refine .inr ⟨k, c', e, z'.sameBut hs ?_⟩;rintro rfl;exact hj (zlk hN e1 (I.ok.inj _ _ _ e hc ▸ hi))
  ·by_cases hcc : c' = c
   ·subst hcc;exact ⟨_,hc'⟩
   ·obtain ⟨w2, z2⟩ := I.cell y c' e;exact ⟨w2,z2.sameBut hs hcc⟩
  ·obtain ⟨e, n, ne, nf, d⟩ := I.pin p hp;refine ⟨(hs.2 p.1 ?_).trans e,n,ne,nf,d⟩;intro q;rw [q,hoc] at e;have q' : oc=p.2:=sI e;exact d w' (by rw [<-q'];exact hocd)
theorem zet {M:Model}{A:Around}{E:Value->Shared->Prop}{i:Nat}{x:Str}{v:V}{u:Value}{Q:Unit->Shared->Prop} (I:Inv X pins σ H s) (hN:X.N.Nodup) (hi:X.N[i]?=some x) (hx:Loc X.env.scope x) (r:RelV v u)
  (h:∀s',Inv X pins (σ.set i (some v)) H s'->Q () s') (hf:X.fn x=true\/X.env.scope.names.lookup x=some .local:=by first | exact .inl rfl | exact .inr rfl | assumption):wpAny M A (storeName X.env x u) Q E s :=
 zix I hN hi hx r (fun s' I' _=>h s' I') hf
theorem Inv.call' {s' : Shared}{ch:List Addr} (I:Inv X pins σ H s) (ho:s'.os=s.os) (u:Un (frs X.stack) ch H H' s.heap s'.heap) (hok:HOk X.prog X.w H' s'.heap) (hg:AllBare s'.gens)
  (hch:∀b∈ch,(b∈X.ex\/X.s₀.heap.objs.size<=b)/\b≠X.env.locals/\(∀x c,X.env.cells.lookup x=some c->c≠b)/\∀p∈X.pn++pins,p.1≠b):Inv X pins σ H' s':=by
 obtain ⟨h',g',d',t',o'⟩:=s';have e:o'=s.os:=ho;subst e;exact I.call (g':=g') (t':=t') (d':=d') u hok hg hch
end
noncomputable abbrev XK:=Value->Option Addr->Hp->Prop
noncomputable abbrev St:=List (Option V)
noncomputable abbrev VK:=V->Hp->Prop
noncomputable abbrev TE:=St->Hp->VK->Prop
noncomputable abbrev TT:=St->Hp->(Bool->Hp->Prop)->Prop
noncomputable abbrev TA:=St->Hp->(List V->Hp->Prop)->Prop
structure Ends where
 nx:St->Hp->Prop
 rt:VK
 bk:St->Hp->Prop:=fun _ _=>False
 ct:St->Hp->Prop:=fun _ _=>False
noncomputable abbrev TS:=Ends->St->Hp->Prop
noncomputable def EP (X:Cx) (pins:List (Addr × Obj)) (σ:St) (Q:VK) (u:Value) (s' : Shared):Prop:=∃v H',Inv X pins σ H' s'/\RelV v u/\Q v H'
noncomputable def TP (X:Cx) (pins:List (Addr × Obj)) (σ:St) (Q:Bool->Hp->Prop) (b:Bool) (s' : Shared):Prop:=∃H',Inv X pins σ H' s'/\Q b H'
noncomputable def AP (X:Cx) (pins:List (Addr × Obj)) (σ:St) (Q:List V->Hp->Prop) (us:List Value) (s' : Shared):Prop:=∃vs H',Inv X pins σ H' s'/\Vals vs us/\Q vs H'
noncomputable def SP (X:Cx) (pins:List (Addr × Obj)) (D:Ends) (f:Flow) (s' : Shared):Prop :=
 match f with
 | .next=>∃σ' H',Inv X pins σ' H' s'/\D.nx σ' H'
 | .brk=>∃σ' H',Inv X pins σ' H' s'/\D.bk σ' H'
 | .cont=>∃σ' H',Inv X pins σ' H' s'/\D.ct σ' H'
 | .ret u=>∃v σ' H',Inv X pins σ' H' s'/\RelV v u/\D.rt v H'
noncomputable def PE (X:Cx) (e:Expr) (t:TE):Prop :=
 ∀(pins:List (Addr × Obj)) (s:Shared) (σ:St) (H:Hp) (Q:VK),Inv X pins σ H s->t σ H Q->wpAny (model X.prog X.w) X.A (eval e X.env) (EP X pins σ Q) X.xe s
noncomputable def PT (X:Cx) (e:Expr) (t:TT):Prop :=
 ∀(pins:List (Addr × Obj)) (s:Shared) (σ:St) (H:Hp) (Q:Bool->Hp->Prop),Inv X pins σ H s->t σ H Q->wpAny (model X.prog X.w) X.A (isTrue e X.env (eval e X.env)) (TP X pins σ Q) X.xe s
noncomputable def PW (X:Cx) (e:Expr) (t:TT):Prop :=
 ∀(whole:Sem Value) (pins:List (Addr × Obj)) (s:Shared) (σ:St) (H:Hp) (Q:Bool->Hp->Prop),Inv X pins σ H s->t σ H Q->wpAny (model X.prog X.w) X.A (isTrue e X.env whole) (TP X pins σ Q) X.xe s
theorem PW.pt {X:Cx}{e:Expr}{t:TT} (h:PW X e t):PT X e t:=h _
noncomputable def PA (X:Cx) (es:List Expr) (t:TA):Prop :=
 ∀(pos:Pos) (pins:List (Addr × Obj)) (s:Shared) (σ:St) (H:Hp) (Q:List V->Hp->Prop),Inv X pins σ H s->t σ H Q->wpAny (model X.prog X.w) X.A (spliced (backTo pos (starEach es X.env))) (AP X pins σ Q) X.xe s
noncomputable def PS (X:Cx) (st:Stmt) (t:TS):Prop :=
 ∀(pins:List (Addr × Obj)) (s:Shared) (σ:St) (H:Hp) (D:Ends),Inv X pins σ H s->t D σ H->wpAny (model X.prog X.w) X.A (exec st X.env) (SP X pins D) X.xe s
noncomputable def PSs (X:Cx) (st:List Stmt) (t:TS):Prop :=
 ∀(pins:List (Addr × Obj)) (s:Shared) (σ:St) (H:Hp) (D:Ends),Inv X pins σ H s->t D σ H->wpAny (model X.prog X.w) X.A (execs st X.env) (SP X pins D) X.xe s
theorem thn {α:Type}{t:Sem α}{Q Q' : α->Shared->Prop}{M:Model}{A:Around}{E:Value->Shared->Prop}{s:Shared} (h:wpAny M A t Q E s) (hQ:∀a s,Q a s->Q' a s):wpAny M A t Q' E s:=wpAny_mono h hQ fun _ _ x=>x
end L2
namespace L2
open PySem PySem.Spec PyProof.Rows
section
variable {X:Cx}
noncomputable def tVar (i:Nat):TE:=fun σ H Q=>∃v,σ[i]?=some (some v)/\Q v H
noncomputable def tC (v:V):TE:=fun _ H Q=>Q v H
theorem zot {i:Nat}{x:Str}{pos:Pos} (hN:X.N[i]?=some x) (hv:Vis X.env.scope x) (hd:(x == ("__debug__" : Str))=false:=by decide) (hcd:(x == ("__classdict__" : Str))=false:=by decide):PE X (.Name x pos) (tVar i):=by
 intro pins s σ H Q I h;refine aG fun _ qG=>?_;obtain ⟨v,e,h⟩:=h;obtain ⟨m,hn,hl⟩:=I.loc;obtain ⟨u,r,l⟩:=hl i x v hN e hv;refine qG ?_;clear qG;have fin:EP X pins σ Q u s:=⟨v,H,I,r,h⟩;rcases l with ⟨hk,hm⟩ | ⟨hk,c,hc,hcell⟩
 ·exact wpAny_Name (wpAny_loadName_local I.ok.kind hk hn hm fin) hd
 ·rcases hk with hk | hk
  ·exact wpAny_Name (wpAny_loadName_cell I.ok.kind hk hc hcell fin) hd
  ·exact wpAny_Name (wpAny_loadName_free I.ok.kind hk hc hcell fin hcd) hd
theorem z13 {i j pos}:PE X (.Constant (.int i) j pos) (tC (.int i)):=fun _ _ _ H _ I h=>wpAny_Constant_int ⟨.int i,H,I.tok _,⟨_,rfl⟩,h⟩
theorem z42 {b j pos}:PE X (.Constant (.bool b) j pos) (tC (.bl b)):=fun _ _ _ H _ I h=>Constant_bool ⟨.bl b,H,I,rfl,h⟩
theorem z2f {j pos}:PE X (.Constant .none j pos) (tC .non):=fun _ _ _ H _ I h=>Constant_none ⟨.non,H,I,rfl,h⟩
theorem z1d {x j pos}:PE X (.Constant (.str x) j pos) (tC (.str x)):=fun _ _ _ H _ I h=>Calls.Constant_str ⟨.str x,H,I.tok _,⟨_,rfl⟩,h⟩
noncomputable def Gl (X:Cx) (x:Str):Prop:=X.env.kindOf x=some .globalImplicit
theorem zx8 {E:Value->Shared->Prop}{pins:List (Addr × Obj)}{s:Shared}{σ:St}{H:Hp}{x:Str}{u:Value}{pos:Pos}{Q:Value->Shared->Prop} (I:Inv X pins σ H s) (hg:Gl X x) (hm:X.mg x=some u) (h:Q u s)
  (hd:(x == ("__debug__" : Str))=false:=by decide):wpAny (model X.prog X.w) X.A (eval (.Name x pos) X.env) Q E s :=
 Calls.Name_function_global I.ok.kind hg (Calls.loadGlobal_global (by rw [I.ok.glob];exact I.mod.glob.keeps I.bk) hm h) hd
theorem zfn {E:Value->Shared->Prop}{pins:List (Addr × Obj)}{s:Shared}{σ:St}{H:Hp}{x:Str}{u:Value}{pos:Pos}{Q:Value->Shared->Prop} (I:Inv X pins σ H s) (hg:Gl X x) (hm:X.mg x=none) (hv:bootBuiltins x=some u) (h:Q u s)
  (hn:x≠"__name__" := by decide) (hd:(x == ("__debug__" : Str))=false:=by decide):wpAny (model X.prog X.w) X.A (eval (.Name x pos) X.env) Q E s:=by
 obtain ⟨mb,h1,h2⟩:=I.mod.blt;exact Calls.Name_function_global I.ok.kind hg (Calls.loadGlobal_builtin (by rw [I.ok.glob];exact I.mod.glob.keeps I.bk) hm (by rw [I.ok.blt];exact h1.keeps I.bk) ((h2 x hn).trans hv) h) hd
theorem zyx {x:Str}{v:V}{u:Value}{pos:Pos} (hg:Gl X x) (hm:X.mg x=none) (hv:bootBuiltins x=some u) (r:RelV v u) (hn:x≠"__name__" := by decide) (hd:(x == ("__debug__" : Str))=false:=by decide):PE X (.Name x pos) (tC v) :=
 fun _ _ _ H _ I h=>zfn I hg hm hv ⟨v,H,I,r,h⟩ hn hd
variable {a b:Expr}{ta tb:TE}{pos:Pos}
noncomputable def tB (t:TE):TT:=fun σ H Q=>t σ H fun x H1=>∃c,x=.bl c/\Q c H1
theorem z2w {e:Expr}{t:TE} (h:PE X e t) (he:∀whole,isTrue e X.env whole=(do let v <- whole;standAt e.pos;holding [v] (truthy v)):=by intro _;rfl):PT X e (tB t):=by
 intro pins s σ H Q I hw;refine isTrue_plain (thn (h pins s σ H _ I hw) fun v s1 ⟨x,H1,I1,r1,q1⟩=>?_) (he _);obtain ⟨d,rfl,q⟩:=q1;cases r1;exact wpAny_truthy_bool ⟨H1,I1,q⟩
variable {tA tB' : TT}{rest:List Expr}
noncomputable def tAnd (t u:TT):TT:=fun σ H Q=>t σ H fun c H1=>if c=true then u σ H1 Q else Q false H1
noncomputable def tOr (t u:TT):TT:=fun σ H Q=>t σ H fun c H1=>if c=true then Q true H1 else u σ H1 Q
noncomputable def tNot (t:TT):TT:=fun σ H Q=>t σ H fun c H1=>Q (!c) H1
theorem zwt (ha:PT X a tA):PW X (.BoolOp .And [a] pos) tA:=by
 intro wh pins s σ H Q I h;refine isTrue_and (thn (ha pins s σ H Q I h) fun c s1 e=>?_);cases c with
 | true=>exact isTrue_and_nil e
 | false=>exact e
theorem z1b (ha:PT X a tA):PW X (.BoolOp .Or [a] pos) tA:=by
 intro wh pins s σ H Q I h;refine isTrue_or (thn (ha pins s σ H Q I h) fun c s1 e=>?_);cases c with
 | false=>exact isTrue_or_nil e
 | true=>exact e
theorem z0i (ha:PT X a tA) (hb:PW X (.BoolOp .And (b::rest) pos) tB'):PW X (.BoolOp .And (a::b::rest) pos) (tAnd tA tB'):=by
 intro wh pins s σ H Q I h;refine isTrue_and (thn (ha pins s σ H _ I h) fun c s1 ⟨H1,I1,q1⟩=>?_);cases c with
 | true=>exact hb wh pins s1 σ H1 Q I1 q1
 | false=>exact ⟨H1,I1,q1⟩
theorem z4c (ha:PT X a tA) (hb:PW X (.BoolOp .Or (b::rest) pos) tB'):PW X (.BoolOp .Or (a::b::rest) pos) (tOr tA tB'):=by
 intro wh pins s σ H Q I h;refine isTrue_or (thn (ha pins s σ H _ I h) fun c s1 ⟨H1,I1,q1⟩=>?_);cases c with
 | true=>exact ⟨H1,I1,q1⟩
 | false=>exact hb wh pins s1 σ H1 Q I1 q1
theorem z2h (ha:PT X a tA):PT X (.UnaryOp .Not a pos) (tNot tA):=by
 intro pins s σ H Q I h;exact isTrue_not (ha pins s σ H (fun c H1=>Q (!c) H1) I h)
noncomputable def z1w (ta tb:TE):TE:=fun σ H Q=>ta σ H fun x H1=>∃c,x=.bl c/\if c=true then tb σ H1 Q else Q (.bl false) H1
noncomputable def z12 (ta:TE):TE:=fun σ H Q=>ta σ H fun x H1=>∃c,x=.bl c/\Q (.bl (!c)) H1
theorem zz0 {op}{t:TE} (h:PE X a t):PE X (.BoolOp op [a] pos) t:=fun pins s σ H Q I hw=>BoolOp_one (h pins s σ H Q I hw)
theorem z1x (ha:PE X a ta) (hb:PE X (.BoolOp .And (b::rest) pos) tb):PE X (.BoolOp .And (a::b::rest) pos) (z1w ta tb):=by
 intro pins s σ H Q I h;refine BoolOp_and (thn (ha pins s σ H _ I h) fun v s1 ⟨x,H1,I1,r1,q1⟩=>?_);obtain ⟨c,rfl,q1⟩:=q1;cases r1;refine wpAny_truthy_bool ?_;cases c with
 | true=>exact hb pins s1 σ H1 Q I1 q1
 | false=>exact ⟨.bl false,H1,I1,rfl,q1⟩
theorem z1t (ha:PE X a ta):PE X (.UnaryOp .Not a pos) (z12 ta):=by
 intro pins s σ H Q I h;refine UnaryOp_ (thn (ha pins s σ H _ I h) fun v s1 ⟨x,H1,I1,r1,q1⟩=>?_);obtain ⟨c,rfl,q1⟩:=q1;cases r1;exact not_of (wpAny_truthy_bool ⟨.bl (!c),H1,I1,rfl,q1⟩)
noncomputable def tIf (t:TT) (ta tb:TE):TE:=fun σ H Q=>t σ H fun c H1=>if c=true then ta σ H1 Q else tb σ H1 Q
theorem zup {c:Expr} (hc:PT X c tA) (ha:PE X a ta) (hb:PE X b tb):PE X (.IfExp c a b pos) (tIf tA ta tb):=by
 intro pins s σ H Q I h;refine wpAny_IfExp (thn (hc pins s σ H _ I h) fun d s1 ⟨H1,I1,q1⟩=>?_);cases d with
 | true=>exact ha pins s1 σ H1 Q I1 q1
 | false=>exact hb pins s1 σ H1 Q I1 q1
end
end L2
namespace L2
open PySem PySem.Spec PyProof.Rows
noncomputable def SqL (K:PySem.W.Frag) (H:Hp) (a:Addr) (xs:List V):Prop :=
 Rd H a (.lst xs) \/
  ∃(o:Obj) (its:Array Value) (n:Nat),K.lookup a=some o/\o.cls=.type "list"/\o.dict=none/\o.data=.seq its n/\its.size<=sizeLine/\Vals xs its.toList
noncomputable def SqT (K:PySem.W.Frag) (H:Hp) (a:Addr) (xs:List V):Prop :=
 Rd H a (.tup xs) \/
  ∃(o:Obj) (its:Array Value) (n:Nat),K.lookup a=some o/\o.cls=.type "tuple"/\o.data=.seq its n/\its.size<=sizeLine/\Vals xs its.toList
noncomputable def absV:Value->Option V
 | .none=>some .non
 | .bool b=>some (.bl b)
 | .int i _=>some (.int i)
 | .str x _=>some (.str x)
 | .bytes b _=>some (.byt b)
 | .float b _=>some (.flt b)
 | .ref a=>some (.ref a)
 | .type n=>some (.ty n)
 | _=>none
theorem RelV.abs {x:V}{u:Value} (r:RelV x u):absV u=some x:=by
 cases x with
 | non=>cases r;rfl
 | bl _=>cases r;rfl
 | int _=>obtain ⟨t,rfl⟩:=r;rfl
 | str _=>obtain ⟨t,rfl⟩:=r;rfl
 | byt _=>obtain ⟨t,rfl⟩:=r;rfl
 | flt _=>obtain ⟨t,rfl⟩:=r;rfl
 | ref _=>cases r;rfl
 | ty _=>cases r;rfl
theorem RelV.inj {x y:V}{u:Value} (r:RelV x u) (q:RelV y u):x=y:=sI (r.abs.symm.trans q.abs)
theorem Vals.inj:∀{xs ys:List V}{us:List Value},Vals xs us->Vals ys us->xs=ys
 | _,_,_,.nil,.nil=>rfl
 | _,_,_,.cons r t,.cons r' t'=>by rw [r.inj r',Vals.inj t t']
section
variable {X:Cx}{pins:List (Addr × Obj)}{σ:St}{H:Hp}{s:Shared}{a:Addr}{xs ys:List V}
theorem Inv.list (I:Inv X pins σ H s) (h:SqL X.K H a xs):∃its:List Value,Vals xs its/\PlainL s.heap a its.toArray/\xs.length<=sizeLine:=by
 rcases h with h | ⟨o,its,n,hk,hc,hd,hs,hz,r⟩
 ·obtain ⟨z, its, n, r, e⟩ := h.ok I.hok;exact ⟨its,r,⟨_,n,e,rfl,rfl,rfl⟩,z⟩
 ·refine ⟨its.toList, r, ⟨o, n, I.kIn a o hk, hc, hd, by simpa using hs⟩, ?_⟩;have e:=r.length;simp only [Array.length_toList] at e;omega
theorem Inv.tuple (I:Inv X pins σ H s) (h:SqT X.K H a xs):∃its:List Value,Vals xs its/\IsTup s.heap a its.toArray/\xs.length<=sizeLine:=by
 rcases h with h | ⟨o,its,n,hk,hc,hs,hz,r⟩
 ·obtain ⟨z, its, r, p⟩ := h.ok I.hok;exact ⟨its,r,p,z⟩
 ·refine ⟨its.toList, r, ⟨o, I.kIn a o hk, hc, n, by simpa using hs⟩, ?_⟩;have e:=r.length;simp only [Array.length_toList] at e;omega
theorem Inv.list_inj (I:Inv X pins σ H s) (h:SqL X.K H a xs) (h' : SqL X.K H a ys):xs=ys:=by
 obtain ⟨its,r,⟨o,n,e,_,_,d⟩,_⟩:=I.list h;obtain ⟨its',r',⟨o',n',e',_,_,d'⟩,_⟩:=I.list h';rw [e] at e';obtain rfl:=sI e';rw [d] at d';injection d' with d1 _;have:its=its':=by simpa using congrArg Array.toList d1
 subst this;exact r.inj r'
theorem Inv.tuple_inj (I:Inv X pins σ H s) (h:SqT X.K H a xs) (h' : SqT X.K H a ys):xs=ys:=by
 obtain ⟨its,r,⟨o,e,_,n,d⟩,_⟩:=I.tuple h;obtain ⟨its',r',⟨o',e',_,n',d'⟩,_⟩:=I.tuple h';rw [e] at e';obtain rfl:=sI e';rw [d] at d';injection d' with d1 _;have:its=its':=by simpa using congrArg Array.toList d1
 subst this;exact r.inj r'
end
noncomputable abbrev Cx.wish (X:Cx) (E:Value->Shared->Prop):Cx:={ X with xe:=E }
noncomputable abbrev Cx.nox (X:Cx):Cx:=X.wish fun _ _=>False
theorem Cx.Ok.wish {X:Cx} (ok:X.Ok) (E:Value->Shared->Prop):(X.wish E).Ok :=
 ⟨ok.mod,ok.kind,ok.glob,ok.blt,ok.above,ok.inj,ok.has,ok.cab,ok.hd,ok.frames,ok.stk,ok.exf,ok.bs,ok.bsz,ok.noex,ok.exfs,ok.funs,ok.frf⟩
theorem Cx.Ok.unwish {X:Cx}{E:Value->Shared->Prop} (ok:(X.wish E).Ok):X.Ok :=
 ⟨ok.mod,ok.kind,ok.glob,ok.blt,ok.above,ok.inj,ok.has,ok.cab,ok.hd,ok.frames,ok.stk,ok.exf,ok.bs,ok.bsz,ok.noex,ok.exfs,ok.funs,ok.frf⟩
section
variable {X:Cx}{pins:List (Addr × Obj)}{σ:St}{H:Hp}{s:Shared}{E:Value->Shared->Prop}
theorem Inv.wish (I:Inv X pins σ H s) (E:Value->Shared->Prop):Inv (X.wish E) pins σ H s:=⟨I.ok.wish E,I.os,I.bare,I.base,I.loc,I.cell,I.free,I.freeC,I.pin,I.hok,I.len⟩
theorem Inv.unwish (I:Inv (X.wish E) pins σ H s):Inv X pins σ H s:=⟨I.ok.unwish,I.os,I.bare,I.base,I.loc,I.cell,I.free,I.freeC,I.pin,I.hok,I.len⟩
theorem SP.unwish {D:Ends}{f:Flow}{s' : Shared} (h:SP (X.wish E) pins D f s'):SP X pins D f s':=by
 cases f with
 | next=>obtain ⟨σ',H',I,q⟩:=h;exact ⟨σ',H',I.unwish,q⟩
 | brk=>obtain ⟨σ',H',I,q⟩:=h;exact ⟨σ',H',I.unwish,q⟩
 | cont=>obtain ⟨σ',H',I,q⟩:=h;exact ⟨σ',H',I.unwish,q⟩
 | ret u=>obtain ⟨v,σ',H',I,r,q⟩:=h;exact ⟨v,σ',H',I.unwish,r,q⟩
theorem PSs.nox {st:List Stmt}{t:TS} (h:PSs X.nox st t):PSs X st t:=fun pins s σ H D I hw =>
 wpAny_mono (h pins s σ H D (I.wish _) hw) (fun _ _ q=>q.unwish) fun _ _ z=>False.elim z
end
section
variable {X:Cx}{st:Stmt}{rest:List Stmt}{t u:TS}{e:Expr}{te:TE}{pos:Pos}
noncomputable def zxb:TS:=fun D σ H=>D.nx σ H
noncomputable def tSeq (t u:TS):TS:=fun D σ H=>t { D with nx:=u D } σ H
theorem zyw:PSs X [] zxb:=fun _ _ σ H _ I h=>wpAny_execs_nil ⟨σ,H,I,h⟩
theorem zux (h1:PS X st t) (h2:PSs X rest u):PSs X (st::rest) (tSeq t u):=by
  intro pins s σ H D I h;refine wpAny_execs_cons (thn (h1 pins s σ H { D with nx:=u D } I h) fun f s1 q=>?_);cases f with
  | next =>
    obtain ⟨σ',H',I',q⟩:=q;exact h2 pins s1 σ' H' D I' q
  | ret v=>exact q
  | brk=>exact q
  | cont=>exact q
theorem zze (h1:PS X st t):PSs X [st] t:=by
 intro pins s σ H D I h;refine wpAny_execs_cons (thn (h1 pins s σ H D I h) fun f s1 q=>?_);cases f with
 | next=>exact wpAny_execs_nil q
 | ret v=>exact q
 | brk=>exact q
 | cont=>exact q
theorem zyt:PS X (.Pass pos) zxb:=fun _ _ σ H _ I h=>wpAny_Pass ⟨σ,H,I,h⟩
theorem Inv.quiet {pins:List (Addr × Obj)}{σ:St}{H:Hp}{s:Shared} (I:Inv X pins σ H s):interactive X.env=false:=by simp [interactive,I.ok.kind]
noncomputable def zzx (te:TE):TS:=fun D σ H=>te σ H fun _ H1=>D.nx σ H1
theorem zyd (he:PE X e te) (hs:swapsWith e none pos.line X.env=pure false:=by rfl):PS X (.Expr e pos) (zzx te):=by
 intro pins s σ H D I h;exact wpAny_Expr_any (thn (he pins s σ H _ I h) fun v s1 ⟨x,H1,I1,r1,q1⟩=>⟨σ,H1,I1,q1⟩) I.quiet hs
noncomputable def tRet (te:TE):TS:=fun D σ H=>te σ H D.rt
theorem zvo (he:PE X e te):PS X (.Return (some e) pos) (tRet te):=by
 intro pins s σ H D I h;exact wpAny_Return_some (thn (he pins s σ H _ I h) fun v s1 ⟨x,H1,I1,r1,q1⟩=>⟨x,σ,H1,I1,r1,q1⟩)
noncomputable def tIfS (c:TT) (t u:TS):TS:=fun D σ H=>c σ H fun b H1=>if b=true then t D σ H1 else u D σ H1
theorem z3n {c:Expr}{a b:List Stmt}{tc:TT} (hc:PT X c tc) (ha:PSs X a t) (hb:PSs X b u):PS X (.If c a b pos) (tIfS tc t u):=by
 intro pins s σ H D I h;refine wpAny_If (thn (hc pins s σ H _ I h) fun d s1 ⟨H1,I1,q1⟩=>?_);cases d with
 | true=>exact ha pins s1 σ H1 D I1 q1
 | false=>exact hb pins s1 σ H1 D I1 q1
end
noncomputable abbrev TG:=V->St->Hp->(St->Hp->Prop)->Prop
noncomputable abbrev TGs:=List V->St->Hp->(St->Hp->Prop)->Prop
noncomputable def PG (X:Cx) (target:Expr) (t:TG):Prop :=
  ∀(pins:List (Addr × Obj)) (s:Shared) (σ:St) (H:Hp) (v:V) (u:Value) (Q:St->Hp->Prop),Inv X pins σ H s->RelV v u->t v σ H Q ->
    wpAny (model X.prog X.w) X.A (assign target X.env u) (fun _ s'=>∃σ' H',Inv X pins σ' H' s'/\Q σ' H') X.xe s
noncomputable def PGs (X:Cx) (ts:List Expr) (t:TGs):Prop :=
  ∀(pins:List (Addr × Obj)) (s:Shared) (σ:St) (H:Hp) (vs:List V) (us:List Value) (Q:St->Hp->Prop),Inv X pins σ H s->Vals vs us->t vs σ H Q ->
    wpAny (model X.prog X.w) X.A (assignInOrder ((assignEach ts X.env).map (·.2)) us) (fun _ s'=>∃σ' H',Inv X pins σ' H' s'/\Q σ' H') X.xe s
noncomputable abbrev TSet:=V->V->V->Hp->(Hp->Prop)->Prop
noncomputable def PSet (X:Cx) (t:TSet):Prop :=
  ∀(pins:List (Addr × Obj)) (s:Shared) (σ:St) (H:Hp) (o i v:V) (ov iv u:Value) (Q:Hp->Prop),Inv X pins σ H s->RelV o ov->RelV i iv->RelV v u->t o i v H Q ->
    wpAny (model X.prog X.w) X.A (setItem ov iv u) (fun _ s'=>∃H',Inv X pins σ H' s'/\Q H') X.xe s
section
variable {X:Cx}{pos:Pos}
noncomputable def znk (i:Nat):TG:=fun v σ H Q=>Q (σ.set i (some v)) H
theorem zrn {i:Nat}{x:Str} (hN:X.N.Nodup) (hi:X.N[i]?=some x) (hx:Loc X.env.scope x) (hf:X.fn x=true\/X.env.scope.names.lookup x=some .local:=by first | exact .inl rfl | exact .inr rfl | assumption):PG X (.Name x pos) (znk i):=by
 intro pins s σ H v u Q I r h;exact wpAny_assign_Name (zet I hN hi hx r (fun s' I'=>⟨_,H,I',h⟩) hf)
noncomputable def gNil:TGs:=fun vs σ H Q=>vs=[]/\Q σ H
noncomputable def z2e (t:TG) (u:TGs):TGs:=fun vs σ H Q=>∃v r,vs=v::r/\t v σ H fun σ' H'=>u r σ' H' Q
theorem zx9:PGs X [] gNil:=by
 intro pins s σ H vs us Q I r h;obtain ⟨e,h⟩:=h;subst e;cases r;exact assignInOrder_nil ⟨σ,H,I,h⟩
theorem zvc {e:Expr}{es:List Expr}{t:TG}{u:TGs} (h1:PG X e t) (h2:PGs X es u)
    (hs:(assignEach (e::es) X.env).map (·.2)=assign e X.env::(assignEach es X.env).map (·.2):=by rfl):PGs X (e::es) (z2e t u):=by
  intro pins s σ H vs us Q I r h;obtain ⟨v,vr,e1,h⟩:=h;subst e1;cases r with
  | cons r rr =>
    rw [hs];refine assignInOrder_cons (thn (h1 pins s σ H _ _ _ I r h) fun _ s1 ⟨σ1,H1,I1,q1⟩=>?_);exact h2 pins s1 σ1 H1 _ _ Q I1 rr q1
noncomputable def gTup (K:PySem.W.Frag) (n:Nat) (t:TGs):TG:=fun v σ H Q=>∃a xs,v=.ref a/\SqT K H a xs/\xs.length=n/\t xs σ H Q
theorem z16 {es:List Expr}{k:Nat}{t:TGs}{n:Nat} (hc:X.calm=true) (h:PGs X es t)
  (hn:(assignEach es X.env).length=n:=by rfl) (hst:(assignEach es X.env).findIdx? (·.1)=none:=by rfl):PG X (.Tuple es k pos) (gTup X.K n t):=by
 intro pins s σ H v u Q I r hw;refine aG fun _ qG=>?_;obtain ⟨a,xs,e1,hq,hl,hw⟩:=hw;refine qG ?_;clear qG;subst e1;cases r;refine aG fun _ qG=>?_;obtain ⟨its,rv,ht,hz⟩:=I.tuple hq;refine qG ?_;clear qG;refine assign_Tuple_tuple (I.ok.hd hc) ht (by simp [hn,<-hl,rv.length]) hst fun h' hx=>?_;have I1:Inv X pins σ H { s with heap:=h' }:=I.kept (t':=s.toks) fun b o e=>hx b o (Nat.ne_of_lt (Heap.lt_size e)) e;exact h pins _ σ H xs _ Q I1 (by simpa using rv) hw
noncomputable def gSub (to ti:TE) (t:TSet):TG:=fun v σ H Q=>to σ H fun o H1=>ti σ H1 fun i H2=>t o i v H2 fun H3=>Q σ H3
theorem z0h {o i:Expr}{to ti:TE}{t:TSet} (ho:PE X o to) (hi:PE X i ti) (hs:PSet X t)
  (ha:∀v,assign (.Subscript o i pos) X.env v=(do
   let ov <- holding [v] (eval o X.env)
   let iv <- holding [v,ov] (eval i X.env)
   standAt pos
   holding [v,ov,iv] (setItem ov iv v)
   release [v,ov,iv] []):=by intro _;rfl):PG X (.Subscript o i pos) (gSub to ti t):=by
 intro pins s σ H v u Q I r h;rw [ha];refine wpAny_bind (wpAny_holding (thn (ho pins s σ H _ I h) fun ov s1 ⟨x,H1,I1,r1,q1⟩=>?_));refine wpAny_bind (wpAny_holding (thn (hi pins s1 σ H1 _ I1 q1) fun iv s2 ⟨y,H2,I2,r2,q2⟩=>?_));refine wpAny_bind (wpAny_standAt (wpAny_bind (wpAny_holding (thn (hs pins s2 σ H2 x y v ov iv u _ I2 r1 r2 r q2) fun _ s3 ⟨H3,I3,q3⟩=>?_))));exact wpAny_release ⟨σ,H3,I3,q3⟩
noncomputable def tAsg (te:TE) (g:TG):TS:=fun D σ H=>te σ H fun x H1=>g x σ H1 D.nx
theorem zvu {tg e:Expr}{te:TE}{g:TG} (he:PE X e te) (hg:PG X tg g) (hs:swapsWithSole [tg] e pos.line X.env=pure false:=by rfl) (hw:swappedStores [tg] e X.env=pure none:=by rfl)
  (h1:(assignEach [tg] X.env).map (·.2)=[assign tg X.env]:=by rfl):PS X (.Assign [tg] e pos) (tAsg te g):=by
 intro pins s σ H D I h;refine wpAny_Assign_stores (thn (he pins s σ H _ I h) fun v s1 ⟨x,H1,I1,r1,q1⟩=>?_) hs hw;rw [h1];exact thn (hg pins s1 σ H1 x v _ I1 r1 q1) fun _ s2 q=>q
theorem zvz {i:Nat}{x:Str}{e:Expr}{te:TE}{pos' : Pos} (hN:X.N.Nodup) (hi:X.N[i]?=some x) (hx:Loc X.env.scope x) (he:PE X e te) (hs:swapsWith e (some (.Name x pos')) pos.line X.env=pure false:=by rfl) (hf:X.fn x=true\/X.env.scope.names.lookup x=some .local:=by first | exact .inl rfl | exact .inr rfl | assumption) :
  PS X (.Assign [.Name x pos'] e pos) (tAsg te (znk i)):=by
 intro pins s σ H D I h;refine wpAny_Assign_Name (thn (he pins s σ H _ I h) fun v s1 ⟨y,H1,I1,r1,q1⟩=>?_) hs;exact zet I1 hN hi hx r1 (fun s2 I2=>⟨_,H1,I2,q1⟩) hf
noncomputable def tPar (i j:Nat) (ta:TA):TS:=fun D σ H=>ta σ H fun vs H1=>∃v w,vs=[v,w]/\D.nx ((σ.set i (some v)).set j (some w)) H1
theorem z01 {i j:Nat}{x y:Str}{a b:Expr}{ta:TA}{px py pt:Pos}{kt k2 pt2} (hc:X.calm=true) (hN:X.N.Nodup) (hi:X.N[i]?=some x) (hj:X.N[j]?=some y) (hij:i≠j)
    (hx:X.env.scope.names.lookup x=some .local) (hy:X.env.scope.names.lookup y=some .local) (ha:PA X [a,b] ta)
    (hw:swappedStores [.Tuple [.Name x px,.Name y py] kt pt] (.Tuple [a,b] k2 pt2) X.env=pure (some [x,y]))
    (hs:swapsWithSole [.Tuple [.Name x px,.Name y py] kt pt] (.Tuple [a,b] k2 pt2) pos.line X.env=pure false:=by rfl) :
    PS X (.Assign [.Tuple [.Name x px,.Name y py] kt pt] (.Tuple [a,b] k2 pt2) pos) (tPar i j ta):=by
  intro pins s σ H D I h;rw [exec_Assign_arm];refine wpAny_bind (wpAny_standAt ?_);rw [hs];refine wpAny_bind (wpAny_pure ?_);rw [if_neg (by decide)];refine wpAny_bind (Tuple_ (thn (ha _ pins s σ H _ I h) fun us s1 ⟨vs,H1,I1,r1,q1⟩=>?_));refine aG fun _ qG=>?_;obtain ⟨v,w,e1,q1⟩:=q1;refine qG ?_;clear qG;subst e1;obtain ⟨u1,u2,rfl,rv,rw'⟩ : ∃u1 u2,us=[u1,u2]/\RelV v u1/\RelV w u2:=by
    cases r1 with
    | cons p q =>
      cases q with
      | cons p' q' =>
        cases q';exact ⟨_,_,rfl,p,p'⟩
  refine wpAny_newObj_type ?_ (by show 2<=sizeLine;decide);have I2:Inv X pins σ H1 { s1 with heap:=s1.heap.push { cls:=.type "tuple",data:=.seq [u1,u2].toArray } }:=I1.kept (t':=s1.toks) fun b o e=>Heap.get?_push_of_some _ e;rw [hw];refine wpAny_bind (wpAny_pure ?_);show wpAny (model X.prog X.w) X.A (do rule "assign.swapped-stores";let items <- unpackItems (.ref s1.heap.objs.size) 2 none;assignInOrder [fun v=>bindName X.env y v,fun v=>bindName X.env x v] items.reverse;pure Flow.next) _ _ _;refine wpAny_bind (wpAny_rule (wpAny_bind (unpackItems_tuple (items:=#[u1,u2]) (I.ok.hd hc) (IsTup.new s1.heap _) fun h' hx'=>?_)));have I3:=I2.kept (h':=h') (t':=s1.toks) fun b o e=>hx' b o (Nat.ne_of_lt (Heap.lt_size e)) e;show wpAny _ _ (assignInOrder [fun v=>bindName X.env y v,fun v=>bindName X.env x v] [u2,u1] >>= fun _=>pure Flow.next) _ _ _;refine wpAny_bind (assignInOrder_cons (wpAny_bindName (zet I3 hN hj (.inl hy) rw' (fun s2 I4=>?_) (.inr hy))));refine assignInOrder_cons (wpAny_bindName (zet I4 hN hi (.inl hx) rv (fun s3 I5=>assignInOrder_nil (wpAny_pure ?_)) (.inr hx)));rw [List.set_comm _ _ (Ne.symm hij)] at I5;exact ⟨_,H1,I5,q1⟩
end
section
variable {X:Cx}{pos:Pos}
end
structure It where
 go:Nat->Hp->Prop
 yld:Nat->Hp->V->Hp->Prop
 stop:Nat->Hp->Prop
noncomputable def FpOk (X:Cx) (pins:List (Addr × Obj)) (H:Hp) (b:Addr):Prop :=
 H b=none/\b≠X.env.locals/\b ∉ X.fs/\(b∈X.ex\/X.s₀.heap.objs.size<=b)/\(∀x c,X.env.cells.lookup x=some c->c≠b)/\∀p∈X.pn++pins,p.1≠b
theorem Inv.fpOk {X:Cx}{pins:List (Addr × Obj)}{σ:St}{H H' : Hp}{s:Shared}{b:Addr} (I:Inv X pins σ H s) (hb:s.heap.objs.size<=b) (hn:H' b=none):FpOk X pins H' b:=by
 refine ⟨hn,Nat.ne_of_gt (Nat.lt_of_lt_of_le I.lt hb),I.nofs hb,.inr (Nat.le_trans I.sz hb),fun x c e z=>?_,fun p hp z=>?_⟩
 ·obtain ⟨v, q⟩ := I.cell x c e;exact absurd (Nat.lt_of_lt_of_le q.lt (by rw [z];exact hb)) (Nat.lt_irrefl _)
 ·exact absurd (Nat.lt_of_lt_of_le (Heap.lt_size (I.pin p hp).1) (by rw [z];exact hb)) (Nat.lt_irrefl _)
structure Turn (P:Program) (w:World) (K:PySem.W.Frag) (tg:Expr) (J:It) (fp:List Addr) (it:Addr) (tn:Nat->Heap->Prop):Prop where
 mem:it∈fp
 obj:∀i h,tn i h->∀b∈fp,∃o,h.get? b=some o/\∀v,o.data≠.cell v
 keep:∀i h h',tn i h->(∀b∈fp,∀o,h.get? b=some o->h'.get? b=some o)->tn i h'
 item:∀(X:Cx),X.prog=P->X.w=w->X.K=K->X.calm=true->∀(i:Nat) (pins:List (Addr × Obj)) (s:Shared) (σ:St) (H:Hp) (E:Value->Shared->Prop),Inv X pins σ H s->(∀b∈fp,FpOk X pins H b)->tn i s.heap->J.go i H ->
  wpAny (model P w) X.A (pyNext (.ref it)) (fun r s1=>∃u,r=some u /\
   wpAny (model P w) X.A (letOwnedTupleGo tg (.ref it) u) (fun _ s2=>∃x H',Inv X pins σ H' s2/\RelV x u/\J.yld i H x H'/\tn (i+1) s2.heap/\∀b∈fp,H' b=none) E s1) E s
 done:∀(X:Cx),X.prog=P->X.w=w->X.K=K->X.calm=true->∀(i:Nat) (pins:List (Addr × Obj)) (s:Shared) (σ:St) (H:Hp) (E:Value->Shared->Prop),Inv X pins σ H s->(∀b∈fp,FpOk X pins H b)->tn i s.heap->J.stop i H ->
  wpAny (model P w) X.A (pyNext (.ref it)) (fun r s1=>r=none/\Inv X pins σ H s1) E s
 self:∀(A:Around) (i:Nat) (s:Shared) (Q:Value->Shared->Prop) (E:Value->Shared->Prop),tn i s.heap->Q (.ref it) s->wpAny (model P w) A (pyIter (.ref it)) Q E s
noncomputable abbrev TI:=St->Hp->(It->Hp->Prop)->Prop
noncomputable def PIE (X:Cx) (pins:List (Addr × Obj)) (σ:St) (tg:Expr) (R:It->Hp->Prop) (itv:Value) (s2:Shared):Prop :=
 ∃(it:Addr) (fp:List Addr) (tn:Nat->Heap->Prop) (J:It) (H' : Hp),itv=.ref it/\Inv X pins σ H' s2/\Turn X.prog X.w X.K tg J fp it tn/\tn 0 s2.heap/\(∀b∈fp,FpOk X pins H' b)/\R J H'
noncomputable def PI (X:Cx) (tg iter:Expr) (wi:TI):Prop :=
  ∀(pins:List (Addr × Obj)) (s:Shared) (σ:St) (H:Hp) (R:It->Hp->Prop),Inv X pins σ H s->wi σ H R ->
    wpAny (model X.prog X.w) X.A (eval iter X.env) (fun v s1=>wpAny (model X.prog X.w) X.A (pyIter v) (PIE X pins σ tg R) X.xe s1) X.xe s
theorem zxp {M:Model}{A:Around}{E:Value->Shared->Prop}{s:Shared}{tg:Expr}{it:Addr}{u:Value}{o:Obj}{n:String}{vs:Array Value}{Q:Unit->Shared->Prop} (ho:s.heap.get? it=some o) (hc:o.cls=.type n) (hd:o.data=.fields vs)
    (hn:["enumerate","zip","dict_itemiterator","dict_reverseitemiterator","odict_iterator","itertools.zip_longest","itertools.pairwise"].contains n=false) (hQ:Q () s):wpAny M A (letOwnedTupleGo tg (.ref it) u) Q E s:=by
  unfold letOwnedTupleGo;cases tg<;>first
    | exact wpAny_pure hQ
    | (cases u<;>first
        | exact wpAny_pure hQ
        | (refine wpAny_bind (wpAny_load ho ?_)
           rw [hc,hd];show wpAny M A (if (["enumerate","zip","dict_itemiterator","dict_reverseitemiterator","odict_iterator","itertools.zip_longest","itertools.pairwise"].contains n && vs[0]? == some (rawInt _))=true then _ else _) Q E s;rw [if_neg (by intro h;rw [hn,Bool.false_and] at h;cases h)];exact wpAny_pure hQ))
noncomputable def Itl (K:PySem.W.Frag) (a:Addr):It :=
 ⟨fun i H=>∃xs x,SqL K H a xs/\xs[i]?=some x,fun i H x H'=>H'=H/\∀xs,SqL K H a xs->xs[i]?=some x,fun i H=>∃xs,SqL K H a xs/\xs.length<=i⟩
noncomputable def Itt (K:PySem.W.Frag) (a:Addr):It :=
 ⟨fun i H=>∃xs x,SqT K H a xs/\xs[i]?=some x,fun i H x H'=>H'=H/\∀xs,SqT K H a xs->xs[i]?=some x,fun i H=>∃xs,SqT K H a xs/\xs.length<=i⟩
noncomputable def Itr (lo:Int) (n:Nat):It:=⟨fun i _=>i < n,fun i H x H'=>H'=H/\x=.int (lo+i),fun i _=>n<=i⟩
theorem zri {P:Program}{w:World}{K:PySem.W.Frag}{tg:Expr} (a it:Addr):Turn P w K tg (Itl K a) [it] it (fun i h=>h.IsListIter it a i) where
 mem:=by simp
 obj:=fun i h st b hb=>by
  have e:b=it:=by simpa using hb
  subst e;refine aG fun _ qG=>?_;obtain ⟨o,e,c,d⟩:=st;refine qG ?_;clear qG;exact ⟨o,e,fun v z=>by rw [d] at z;cases z⟩
 keep:=fun i h h' st k=>st.at fun o e=>k it (by simp) o e
 item:=by
  intro X hP hw hK hc i pins s σ H E I hf st hg;subst hP hw hK;refine aG fun _ qG=>?_;obtain ⟨xs,x,hq,hx⟩:=hg;obtain ⟨its,rv,p,hz⟩:=I.list hq;obtain ⟨u,hu,ru⟩:=rv.get hx;obtain ⟨f0,f1,f2,f3,f4,f5⟩:=hf it (by simp);refine qG ?_;clear qG;refine wpAny_pyNext_list_item st p.isList (x:=u) (by simpa using hu) fun h' st' sb=>?_;have I1:Inv X pins σ H { s with heap:=h' }:=I.turned (t':=s.toks) (fun b o hb e=>(sb.2 b hb).trans e) f0 f1 f3 f4 f5;refine aG fun _ qG=>?_;obtain ⟨o,e,c,d⟩:=id st';refine qG ?_;clear qG;exact ⟨u,rfl,zxp (s:={ s with heap:=h' }) e c d (by decide) ⟨x,H,I1,ru,⟨rfl,fun ys hy=>by rw [I.list_inj hy hq];exact hx⟩,st',fun b hb=>(hf b hb).1⟩⟩
 done:=by
  intro X hP hw hK hc i pins s σ H E I hf st hg;subst hP hw hK;refine aG fun _ qG=>?_;obtain ⟨xs,hq,hx⟩:=hg;obtain ⟨its,rv,p,hz⟩:=I.list hq;obtain ⟨f0,f1,f2,f3,f4,f5⟩:=hf it (by simp);refine qG ?_;clear qG;have hl:=rv.length;exact wpAny_pyNext_list_end (I.ok.hd hc) st p.isList (by simp;omega) fun h' eb=>⟨rfl,I.turned (t':=s.toks) (fun b o hb e=>eb b o hb e) f0 f1 f3 f4 f5⟩
 self:=fun _ _ _ _ _ st h=>wpAny_pyIter_listiter st h
theorem znd {P:Program}{w:World}{K:PySem.W.Frag}{tg:Expr} (a it:Addr):Turn P w K tg (Itt K a) [it] it (fun i h=>h.IsTupleIter it a i) where
 mem:=by simp
 obj:=fun i h st b hb=>by
  have e:b=it:=by simpa using hb
  subst e;refine aG fun _ qG=>?_;obtain ⟨o,e,c,d⟩:=st;refine qG ?_;clear qG;exact ⟨o,e,fun v z=>by rw [d] at z;cases z⟩
 keep:=fun i h h' st k=>st.at fun o e=>k it (by simp) o e
 item:=by
  intro X hP hw hK hc i pins s σ H E I hf st hg;subst hP hw hK;refine aG fun _ qG=>?_;obtain ⟨xs,x,hq,hx⟩:=hg;obtain ⟨its,rv,p,hz⟩:=I.tuple hq;obtain ⟨u,hu,ru⟩:=rv.get hx;obtain ⟨f0,f1,f2,f3,f4,f5⟩:=hf it (by simp);refine qG ?_;clear qG;refine wpAny_pyNext_tuple_item st (show s.heap.IsTuple a its.toArray from p) (x:=u) (by simpa using hu) fun h' st' sb=>?_;have I1:Inv X pins σ H { s with heap:=h' }:=I.turned (t':=s.toks) (fun b o hb e=>(sb.2 b hb).trans e) f0 f1 f3 f4 f5;refine aG fun _ qG=>?_;obtain ⟨o,e,c,d⟩:=id st';refine qG ?_;clear qG;exact ⟨u,rfl,zxp (s:={ s with heap:=h' }) e c d (by decide) ⟨x,H,I1,ru,⟨rfl,fun ys hy=>by rw [I.tuple_inj hy hq];exact hx⟩,st',fun b hb=>(hf b hb).1⟩⟩
 done:=by
  intro X hP hw hK hc i pins s σ H E I hf st hg;subst hP hw hK;refine aG fun _ qG=>?_;obtain ⟨xs,hq,hx⟩:=hg;obtain ⟨its,rv,p,hz⟩:=I.tuple hq;obtain ⟨f0,f1,f2,f3,f4,f5⟩:=hf it (by simp);refine qG ?_;clear qG;have hl:=rv.length;exact wpAny_pyNext_tuple_end (I.ok.hd hc) st (show s.heap.IsTuple a its.toArray from p) (by simp;omega) fun h' eb=>⟨rfl,I.turned (t':=s.toks) (fun b o hb e=>eb b o hb e) f0 f1 f3 f4 f5⟩
 self:=fun _ _ _ _ _ st h=>wpAny_pyIter_tupleiter st h
theorem zno {P:Program}{w:World}{K:PySem.W.Frag}{tg:Expr} (it:Addr) (lo:Int) (n:Nat):Turn P w K tg (Itr lo n) [it] it (fun i h=>IsRangeIter h it (lo+(i:Nat) * 1) ((n:Int) - (i:Nat)) 1) where
 mem:=by simp
 obj:=fun i h st b hb=>by
  have e:b=it:=by simpa using hb
  subst e;exact ⟨_,st,fun v z=>by
   have z' : Data.fields _=Data.cell v:=z;cases z'⟩
 keep:=fun i h h' st k=>k it (by simp) _ st
 item:=by
  intro X hP hw hK hc i pins s σ H E I hf st hg;subst hP hw hK;refine aG fun _ qG=>?_;obtain ⟨f0,f1,f2,f3,f4,f5⟩:=hf it (by simp);refine qG ?_;clear qG;have W:=Walks.range (prog:=X.prog) (w:=X.w) (I.ok.hd hc) it lo 1 n;refine W.item i s _ _ hg st fun v h' tk hv st' kk=>?_;obtain ⟨t,rfl⟩:=hv;have I1:Inv X pins σ H { s with heap:=h',toks:=tk }:=I.turned (fun b o hb e=>kk b o (by simpa using hb) e) f0 f1 f3 f4 f5;refine ⟨_,rfl,zxp (s:={ s with heap:=h',toks:=tk }) (n := "range_iterator") st' rfl rfl (by decide) ⟨.int (lo+i),H,I1,⟨t,?_⟩,⟨rfl,rfl⟩,st',fun b hb=>(hf b hb).1⟩⟩;rw [Int.mul_one]
 done:=by
  intro X hP hw hK hc i pins s σ H E I hf st hg;subst hP hw hK;refine aG fun _ qG=>?_;obtain ⟨f0,f1,f2,f3,f4,f5⟩:=hf it (by simp);refine qG ?_;clear qG;exact wpAny_pyNext_range_end (I.ok.hd hc) st (by have:n<=i:=hg;omega) fun h' eb=>⟨rfl,I.turned (t':=s.toks) (fun b o hb e=>eb b o hb e) f0 f1 f3 f4 f5⟩
 self:=fun _ _ _ _ _ st h=>wpAny_pyIter_rangeiter st h
end L2
namespace L2
open PySem PySem.Spec PyProof.Rows
section
variable {X:Cx}{tg:Expr}
theorem zmh {pins:List (Addr × Obj)}{σ:St}{H:Hp}{s:Shared}{R:It->Hp->Prop}{E:Value->Shared->Prop}{lo hi:Int}{t u v:Tok}{tk:Nat} (I:Inv X pins σ H s) (h1:-(2 ^ 62)<=lo) (h2:lo < 2 ^ 62) (h3:-(2 ^ 62)<=hi) (h4:hi < 2 ^ 62)
  (q:R (Itr lo (hi - lo).toNat) H):wpAny (model X.prog X.w) X.A (pyIter (.ref s.heap.objs.size)) (PIE X pins σ tg R) E { s with heap:=s.heap.push { cls:=.type "range",data:=.fields #[.int lo t,.int hi u,.int 1 v] },toks:=tk }:=by
 refine wpAny_pyIter_range (IsRange.new ..) (small_one h1 h2 h3 h4) ?_;have I1:Inv X pins σ H { s with heap:=s.heap.push { cls:=.type "range",data:=.fields #[.int lo t,.int hi u,.int 1 v] },toks:=tk }:=I.kept fun b o e=>Heap.get?_push_of_some _ e;refine ⟨(s.heap.push { cls:=.type "range",data:=.fields #[.int lo t,.int hi u,.int 1 v] }).objs.size,[(s.heap.push { cls:=.type "range",data:=.fields #[.int lo t,.int hi u,.int 1 v] }).objs.size],_,_,H,rfl,
  I1.kept (t':=tk) fun b o e=>Heap.get?_push_of_some _ e,zno _ lo (hi - lo).toNat,?_,fun b hb=>?_,q⟩
 ·have e1 : lo + ((0 : Nat) : Int) * 1 = lo := by simp
  have e2:(((hi - lo).toNat:Nat):Int) - ((0:Nat):Int)=Builtin.Range.rangeSize lo hi 1:=by rw [rangeSize_one];split<;>omega
  show IsRangeIter _ _ (lo+((0:Nat):Int) * 1) ((((hi - lo).toNat:Nat):Int) - ((0:Nat):Int)) 1;rw [e1,e2];exact Heap.get?_push_size _ rfl
 ·have e : b = (s.heap.push { cls := .type "range", data := .fields #[.int lo t, .int hi u, .int 1 v] }).objs.size := by simpa using hb
  subst e;exact I1.fpOk (Nat.le_refl _) (I1.hok.fresh (Nat.le_refl _))
noncomputable def z2r (ta:TA):TI:=fun σ H R=>ta σ H fun vs H1=>∃j:Int,vs=[.int j]/\-(2 ^ 62)<=j/\j < 2 ^ 62/\R (Itr 0 j.toNat) H1
noncomputable def z0g (ta:TA):TI:=fun σ H R=>ta σ H fun vs H1=>∃i j:Int,vs=[.int i,.int j]/\(-(2 ^ 62)<=i/\i < 2 ^ 62/\-(2 ^ 62)<=j/\j < 2 ^ 62)/\R (Itr i (j - i).toNat) H1
theorem zpr {a:Expr}{ta:TA}{p pos:Pos} (hg:Gl X "range") (hm:X.mg "range" = none) (ha:PA X [a] ta) (hs:starEach [a] X.env=[(false,eval a X.env)]:=by rfl):PI X tg (.Call (.Name "range" p) [a] [] pos) (z2r ta):=by
  intro pins s σ H R I h;refine Call_ (zfn I hg hm boot_range (PyProof.Rows.callWith_type1 (thn (ha pos pins s σ H _ I h) fun us s1 ⟨vs,H1,I1,r1,q1⟩=>?_) hs rfl));refine aG fun _ qG=>?_;obtain ⟨j,e,q1,q2,q⟩:=q1;refine qG ?_;clear qG;subst e;cases r1 with
  | cons r rr =>
    cases rr;obtain ⟨t,rfl⟩:=r;exact call_range_1 (zmh I1 (by omega) (by omega) q1 q2 (by simpa using q))
theorem zoq {a b:Expr}{ta:TA}{p pos:Pos} (hg:Gl X "range") (hm:X.mg "range" = none) (ha:PA X [a,b] ta) (hs:starEach [a,b] X.env=[(false,eval a X.env),(false,eval b X.env)]:=by rfl) (hs2:starEach [b] X.env=[(false,eval b X.env)]:=by rfl) :
    PI X tg (.Call (.Name "range" p) [a,b] [] pos) (z0g ta):=by
  intro pins s σ H R I h;refine Call_ (zfn I hg hm boot_range (PyProof.Rows.callWith_type1 (thn (ha pos pins s σ H _ I h) fun us s1 ⟨vs,H1,I1,r1,q1⟩=>?_) (by rw [hs,hs2]) (by rw [hs2];rfl)));refine aG fun _ qG=>?_;obtain ⟨i,j,e,⟨q1,q2,q3,q4⟩,q⟩:=q1;refine qG ?_;clear qG;subst e;cases r1 with
  | cons r rr =>
    cases rr with
    | cons r' rr =>
      cases rr;obtain ⟨t,rfl⟩:=r;obtain ⟨t',rfl⟩:=r';exact call_range_2 (zmh I1 q1 q2 q3 q4 q)
noncomputable def tFor (wi:TI) (g:TG) (tb:TS):TS:=fun D σ H=>wi σ H fun J H1=>∃W:Nat->Nat->St->Hp->Prop,(∃m,W 0 m σ H1)/\∀i m σ H,W i m σ H ->
 (J.stop i H/\D.nx σ H)\/(J.go i H/\∃N:St->Hp->Prop,(∀σ' H',N σ' H'->∃m',m' < m/\W (i+1) m' σ' H')/\∀x H',J.yld i H x H'->g x σ H' fun σ2 H2=>tb { D with nx:=N,ct:=N,bk:=D.nx } σ2 H2)
noncomputable def zjg (fp:List Addr) (h:Heap):List (Addr × Obj):=fp.filterMap fun b=>(h.get? b).map fun o=>(b,o)
theorem zc8 {fp:List Addr}{h:Heap}{b:Addr}{o:Obj} (hb:b∈fp) (e:h.get? b=some o):(b,o)∈zjg fp h:=List.mem_filterMap.mpr ⟨b,hb,by rw [e];rfl⟩
theorem zrc {fp:List Addr}{h:Heap}{p:Addr × Obj} (hp:p∈zjg fp h):p.1∈fp/\h.get? p.1=some p.2:=by
  obtain ⟨b,hb,e⟩:=List.mem_filterMap.mp hp;cases q:h.get? b with
  | none=>rw [q] at e;cases e
  | some o =>
    rw [q] at e;have e' : (b,o)=p:=sI e;subst e';exact ⟨hb,q⟩
theorem Inv.pinned {pins:List (Addr × Obj)}{σ:St}{H:Hp}{s:Shared}{fp:List Addr} (I:Inv X pins σ H s) (hf:∀b∈fp,FpOk X pins H b) (ho:∀b∈fp,∃o,s.heap.get? b=some o/\∀v,o.data≠.cell v):Inv X (pins++zjg fp s.heap) σ H s :=
 I.pins_of fun p hp=>(List.mem_append.mp hp).elim (fun z=>I.pin p (List.mem_append_right _ z)) fun z=>by
  refine aG fun _ qG=>?_;obtain ⟨hb,e⟩:=zrc z;obtain ⟨f0,f1,f2,_⟩:=hf p.1 hb;obtain ⟨o,e',d⟩:=ho p.1 hb;refine qG ?_;clear qG;rw [e] at e';obtain rfl:=sI e';exact ⟨e,f0,f1,f2,d⟩
theorem Inv.unpinned {pins pl:List (Addr × Obj)}{σ:St}{H:Hp}{s:Shared} (I:Inv X (pins++pl) σ H s):Inv X pins σ H s:=I.pins_of fun p hp=>I.pin p (List.mem_append_right _ (List.mem_append_left _ hp))
theorem z2g {iter:Expr}{body:List Stmt}{wi:TI}{g:TG}{tb:TS}{pos:Pos} (hp:PassesOwn (model X.prog X.w) X.A X.env X.xe) (hc:X.calm=true) (hi:PI X tg iter wi) (hg:PG X tg g) (hb:PSs X body tb)
  (hs:∀x,foldedSetIterable iter X.env x=pure x:=by intro _;rfl):PS X (.For tg iter body [] pos) (tFor wi g tb):=by
 intro pins s σ H D I h;refine wpAny_For (thn (hi pins s σ H _ I h) fun v s1 h1=>thn h1 fun itv s2 h2=>?_) hs;refine aG fun _ qG=>?_;obtain ⟨it,fp,tn,J,H2,e,I2,T,st2,f2,W,⟨m0,w0⟩,turn⟩:=h2;refine qG ?_;clear qG;subst e;have stat:∀{H' : Hp},(∀b∈fp,H' b=none)->∀b∈fp,FpOk X pins H' b:=fun hn b hb=>⟨hn b hb,(f2 b hb).2⟩;refine codeAny_forLoop_any (fun n s'=>∃i σ' H',Inv X pins σ' H' s'/\tn i s'.heap/\(∀b∈fp,H' b=none)/\W i n σ' H') ?_ m0 ⟨0,σ,H2,I2,st2,fun b hb=>(f2 b hb).1,w0⟩;rintro n s3 ⟨i,σ3,H3,I3,st3,fr3,w3⟩;rcases turn i n σ3 H3 w3 with ⟨stop,qn⟩ | ⟨go,N,hN,step⟩
 ·refine wpAny_passesOwn hp (thn (T.done X rfl rfl rfl hc i pins s3 σ3 H3 X.xe I3 (stat fr3) st3 stop) fun r s4 ⟨hr, I4⟩ => ?_);subst hr;exact wpAny_execs_nil ⟨σ3,H3,I4,qn⟩
 ·refine wpAny_passesOwn hp (thn (T.item X rfl rfl rfl hc i pins s3 σ3 H3 X.xe I3 (stat fr3) st3 go) fun r s4 ⟨u, hr, h4⟩ => ?_);subst hr;refine wpAny_passesOwn hp (thn h4 fun _ s5 ⟨x,H5,I5,r5,y5,st5,fr5⟩=>?_);have I5':=I5.pinned (stat fr5) (T.obj _ _ st5);refine wpAny_passesOwn hp (thn (hg _ s5 σ3 H5 x u _ I5' r5 (step x H5 y5)) fun _ s6 ⟨σ6,H6,I6,q6⟩=>?_);refine wpAny_passesOwn hp (thn (hb _ s6 σ6 H6 _ I6 q6) fun f s7 q7=>?_);have again:∀{σ7:St}{H7:Hp},Inv X (pins++zjg fp s5.heap) σ7 H7 s7->N σ7 H7->∃m,m < n/\∃i σ' H',Inv X pins σ' H' s7/\tn i s7.heap/\(∀b∈fp,H' b=none)/\W i m σ' H':=fun {σ7 H7} I7 n7=>by
   obtain ⟨m',hm,w7⟩:=hN σ7 H7 n7;refine ⟨m',hm,i+1,σ7,H7,I7.unpinned,T.keep _ _ _ st5 fun b hb o e=>(I7.pin (b,o) (List.mem_append_right _ (List.mem_append_right _ (zc8 hb e)))).1,fun b hb=>?_,w7⟩;obtain ⟨o,e,d⟩:=T.obj _ _ st5 b hb;exact (I7.pin (b,o) (List.mem_append_right _ (List.mem_append_right _ (zc8 hb e)))).2.1
  cases f with
  | next=>obtain ⟨σ7,H7,I7,n7⟩:=q7;exact again I7 n7
  | cont=>obtain ⟨σ7,H7,I7,n7⟩:=q7;exact again I7 n7
  | brk=>obtain ⟨σ7,H7,I7,q7⟩:=q7;exact ⟨σ7,H7,I7.unpinned,q7⟩
  | ret v=>obtain ⟨x7,σ7,H7,I7,r7,q7⟩:=q7;exact ⟨x7,σ7,H7,I7.unpinned,r7,q7⟩
end
end L2
namespace L2
open PySem PySem.Spec PyProof.Rows
noncomputable abbrev R2:=V->V->Hp->VK->Prop
noncomputable def OpR (X:Cx) (f:Value->Value->Sem Value) (r:R2):Prop :=
  ∀(pins:List (Addr × Obj)) (s:Shared) (σ:St) (H:Hp) (x y:V) (v u:Value) (Q:VK),Inv X pins σ H s->RelV x v->RelV y u->r x y H Q ->
    wpAny (model X.prog X.w) X.A (f v u) (EP X pins σ Q) X.xe s
noncomputable def UnR (X:Cx) (f:Value->Sem Value) (r:V->Hp->VK->Prop):Prop :=
  ∀(pins:List (Addr × Obj)) (s:Shared) (σ:St) (H:Hp) (x:V) (v:Value) (Q:VK),Inv X pins σ H s->RelV x v->r x H Q ->
    wpAny (model X.prog X.w) X.A (f v) (EP X pins σ Q) X.xe s
noncomputable def zdu (X:Cx) (f:Value) (r:List V->Hp->VK->Prop):Prop :=
  ∀(pins:List (Addr × Obj)) (s:Shared) (σ:St) (H:Hp) (xs:List V) (us:List Value) (Q:VK),Inv X pins σ H s->Vals xs us->r xs H Q ->
    wpAny (model X.prog X.w) X.A (call f us) (EP X pins σ Q) X.xe s
noncomputable def tOp (r:R2) (ta tb:TE):TE:=fun σ H Q=>ta σ H fun x H1=>tb σ H1 fun y H2=>r x y H2 Q
noncomputable def tUn (r:V->Hp->VK->Prop) (ta:TE):TE:=fun σ H Q=>ta σ H fun x H1=>r x H1 Q
noncomputable def rI (C:Int->Int->Prop) (g:Int->Int->V):R2:=fun x y H Q=>∃i j,x=.int i/\y=.int j/\C i j/\Q (g i j) H
noncomputable def rI0 (g:Int->Int->V):R2:=fun x y H Q=>∃i j,x=.int i/\y=.int j/\Q (g i j) H
noncomputable def rU (g:Int->V):V->Hp->VK->Prop:=fun x H Q=>∃i,x=.int i/\Q (g i) H
section
variable {X:Cx}{a b c:Expr}{ta tb tc:TE}{pos:Pos}
theorem binT (ha:PE X a ta) (hb:PE X b tb) {pins:List (Addr × Obj)}{s:Shared}{σ:St}{H:Hp}{R:V->V->Hp->Prop} (I:Inv X pins σ H s)
  (h:ta σ H fun x H1=>tb σ H1 fun y H2=>R x y H2) {Q:Value->Shared->Prop}{f:Value->Value->Sem Value}
  (hf:∀v u s2 x y H2,Inv X pins σ H2 s2->RelV x v->RelV y u->R x y H2->wpAny (model X.prog X.w) X.A (f v u) Q X.xe s2) :
  wpAny (model X.prog X.w) X.A (eval a X.env) (fun v s₁=>wpAny (model X.prog X.w) X.A (eval b X.env) (fun u s₂=>wpAny (model X.prog X.w) X.A (f v u) Q X.xe s₂) X.xe s₁) X.xe s:=by
 refine thn (ha pins s σ H _ I h) fun v s1 ⟨x,H1,I1,r1,q1⟩=>?_;refine thn (hb pins s1 σ H1 _ I1 q1) fun u s2 ⟨y,H2,I2,r2,q2⟩=>?_;exact hf v u s2 x y H2 I2 r1 r2 q2
theorem z4d {op:Operator}{r:R2} (ho:OpR X (binaryOp op) r) (ha:PE X a ta) (hb:PE X b tb):PE X (.BinOp a op b pos) (tOp r ta tb):=by
 intro pins s σ H Q I h;exact wpAny_BinOp (binT ha hb I h fun v u s2 x y H2 I2 rx ry q=>ho pins s2 σ H2 x y v u Q I2 rx ry q)
theorem z4v {op:UnaryOp}{r:V->Hp->VK->Prop} (ho:UnR X (unaryOp op) r) (ha:PE X a ta):PE X (.UnaryOp op a pos) (tUn r ta):=by
 intro pins s σ H Q I h;exact UnaryOp_ (thn (ha pins s σ H _ I h) fun v s1 ⟨x,H1,I1,r1,q1⟩=>ho pins s1 σ H1 x v Q I1 r1 q1)
theorem opI {f:Value->Value->Sem Value}{C:Int->Int->Prop}{g:Int->Int->Int}
  (rule:∀(i j:Int) (t u:Tok) (s:Shared) (Q:Value->Shared->Prop) (E:Value->Shared->Prop),C i j->Q (.int (g i j) s.toks) { s with toks:=s.toks+1 }->wpAny (model X.prog X.w) X.A (f (.int i t) (.int j u)) Q E s) :
  OpR X f (rI C fun i j=>.int (g i j)):=by
 intro pins s σ H x y v u Q I rx ry h;obtain ⟨i,j,rfl,rfl,hc,q⟩:=h;obtain ⟨t,rfl⟩:=rx;obtain ⟨t',rfl⟩:=ry;exact rule i j t t' s _ _ hc ⟨.int (g i j),H,I.tok _,⟨_,rfl⟩,q⟩
theorem opI0 {f:Value->Value->Sem Value}{g:Int->Int->Int}
  (rule:∀(i j:Int) (t u:Tok) (s:Shared) (Q:Value->Shared->Prop) (E:Value->Shared->Prop),Q (.int (g i j) s.toks) { s with toks:=s.toks+1 }->wpAny (model X.prog X.w) X.A (f (.int i t) (.int j u)) Q E s) :
  OpR X f (rI0 fun i j=>.int (g i j)):=by
 intro pins s σ H x y v u Q I rx ry h;obtain ⟨i,j,rfl,rfl,q⟩:=h;obtain ⟨t,rfl⟩:=rx;obtain ⟨t',rfl⟩:=ry;exact rule i j t t' s _ _ ⟨.int (g i j),H,I.tok _,⟨_,rfl⟩,q⟩
theorem opB0 {f:Value->Value->Sem Value}{g:Int->Int->Bool}
  (rule:∀(i j:Int) (t u:Tok) (s:Shared) (Q:Value->Shared->Prop) (E:Value->Shared->Prop),Q (.bool (g i j)) s->wpAny (model X.prog X.w) X.A (f (.int i t) (.int j u)) Q E s) :
  OpR X f (rI0 fun i j=>.bl (g i j)):=by
 intro pins s σ H x y v u Q I rx ry h;obtain ⟨i,j,rfl,rfl,q⟩:=h;obtain ⟨t,rfl⟩:=rx;obtain ⟨t',rfl⟩:=ry;exact rule i j t t' s _ _ ⟨.bl (g i j),H,I,rfl,q⟩
noncomputable def CPow (i j:Int):Prop:=0<=j/\j<=1000000/\i.natAbs < 2 ^ 64
noncomputable def CMul (i j:Int):Prop:=(-(2 ^ 64) < i/\i < 2 ^ 64)\/(-(2 ^ 64) < j/\j < 2 ^ 64)
theorem CMul.ok {i j:Int} (h:CMul i j):IntMulOk i j:=by
 rcases h with ⟨h1,h2⟩ | ⟨h1,h2⟩
 ·exact .of_left (intBits_le_64 h1 h2)
 ·exact .of_right (intBits_le_64 h1 h2)
theorem zm3 (k:Nat):(0:Int)<=2 ^ k:=by
 rw [two_pow_cast];exact Int.natCast_nonneg _
theorem z0y:OpR X (binaryOp .Add) (rI0 fun i j=>.int (i+j)):=opI0 fun _ _ _ _ _ _ _ q=>add_int q
theorem z0o:OpR X (binaryOp .Sub) (rI0 fun i j=>.int (i - j)):=opI0 fun _ _ _ _ _ _ _ q=>sub_int q
theorem zz8:OpR X (binaryOp .Mult) (rI CMul fun i j=>.int (i * j)):=opI fun _ _ _ _ _ _ _ hc q=>mul_int q hc.ok
theorem z18:OpR X (binaryOp .Mod) (rI (fun _ j=>0 < j) fun i j=>.int (i % j)):=opI fun i j _ _ _ _ _ hc q=>by
 have h1:(0:Int) < j:=hc;exact mod_int' (by omega) (by rw [Int.fmod_eq_emod_of_nonneg i (by omega)];exact q)
theorem z2c:OpR X (binaryOp .Pow) (rI CPow fun i j=>.int (i ^ j.toNat)):=opI fun _ _ _ _ _ _ _ hc q=>pow_int_small hc.1 hc.2.1 hc.2.2 q
theorem z19:OpR X (binaryOp .LShift) (rI CPow fun i j=>.int (i * 2 ^ j.toNat)):=opI fun _ _ _ _ _ _ _ hc q=>lshift_int_small hc.1 hc.2.1 hc.2.2 q
theorem z05:OpR X (binaryOp .RShift) (rI (fun _ j=>0<=j) fun i j=>.int (i / 2 ^ j.toNat)):=opI fun i j _ _ _ _ _ hc q =>
 rshift_int hc (by rw [Int.fdiv_eq_ediv_of_nonneg i (zm3 _)];exact q)
theorem zz5:OpR X (binaryOp .BitAnd) (rI0 fun i j=>.int (Builtin.bitAnd i j)):=opI0 fun _ _ _ _ _ _ _ q=>and_int q
theorem z3k:OpR X (binaryOp .BitOr) (rI0 fun i j=>.int (Builtin.bitOr i j)):=opI0 fun _ _ _ _ _ _ _ q=>or_int q
theorem zzv:OpR X (binaryOp .BitXor) (rI0 fun i j=>.int (Builtin.bitXor i j)):=opI0 fun _ _ _ _ _ _ _ q=>xor_int q
theorem unI {f:Value->Sem Value}{g:Int->Int}
  (rule:∀(i:Int) (t:Tok) (s:Shared) (Q:Value->Shared->Prop) (E:Value->Shared->Prop),Q (.int (g i) s.toks) { s with toks:=s.toks+1 }->wpAny (model X.prog X.w) X.A (f (.int i t)) Q E s) :
  UnR X f (rU fun i=>.int (g i)):=by
 intro pins s σ H x v Q I rx h;obtain ⟨i,rfl,q⟩:=h;obtain ⟨t,rfl⟩:=rx;exact rule i t s _ _ ⟨.int (g i),H,I.tok _,⟨_,rfl⟩,q⟩
theorem z2z:UnR X (unaryOp .USub) (rU fun i=>.int (-i)):=unI fun _ _ _ _ _ q=>neg_int q
end
noncomputable def scal:V->V->Bool
 | .non,.non=>true | .non,.int _=>true | .int _,.non=>true | .non,.bl _=>true | .bl _,.non=>true | .non,.str _=>true | .str _,.non=>true
 | .int _,.int _=>true | .bl _,.bl _=>true | .str _,.str _=>true | .byt _,.byt _=>true
 | .int _,.str _=>true | .str _,.int _=>true | .bl _,.str _=>true | .str _,.bl _=>true
 | _,_=>false
noncomputable def rEq:R2:=fun x y H Q=>scal x y=true/\Q (.bl (decide (x=y))) H
noncomputable def rNe:R2:=fun x y H Q=>scal x y=true/\Q (.bl (!decide (x=y))) H
theorem zo8 {i j:Int}:decide (V.int i=V.int j)=(i == j):=by
 rw [Bool.eq_iff_iff];simp
theorem zvl {i j:Bool}:decide (V.bl i=V.bl j)=(i == j):=by
 rw [Bool.eq_iff_iff];simp
theorem zqj {i j:Str}:decide (V.str i=V.str j)=(i == j):=by
 rw [Bool.eq_iff_iff];simp
theorem zqb {i j:Array UInt8}:decide (V.byt i=V.byt j)=(i.toList == j.toList):=by
 rw [Bool.eq_iff_iff];cases i;cases j;simp
section
variable {X:Cx}{a b c:Expr}{ta tb tc:TE}{pos:Pos}
theorem zac {pins:List (Addr × Obj)}{σ:St}{H:Hp}{s:Shared}{Q:VK}{k k' : Bool} (I:Inv X pins σ H s) (q:Q (.bl k) H) (e:k=k'):EP X pins σ Q (.bool k') s:=by
 subst e;exact ⟨.bl k,H,I,rfl,q⟩
theorem z3p:OpR X (compareOp .Eq) rEq:=by
  intro pins s σ H x y v u Q I rx ry h;obtain ⟨hs,q⟩:=h;cases x with
  | non =>
    cases rx;cases y with
    | non=>cases ry;exact PySem.EqNone.eq_none_none (zac I q (by simp))
    | bl j=>cases ry;exact PySem.EqNone.eq_none_bool (zac I q (by simp))
    | int j=>obtain ⟨t',rfl⟩:=ry;exact PySem.EqNone.eq_none_int (zac I q (by simp))
    | str j=>obtain ⟨t',rfl⟩:=ry;exact PySem.EqNone.eq_none_str (zac I q (by simp))
    | _=>exact absurd (show false=true from hs) Bool.false_ne_true
  | bl i =>
    cases rx;cases y with
    | non=>cases ry;exact PySem.EqNone.eq_bool_none (zac I q (by simp))
    | bl j=>cases ry;exact eq_bool (zac I q zvl)
    | str j=>obtain ⟨t',rfl⟩:=ry;exact PySem.EqMixed.eq_bool_str (zac I q (by simp))
    | _=>exact absurd (show false=true from hs) Bool.false_ne_true
  | int i =>
    obtain ⟨t,rfl⟩:=rx;cases y with
    | non=>cases ry;exact PySem.EqNone.eq_int_none (zac I q (by simp))
    | int j=>obtain ⟨t',rfl⟩:=ry;exact eq_int (zac I q zo8)
    | str j=>obtain ⟨t',rfl⟩:=ry;exact PySem.EqMixed.eq_int_str (zac I q (by simp))
    | _=>exact absurd (show false=true from hs) Bool.false_ne_true
  | str i =>
    obtain ⟨t,rfl⟩:=rx;cases y with
    | non=>cases ry;exact PySem.EqNone.eq_str_none (zac I q (by simp))
    | bl j=>cases ry;exact PySem.EqMixed.eq_str_bool (zac I q (by simp))
    | int j=>obtain ⟨t',rfl⟩:=ry;exact PySem.EqMixed.eq_str_int (zac I q (by simp))
    | str j=>obtain ⟨t',rfl⟩:=ry;exact eq_str (zac I q zqj)
    | _=>exact absurd (show false=true from hs) Bool.false_ne_true
  | byt i =>
    obtain ⟨t,rfl⟩:=rx;cases y with
    | byt j=>obtain ⟨t',rfl⟩:=ry;exact PySem.W.eq_bytes (zac I q zqb)
    | _=>exact absurd (show false=true from hs) Bool.false_ne_true
  | _=>cases y<;>exact absurd (show false=true from hs) Bool.false_ne_true
theorem z30:OpR X (compareOp .NotEq) rNe:=by
  intro pins s σ H x y v u Q I rx ry h;obtain ⟨hs,q⟩:=h;cases x with
  | non =>
    cases rx;cases y with
    | non=>cases ry;exact PySem.EqNone.ne_none_none (zac I q (by simp))
    | bl j=>cases ry;exact PySem.EqNone.ne_none_bool (zac I q (by simp))
    | int j=>obtain ⟨t',rfl⟩:=ry;exact PySem.EqNone.ne_none_int (zac I q (by simp))
    | str j=>obtain ⟨t',rfl⟩:=ry;exact PySem.EqNone.ne_none_str (zac I q (by simp))
    | _=>exact absurd (show false=true from hs) Bool.false_ne_true
  | bl i =>
    cases rx;cases y with
    | non=>cases ry;exact PySem.EqNone.ne_bool_none (zac I q (by simp))
    | bl j=>cases ry;exact ne_bool (zac I q (congrArg not zvl))
    | str j=>obtain ⟨t',rfl⟩:=ry;exact PySem.EqMixed.ne_bool_str (zac I q (by simp))
    | _=>exact absurd (show false=true from hs) Bool.false_ne_true
  | int i =>
    obtain ⟨t,rfl⟩:=rx;cases y with
    | non=>cases ry;exact PySem.EqNone.ne_int_none (zac I q (by simp))
    | int j=>obtain ⟨t',rfl⟩:=ry;exact ne_int (zac I q (congrArg not zo8))
    | str j=>obtain ⟨t',rfl⟩:=ry;exact PySem.EqMixed.ne_int_str (zac I q (by simp))
    | _=>exact absurd (show false=true from hs) Bool.false_ne_true
  | str i =>
    obtain ⟨t,rfl⟩:=rx;cases y with
    | non=>cases ry;exact PySem.EqNone.ne_str_none (zac I q (by simp))
    | bl j=>cases ry;exact PySem.EqMixed.ne_str_bool (zac I q (by simp))
    | int j=>obtain ⟨t',rfl⟩:=ry;exact PySem.EqMixed.ne_str_int (zac I q (by simp))
    | str j=>obtain ⟨t',rfl⟩:=ry;exact ne_str (zac I q (congrArg not zqj))
    | _=>exact absurd (show false=true from hs) Bool.false_ne_true
  | byt i =>
    obtain ⟨t,rfl⟩:=rx;cases y with
    | byt j=>obtain ⟨t',rfl⟩:=ry;exact PySem.W.ne_bytes (zac I q (congrArg not zqb))
    | _=>exact absurd (show false=true from hs) Bool.false_ne_true
  | _=>cases y<;>exact absurd (show false=true from hs) Bool.false_ne_true
theorem z3d:OpR X (compareOp .Lt) (rI0 fun i j=>.bl (decide (i < j))):=opB0 fun _ _ _ _ _ _ _ q=>lt_int q
theorem z3i:OpR X (compareOp .LtE) (rI0 fun i j=>.bl (decide (i<=j))):=opB0 fun _ _ _ _ _ _ _ q=>le_int q
theorem z4p:OpR X (compareOp .Gt) (rI0 fun i j=>.bl (decide (j < i))):=opB0 fun _ _ _ _ _ _ _ q=>gt_int q
theorem z4u:OpR X (compareOp .GtE) (rI0 fun i j=>.bl (decide (j<=i))):=opB0 fun _ _ _ _ _ _ _ q=>ge_int q
theorem z24:OpR X (compareOp .Is) (fun x y H Q=>y=.non/\Q (.bl (decide (x=.non))) H):=by
 intro pins s σ H x y v u Q I rx ry h;obtain ⟨rfl,q⟩:=h;cases ry;refine is_none_gen (zac I q ?_);cases x<;>first
  | (cases rx;rfl)
  | (obtain ⟨t,rfl⟩:=rx;rfl)
theorem zzi:OpR X (compareOp .IsNot) (fun x y H Q=>y=.non/\Q (.bl (!decide (x=.non))) H):=by
 intro pins s σ H x y v u Q I rx ry h;obtain ⟨rfl,q⟩:=h;cases ry;refine isnot_none_gen (zac I q ?_);cases x<;>first
  | (cases rx;rfl)
  | (obtain ⟨t,rfl⟩:=rx;rfl)
theorem OpR.or {f:Value->Value->Sem Value}{r r' : R2} (h:OpR X f r) (h' : OpR X f r'):OpR X f (fun x y H Q=>r x y H Q\/r' x y H Q):=by
 intro pins s σ H x y v u Q I rx ry q;rcases q with q | q
 ·exact h pins s σ H x y v u Q I rx ry q
 ·exact h' pins s σ H x y v u Q I rx ry q
theorem zwz {op:CmpOp}{r:R2} (ho:OpR X (compareOp op) r) (ha:PE X a ta) (hb:PE X b tb) (hm:behindInMarks op b=false):PE X (.Compare a [op] [b] pos) (tOp r ta tb):=by
 intro pins s σ H Q I h;exact wpAny_Compare1 (binT ha hb I h fun v u s2 x y H2 I2 rx ry q=>ho pins s2 σ H2 x y v u Q I2 rx ry q) hm
noncomputable def zyf (t:TE):TT:=fun σ H Q=>t σ H fun x H'=>∃k,x=.bl k/\Q k H'
theorem zwe {op:CmpOp}{r:R2} (ho:OpR X (compareOp op) r) (ha:PE X a ta) (hb:PE X b tb) (hm:behindInMarks op b=false):PT X (.Compare a [op] [b] pos) (zyf (tOp r ta tb)):=by
 intro pins s σ H Q I h;refine wpAny_isTrue_Compare1 (thn (ha pins s σ H _ I h) fun v s1 ⟨x,H1,I1,r1,q1⟩=>thn (hb pins s1 σ H1 _ I1 q1) fun u s2 ⟨y,H2,I2,r2,q2⟩ =>
  thn (ho pins s2 σ H2 x y v u _ I2 r1 r2 q2) fun c s3 ⟨z,H3,I3,r3,k,e,q3⟩=>?_) hm
 subst e;cases r3;exact wpAny_truthy_bool ⟨H3,I3,q3⟩
noncomputable def zql (r r' : R2) (ta tb tc:TE):TE:=fun σ H Q=>ta σ H fun x H1=>tb σ H1 fun y H2=>r x y H2 fun z H3=>∃k,z=.bl k /\
 (if k=true then tc σ H3 fun w' H4=>r' y w' H4 Q else Q (.bl false) H3)
theorem zr6 {op op' : CmpOp}{r r' : R2} (ho:OpR X (compareOp op) r) (ho' : OpR X (compareOp op') r') (ha:PE X a ta) (hb:PE X b tb) (hc:PE X c tc)
  (hm:lastMarks [op,op'] [b,c]=false:=by with_unfolding_all rfl):PE X (.Compare a [op,op'] [b,c] pos) (zql r r' ta tb tc):=by
 intro pins s σ H Q I h;refine Compare_chain (thn (ha pins s σ H _ I h) fun v s1 ⟨x,H1,I1,r1,q1⟩=>chain_link (thn (hb pins s1 σ H1 _ I1 q1) fun u s2 ⟨y,H2,I2,r2,q2⟩ =>
  thn (ho pins s2 σ H2 x y v u _ I2 r1 r2 q2) fun d s3 ⟨z,H3,I3,r3,k,e,q3⟩=>?_)) hm
 subst e;cases r3;refine wpAny_truthy_bool ?_;cases k with
 | false=>exact ite_ff ⟨.bl false,H3,I3,rfl,q3⟩
 | true=>exact ite_tt (chain_last (thn (hc pins s3 σ H3 _ I3 q3) fun w' s4 ⟨z',H4,I4,r4,q4⟩=>ho' pins s4 σ H4 y z' u w' Q I4 r2 r4 q4))
theorem zuf {op op' : CmpOp}{r r' : R2} (ho:OpR X (compareOp op) r) (ho' : OpR X (compareOp op') r') (ha:PE X a ta) (hb:PE X b tb) (hc:PE X c tc)
    (hm:lastMarks [op,op'] [b,c]=false:=by with_unfolding_all rfl):PT X (.Compare a [op,op'] [b,c] pos) (zyf (zql r r' ta tb tc)):=by
  intro pins s σ H Q I h;refine isTrue_chain (thn (ha pins s σ H _ I h) fun v s1 ⟨x,H1,I1,r1,q1⟩=>test_link (thn (hb pins s1 σ H1 _ I1 q1) fun u s2 ⟨y,H2,I2,r2,q2⟩ =>
    thn (ho pins s2 σ H2 x y v u _ I2 r1 r2 q2) fun d s3 ⟨z,H3,I3,r3,k,e,q3⟩=>?_)) hm
  subst e;cases r3;refine wpAny_truthy_bool ?_;cases k with
  | false =>
    obtain ⟨k',e',q'⟩:=q3;cases e';exact ite_ff ⟨H3,I3,q'⟩
  | true =>
    refine ite_tt (test_last (thn (hc pins s3 σ H3 _ I3 q3) fun w' s4 ⟨z',H4,I4,r4,q4⟩=>thn (ho' pins s4 σ H4 y z' u w' _ I4 r2 r4 q4) fun d' s5 ⟨z2,H5,I5,r5,k2,e2,q5⟩=>?_));subst e2;cases r5;exact wpAny_truthy_bool ⟨H5,I5,q5⟩
theorem zl4:(sizeLine:Nat) < 2 ^ 63:=by rw [sizeLine_eq];decide
theorem zny:OpR X (binaryOp .Add) (fun x y H Q=>∃i j,x=.str i/\y=.str j/\i.length+j.length<=sizeLine/\Q (.str (i++j)) H):=by
 intro pins s σ H x y v u Q I rx ry h;obtain ⟨i,j,rfl,rfl,hz,q⟩:=h;obtain ⟨t,rfl⟩:=rx;obtain ⟨t',rfl⟩:=ry;exact add_str (fun t' tk=>⟨.str (i++j),H,I.tok _,⟨_,rfl⟩,q⟩) hz
theorem vals1 {x:V}{us:List Value} (r:Vals [x] us):∃u,us=[u]/\RelV x u:=by
 cases r with
 | cons r1 r2=>cases r2;exact ⟨_,rfl,r1⟩
theorem z2o {x y:V}{us:List Value} (r:Vals [x,y] us):∃u w',us=[u,w']/\RelV x u/\RelV y w':=by
  cases r with
  | cons r1 r2 =>
    cases r2 with
    | cons r3 r4=>cases r4;exact ⟨_,_,rfl,r1,r3⟩
theorem zt7:zdu X (.builtin "abs") (fun xs H Q=>∃i,xs=[.int i]/\Q (.int (if i < 0 then -i else i)) H):=by
 intro pins s σ H xs us Q I r h;obtain ⟨i,rfl,q⟩:=h;obtain ⟨u,rfl,t,rfl⟩:=vals1 r;exact call_abs_int fun u tk=>⟨.int (if i < 0 then -i else i),H,I.tok _,⟨_,rfl⟩,q⟩
theorem zrq (hc:X.calm=true):zdu X (.builtin "max") (fun xs H Q=>∃i j,xs=[.int i,.int j]/\Q (.int (if j > i then j else i)) H):=by
 intro pins s σ H xs us Q I r h;refine aG fun _ qG=>?_;obtain ⟨i,j,rfl,q⟩:=h;obtain ⟨u,w',rfl,⟨t,rfl⟩,⟨t',rfl⟩⟩:=z2o r;refine qG ?_;clear qG;refine max_two_ints (I.ok.hd hc) fun h' tk k=>⟨_,H,I.kept k,?_,q⟩;by_cases hj:j > i
 ·rw [if_pos hj,if_pos hj];exact ⟨_,rfl⟩
 ·rw [if_neg hj,if_neg hj];exact ⟨_,rfl⟩
theorem zpl (hc:X.calm=true):zdu X (.builtin "min") (fun xs H Q=>∃i j,xs=[.int i,.int j]/\Q (.int (if j < i then j else i)) H):=by
 intro pins s σ H xs us Q I r h;obtain ⟨i,j,rfl,q⟩:=h;obtain ⟨u,w',rfl,⟨t,rfl⟩,⟨t',rfl⟩⟩:=z2o r;refine min_two_ints (I.ok.hd hc) fun h' tk k=>⟨_,H,I.kept k,?_,q⟩;by_cases hj:j < i
 ·rw [if_pos hj,if_pos hj];exact ⟨_,rfl⟩
 ·rw [if_neg hj,if_neg hj];exact ⟨_,rfl⟩
theorem zpf:zdu X (.type "int") (fun xs H Q=>(∃i,xs=[.int i]/\Q (.int i) H)\/∃k,xs=[.bl k]/\Q (.int (if k then 1 else 0)) H):=by
 intro pins s σ H xs us Q I r h;rcases h with ⟨i,rfl,q⟩ | ⟨k,rfl,q⟩
 ·obtain ⟨u, rfl, t, rfl⟩ := vals1 r;exact call_int_int ⟨.int i,H,I,⟨_,rfl⟩,q⟩
 ·obtain ⟨u, rfl, r1⟩ := vals1 r;cases r1;exact call_int_bool ⟨.int (if k then 1 else 0),H,I.tok _,⟨_,rfl⟩,q⟩
end
end L2
namespace L2
open PySem PySem.Spec PyProof.Rows
structure ObjM (h:Heap) (x dx C:Addr) (mA:Str->Option Value):Prop where
 obj:h.get? x=some (PySem.W.instObj C dx)
 ns:h.Ns1 dx mA
 ne:dx≠x
theorem zpk {h:Heap}{dx:Addr}{mA:Str->Option Value} (n:h.Ns1 dx mA):∃od,h.get? dx=some od/\∀name,PySem.W.lookIn name od=some (mA name):=by
 refine aG fun _ qG=>?_;obtain ⟨o,es,ep,ho,hd,hk,_,hm⟩:=n;refine qG ?_;clear qG;refine ⟨o,ho,fun name=>?_⟩;have e:=hm name;unfold nsFind findBy at e;rw [<-Array.find?_toList] at e;unfold PySem.W.lookIn;rw [hd];dsimp only;split
 ·rename_i y q;rw [q] at e;exact congrArg some e
 ·rename_i q;rw [q] at e;have a:es.toList.any (·.refKey)=false:=by
   rw [List.any_eq_false];intro y hy;obtain ⟨z,t,hkey⟩:=hk y (Array.mem_toList_iff.mp hy);simp [DictEntry.refKey,hkey]
  have a' : ¬ es.toList.any (·.refKey)=true:=by rw [a];exact Bool.false_ne_true
  rw [if_neg a'];exact congrArg some e
theorem ObjM.look {h:Heap}{x dx C:Addr}{mA:Str->Option Value} (I:ObjM h x dx C mA):∃od,PySem.W.InstAt h x (PySem.W.instObj C dx) C (some od)/\∀name,PySem.W.lookIn name od=some (mA name) :=
 let ⟨od,ho,hl⟩:=zpk I.ns
 ⟨od,⟨I.obj,rfl,rfl,ho⟩,hl⟩
section
variable {prog:Program}{w:World}{A:Around}{E:Value->Shared->Prop}{s:Shared}{K:PySem.W.Frag}{x dx C f:Addr}{mA:Str->Option Value}{name:Str}{v:Value}
end
section
variable {P:Program}{w:World}{H H' : Hp}{h h' : Heap}{a C dx:Addr}{fs fs' : List (Str × V)}
theorem zzb (hok:HOk P w H h) (e:H a=some (.ins C dx fs)):∃mA,ObjM h a dx C mA/\(∀f,RelO (fs.lookup f) (mA f))/\PySem.Within mA (fs.map (·.1))/\fs.length<=1000/\H dx=some (.own a):=by
 refine aG fun _ qG=>?_;obtain ⟨d,z,ne,ob,mA,n,r,q⟩:=(show zb6 P w H h a (.ins C dx fs) from hok a _ e);refine qG ?_;clear qG;exact ⟨mA,⟨ob,n,ne⟩,r,q,z,d⟩
end
structure Cls (K:PySem.W.Frag) (C:Addr):Prop where
 pg:PySem.W.plainGet K C Str.empty=true
 hd:PySem.W.hasDictIn K C=true
 po:PySem.W.plainOver K C=true
 sa:PySem.W.findIn K (.ref C) "__setattr__" = some (some (.builtin "object.__setattr__"))
theorem Cls.get {K:PySem.W.Frag}{C:Addr} (c:Cls K C) (f:Str):PySem.W.plainGet K C f=true:=c.pg
section
variable {X:Cx}{pins:List (Addr × Obj)}{σ:St}{H:Hp}{s:Shared}{a C dx:Addr}{fs:List (Str × V)}{f:Str}{v:V}{A:Around}{E:Value->Shared->Prop}
end
section
variable {X:Cx}{o e value:Expr}{f:Str}{pos pos' tpos:Pos}{ta tv:TE}
end
section
variable {X:Cx}{pins:List (Addr × Obj)}{σ:St}{H:Hp}{s:Shared}{A:Around}{E:Value->Shared->Prop}{Q:Value->Shared->Prop}{c:Value}{b:Bool}
inductive TyOf (K:PySem.W.Frag) (H:Hp):V->Value->Prop where
 | non:TyOf K H .non (.type "NoneType")
 | bl (x:Bool):TyOf K H (.bl x) (.type "bool")
 | int (i:Int):TyOf K H (.int i) (.type "int")
 | str (x:Str):TyOf K H (.str x) (.type "str")
 | flt (x:UInt64):TyOf K H (.flt x) (.type "float")
 | lst {a:Addr}{xs:List V} (e:H a=some (.lst xs)):TyOf K H (.ref a) (.type "list")
 | frz {a:Addr}{o:Obj}{xs:List V} (e:H a=some (.frz o (.lst xs))):TyOf K H (.ref a) (.type "list")
 | tup {a:Addr}{xs:List V} (e:H a=some (.tup xs)):TyOf K H (.ref a) (.type "tuple")
 | dK {a:Addr}{kvs:List (Key × V)} (e:H a=some (.dK kvs)):TyOf K H (.ref a) (.type "dict")
 | dT {a:Addr}{kvs:List (List Key × V)} (e:H a=some (.dT kvs)):TyOf K H (.ref a) (.type "dict")
 | ins {a C dx:Addr}{fs:List (Str × V)} (e:H a=some (.ins C dx fs)) (cl:Cls K C) (ha:PySem.W.findIn K (.ref C) "__class__" = some (some (.builtin "object.__class__")))
   (hn:PySem.W.specialIn K (.builtin "object.__class__") "__get__" = some (some (.builtin "getset_descriptor.__get__"))) (htk:PySem.W.takesIn K (.builtin "object.__class__")=some true)
   (hm:PySem.W.mroIn K C (.type "object")=some true):TyOf K H (.ref a) (.ref C)
theorem zpq {x:V}{u t:Value} (I:Inv X pins σ H s) (rx:RelV x u) (ty:TyOf X.K H x t) (e:PySem.W.kitOne X.K t c=some b) (h:∀tk,Q (.bool b) { s with toks:=tk }) :
    wpAny (model X.prog X.w) A (call (.builtin "isinstance") [u,c]) Q E s:=by
  cases ty with
  | non=>cases (show u=Value.none from rx);exact PySem.W.kia_one PySem.W.kitx_none I.kIn True.intro e (fun z=>nomatch z) h
  | bl y=>cases (show u=Value.bool y from rx);exact PySem.W.kia_one PySem.W.kitx_bool I.kIn True.intro e (fun z=>nomatch z) h
  | int i=>obtain ⟨t,q⟩:=(show ∃t,u=Value.int i t from rx);cases q;exact PySem.W.kia_one PySem.W.kitx_int I.kIn True.intro e (fun z=>nomatch z) h
  | str y=>obtain ⟨t,q⟩:=(show ∃t,u=Value.str y t from rx);cases q;exact PySem.W.kia_one PySem.W.kitx_str I.kIn True.intro e (fun z=>nomatch z) h
  | flt y=>obtain ⟨t,q⟩:=(show ∃t,u=Value.float y t from rx);cases q;exact PySem.W.kia_one PySem.W.kitx_float I.kIn True.intro e (fun z=>nomatch z) h
  | @lst a xs ea =>
    cases (show u=Value.ref a from rx);obtain ⟨_,_,n,_,h1⟩:=(show zb6 X.prog X.w H s.heap a (.lst xs) from I.hok a _ ea);exact PySem.W.kia_one PySem.W.kitx_list I.kIn ⟨_,h1,rfl⟩ e (fun z=>nomatch z) h
  | @frz a ob xs ea =>
    cases (show u=Value.ref a from rx);obtain ⟨_,_,_,n,_,h1⟩:=(show zb6 X.prog X.w H s.heap a (.frz ob (.lst xs)) from I.hok a _ ea);exact PySem.W.kia_one PySem.W.kitx_list I.kIn ⟨_,h1,rfl⟩ e (fun z=>nomatch z) h
  | @tup a xs ea =>
    cases (show u=Value.ref a from rx);obtain ⟨_,_,_,p⟩:=(show zb6 X.prog X.w H s.heap a (.tup xs) from I.hok a _ ea);obtain ⟨o,h1,h2,_⟩:=p;exact PySem.W.kia_one PySem.W.kitx_tuple I.kIn ⟨o,h1,h2⟩ e (fun z=>nomatch z) h
  | @dK a kvs ea =>
    cases (show u=Value.ref a from rx);obtain ⟨_,_,vs,_,p⟩:=(show zb6 X.prog X.w H s.heap a (.dK kvs) from I.hok a _ ea);obtain ⟨o,es,ep,h1,h2,_⟩:=p;exact PySem.W.kia_one PySem.W.kitx_dict I.kIn ⟨o,h1,h2.1⟩ e (fun z=>nomatch z) h
  | @dT a kvs ea =>
    cases (show u=Value.ref a from rx);obtain ⟨_,_,xs,_,o,es,ep,h1,h2,_⟩:=(show zb6 X.prog X.w H s.heap a (.dT kvs) from I.hok a _ ea);exact PySem.W.kia_one PySem.W.kitx_dict I.kIn ⟨o,h1,h2.1⟩ e (fun z=>nomatch z) h
  | @ins a C dx fs ea cl ha hn htk hm =>
    cases (show u=Value.ref a from rx);obtain ⟨mA,O,_⟩:=zzb I.hok ea;obtain ⟨od,J,_⟩:=O.look;exact PySem.W.kia_one (PySem.W.kitx_own (cl.get _) cl.hd ha hn htk hm) I.kIn J e (fun z=>nomatch z) h
end
end L2
namespace L2
open PySem PySem.Spec PyProof.Rows
structure Room (k:Nat) (A:Around):Prop where
 hd:A.handled=none
 dp:A.depth+3 * k+5 < recursionLimit
 un:A.units+16 * k+200 < cLine
 gd:A.guards=some []
theorem Room.mono {j k:Nat}{A:Around} (r:Room k A) (h:j<=k):Room j A:=⟨r.hd,by have:=r.dp;omega,by have:=r.un;omega,r.gd⟩
theorem Room.deeper {k:Nat}{A:Around} (r:Room (k+1) A) (env:Env):Room k (A.deeper env) :=
 ⟨r.hd,by have:=r.dp;show A.depth+1+3 * k+5 < _;omega,by have:=r.un;show A.units+3+16 * k+200 < _;omega,r.gd⟩
theorem Room.depth {k:Nat}{A:Around} (r:Room k A):A.depth < recursionLimit:=by have:=r.dp;omega
noncomputable def tNil:TA:=fun _ H Q=>Q [] H
noncomputable def zcr (ta:TE) (tr:TA):TA:=fun σ H Q=>ta σ H fun x H1=>tr σ H1 fun xs H2=>Q (x::xs) H2
section
variable {X:Cx}{e:Expr}{es:List Expr}{te:TE}{t:TA}{pos:Pos}
theorem zdv:PA X [] tNil:=fun _ _ _ _ H Q I h=>Calls.spliced_nil ⟨[],H,I,.nil,h⟩
theorem zxq (ha:PE X e te) (hr:PA X es t) (hs:starEach (e::es) X.env=(false,eval e X.env)::starEach es X.env:=by rfl):PA X (e::es) (zcr te t):=by
 intro pos pins s σ H Q I h;rw [hs];show wpAny _ _ (spliced ((false,eval e X.env)::backTo pos (starEach es X.env))) _ _ s;refine Calls.spliced_cons (thn (ha pins s σ H _ I h) fun u s1 ⟨x,H1,I1,r1,q1⟩=>?_);exact thn (hr pos pins s1 σ H1 _ I1 q1) fun us s2 ⟨xs,H2,I2,r2,q2⟩=>⟨x::xs,H2,I2,.cons r1 r2,q2⟩
noncomputable def tTup (t:TA):TE:=fun σ H Q=>t σ H fun xs H1=>xs.length<=sizeLine/\∀p,H1 p=none->Q (.ref p) (upd H1 p (.tup xs))
noncomputable def tLst (t:TA):TE:=fun σ H Q=>t σ H fun xs H1=>xs.length<=sizeLine/\∀p,H1 p=none->Q (.ref p) (upd H1 p (.lst xs))
theorem z20 {x1} (h:PA X es t):PE X (.Tuple es x1 pos) (tTup t):=by
 intro pins s σ H Q I hq;refine wpAny_Tuple_spliced (thn (h pos pins s σ H _ I hq) fun us s1 ⟨xs,H1,I1,r,z,q⟩=>⟨by rw [<-r.length];exact z,?_⟩);have hf:H1 s1.heap.objs.size=none:=I1.hok.fresh (Nat.le_refl _);refine ⟨.ref s1.heap.objs.size,upd H1 s1.heap.objs.size (.tup xs),I1.laid (t':=s1.toks) (fun b u e=>Heap.get?_push_of_some _ e) (Nat.le_refl _) ?_,rfl,q _ hf⟩;exact ⟨z,us,r,⟨_,Heap.get?_push_size _ rfl,rfl,_,rfl⟩⟩
theorem z2x (h:PA X es t):PE X (.List es pos) (tLst t):=by
 intro pins s σ H Q I hq;refine wpAny_List_spliced (thn (h pos pins s σ H _ I hq) fun us s1 ⟨xs,H1,I1,r,z,q⟩=>⟨by rw [<-r.length];exact z,?_⟩);have hf:H1 s1.heap.objs.size=none:=I1.hok.fresh (Nat.le_refl _);refine ⟨.ref s1.heap.objs.size,upd H1 s1.heap.objs.size (.lst xs),I1.laid (t':=s1.toks) (fun b u e=>Heap.get?_push_of_some _ e) (Nat.le_refl _) ?_,rfl,q _ hf⟩;exact ⟨z,us,0,r,Heap.get?_push_size _ rfl⟩
end
noncomputable abbrev Sp:=List V->Hp->VK->XK->Prop
noncomputable abbrev CXT:=List Env->Hp->Shared->XK->Value->Shared->Prop
structure Env0 (P:Program) (w:World) (K:PySem.W.Frag) (mg:Str->Option Value) (base:Heap) (A:Around) (outer:List Env) (s:Shared) (H:Hp):Prop where
 frames:A.frames=some outer
 mod:Mod K mg base
 bs:∀b o,base.get? b=some o->s.heap.get? b=some o/\H b=none
 bsz:base.objs.size<=s.heap.objs.size
 funs:s.heap.FunFrames base outer
 frf:∀b∈frs outer,H b=none
 hok:HOk P w H s.heap
 bare:AllBare s.gens
noncomputable def CE (outer:List Env) (P:Program) (w:World) (H:Hp) (s:Shared) (Q:VK) (u:Value) (s' : Shared):Prop :=
 ∃v H',s'.os=s.os/\AllBare s'.gens/\Un (frs outer) [] H H' s.heap s'.heap/\HOk P w H' s'.heap/\RelV v u/\Q v H'
noncomputable def CR (CX:CXT) (outer:List Env) (P:Program) (w:World) (H:Hp) (s:Shared) (Q:VK) (E:XK) (r:Result) (s' : Shared):Prop :=
 match r with
 | .ok (.ret u)=>CE outer P w H s Q u s'
 | .ok _=>False
 | .error e=>CX outer H s E e s'
structure FnOk (P:Program) (w:World) (K:PySem.W.Frag) (mg:Str->Option Value) (base:Heap) (CX:CXT) (k:Nat) (f:Addr) (fd:FuncData) (ps:List Str) (sp:Sp):Prop where
 len:∀vs H Q E,sp vs H Q E->vs.length=ps.length
 run:∀(A:Around) (outer:List Env) (s:Shared) (H:Hp) (args:Args) (us:List Value) (vs:List V) (Q:VK) (E:XK),Room k A->Env0 P w K mg base A outer s H->BindsTo s fd args (ps.zip us)->Vals vs us->sp vs H Q E ->
  codeAny (model P w) A (.call (.ref f) args) (CR CX outer P w H s Q E) s
section
variable {X:Cx}{pins:List (Addr × Obj)}{σ:St}{H:Hp}{s s' : Shared}
theorem Inv.env0 (I:Inv X pins σ H s):Env0 X.prog X.w X.K X.mg X.base X.A X.stack s H :=
 ⟨I.ok.frames,I.ok.mod,I.bs,Nat.le_trans I.ok.bsz I.sz,I.stack,I.stkFree,I.hok,I.bare⟩
theorem Inv.after {Q:VK}{u:Value} (I:Inv X pins σ H s) (h:CE X.stack X.prog X.w H s Q u s'):EP X pins σ Q u s':=by
 refine aG fun _ qG=>?_;obtain ⟨v,H',os,bare,un,hok,r,q⟩:=h;obtain ⟨hh,g,d,t,os'⟩:=s';refine qG ?_;clear qG;obtain rfl:os'=s.os:=os;exact ⟨v,H',I.call (h':=hh) (g':=g) (d':=d) (t':=t) (ch:=[]) un hok bare (fun b z=>absurd z (by simp)),r,q⟩
end
noncomputable def zy0 (sp:Sp) (dvs:List V) (E:XK) (t:TA):TE:=fun σ H Q=>t σ H fun vs H1=>sp (vs++dvs) H1 Q E
noncomputable def zj3 (K:PySem.W.Frag) (fd:FuncData) (ps:List Str) (ds:List Value):Prop :=
 ∀(s:Shared) (us:List Value),K.In s.heap->(us++ds).length=ps.length->BindsTo s fd ⟨us,[]⟩ (ps.zip (us++ds))
theorem zj3.all {K:PySem.W.Frag}{fd:FuncData}{ps:List Str} (h:∀us:List Value,us.length=ps.length->bindArgs fd ⟨us,[]⟩=pure (ps.zip us)):zj3 K fd ps []:=fun s us _ hl=>by
 rw [List.append_nil] at hl ⊢;exact .of_eq (h us hl)
noncomputable def zo7 (CX:CXT) (X:Cx) (E:XK):Prop:=∀(pins:List (Addr × Obj)) (σ:St) (H:Hp) (s:Shared) (e:Value) (s' : Shared),Inv X pins σ H s->CX X.stack H s E e s'->X.xe e s'
section
variable {X:Cx}{CX:CXT}{k:Nat}{f C:Addr}{fd:FuncData}{ps:List Str}{sp:Sp}{dvs:List V}{ds:List Value}{E:XK}{x m:Str}{p pos apos:Pos}{e o:Expr}{es:List Expr}{ta:TE}{t:TA}
theorem z2u {pins:List (Addr × Obj)}{σ:St}{H:Hp}{s:Shared}{Q:VK}{us:List Value}{vs:List V} (F:FnOk X.prog X.w X.K X.mg X.base CX k f fd ps sp) (hr:Room k X.A) (hb:zj3 X.K fd ps ds) (hd:Vals dvs ds) (hx:zo7 CX X E)
    (I:Inv X pins σ H s) (r:Vals vs us) (h:sp (vs++dvs) H Q E):wpAny (model X.prog X.w) X.A (call (.ref f) us) (EP X pins σ Q) X.xe s:=by
  have r2:Vals (vs++dvs) (us++ds):=r.append hd;have hl:(us++ds).length=ps.length:=by rw [<-r2.length];exact F.len _ _ _ _ h
  refine wpAny_call (codeAny_mono (F.run X.A X.stack s H ⟨us,[]⟩ (us++ds) (vs++dvs) Q E hr I.env0 (hb s us I.kIn hl) r2 h) fun r s' hq=>?_);cases r with
  | error e=>exact hx pins σ H s e s' I hq
  | ok fl =>
    cases fl with
    | ret u=>exact I.after hq
    | next=>exact False.elim hq
    | brk=>exact False.elim hq
    | cont=>exact False.elim hq
theorem zw4 (F:FnOk X.prog X.w X.K X.mg X.base CX k f fd ps sp) (hr:Room k X.A) (hg:Gl X x) (hm:X.mg x=some (.ref f)) (hk:PySem.W.keepIn X.K (.ref f)=true) (hb:zj3 X.K fd ps ds) (hd:Vals dvs ds) (hx:zo7 CX X E)
  (ha:PA X (e::es) t) (hdb:(x == ("__debug__" : Str))=false:=by decide) (he:starEach (e::es) X.env=(false,eval e X.env)::starEach es X.env:=by rfl) (hpl:(backTo pos (starEach es X.env)).any (·.1)=false:=by rfl) :
  PE X (.Call (.Name x p) (e::es) [] pos) (zy0 sp dvs E t):=by
 intro pins s σ H Q I h;refine wpAny_Call_Name_kw (zx8 I hg hm ?_ hdb);refine PySem.W.callWith_K (h₀:=X.base) I.ok.mod.kin hk (thn (ha pos pins s σ H _ I h) fun us s1 ⟨vs,H1,I1,r,q⟩=>⟨I1.kIn,?_⟩) he hpl;exact z2u F hr hb hd hx I1 r q
end
section
variable {X:Cx}{CX:CXT}{k:Nat}{f C:Addr}{fd:FuncData}{ps ks:List Str}{sp:Sp}{E:XK}{x m:Str}{p pos apos kpos:Pos}{e o:Expr}{es:List Expr}{kws:List Keyword}{te ta:TE}{t tk:TA}{nm:Option Str}
variable {g:List Value->List Value->List Value}{gV:List V->List V->List V}
end
structure FnScope (N P:List Str) (sc:Scope):Prop where
 kind:sc.kind=.function
 co:sc.isCoroutine=false
 gen:sc.isGenerator=false
 nd:N.Nodup
 pre:N.take P.length=P
 par:∀x∈P,sc.names.lookup x=some .local\/sc.names.lookup x=some .cell
 nofree:∀y∈sc.names,y.2≠.free
theorem zig {kindOf:Str->Option NameKind}{x:Str}:∀{binds:List (Str × Value)}{m:Str->Option Value},(∀v,(x,v) ∉ binds)->bindL kindOf binds m x=m x
  | [],_,_=>rfl
  | (n,v)::r,m,h=>by
    unfold bindL;rw [zig fun w hw=>h w (List.mem_cons_of_mem _ hw)];split
    · have : x ≠ n := by rintro rfl; exact h v List.mem_cons_self
      simp [this]
    · rfl
theorem zjl {kindOf:Str->Option NameKind}{x:Str}:∀{binds:List (Str × Value)}{m:Str->Option Value},(∀v,(x,v) ∉ binds)->bindC kindOf binds m x=m x
  | [],_,_=>rfl
  | (n,v)::r,m,h=>by
    unfold bindC;rw [zjl fun w hw=>h w (List.mem_cons_of_mem _ hw)];split
    · rfl
    · have : x ≠ n := by rintro rfl; exact h v List.mem_cons_self
      simp [this]
theorem zjv {kindOf:Str->Option NameKind}{x:Str}{v:Value}:∀{P:List Str}{vs:List Value}{i:Nat}{m:Str->Option Value},P.Nodup->P[i]?=some x->vs[i]?=some v->kindOf x=some .local ->
    bindL kindOf (P.zip vs) m x=some v
  | [],_,_,_,_,h,_,_=>by simp at h
  | _::_,[],_,_,_,_,h,_=>by simp at h
  | p::P,w::vs,0,m,nd,h1,h2,hk=>by
    simp at h1 h2;subst h1;subst h2;show bindL kindOf ((p,w)::P.zip vs) m p=_;unfold bindL;rw [zig fun v hv=>(List.nodup_cons.mp nd).1 (List.of_mem_zip hv).1,if_pos hk];simp
  | p::P,w::vs,i+1,m,nd,h1,h2,hk=>by
    show bindL kindOf ((p,w)::P.zip vs) m x=_;unfold bindL;exact zjv (i:=i) (List.nodup_cons.mp nd).2 (by simpa using h1) (by simpa using h2) hk
theorem zis {kindOf:Str->Option NameKind}{x:Str}{v:Value}:∀{P:List Str}{vs:List Value}{i:Nat}{m:Str->Option Value},P.Nodup->P[i]?=some x->vs[i]?=some v->kindOf x≠some .local ->
    bindC kindOf (P.zip vs) m x=some v
  | [],_,_,_,_,h,_,_=>by simp at h
  | _::_,[],_,_,_,_,h,_=>by simp at h
  | p::P,w::vs,0,m,nd,h1,h2,hk=>by
    simp at h1 h2;subst h1;subst h2;show bindC kindOf ((p,w)::P.zip vs) m p=_;unfold bindC;rw [zjl fun v hv=>(List.nodup_cons.mp nd).1 (List.of_mem_zip hv).1,if_neg hk];simp
  | p::P,w::vs,i+1,m,nd,h1,h2,hk=>by
    show bindC kindOf ((p,w)::P.zip vs) m x=_;unfold bindC;exact zis (i:=i) (List.nodup_cons.mp nd).2 (by simpa using h1) (by simpa using h2) hk
noncomputable def start (N:List Str) (vs:List V):St:=vs.map some++List.replicate (N.length - vs.length) none
noncomputable def cxOf (CX:CXT) (P:Program) (w:World) (K:PySem.W.Frag) (mg:Str->Option Value) (base:Heap) (N:List Str) (qual:Str) (scope:Scope) (f:Addr) (cd:Value) (A:Around) (outer:List Env) (s:Shared) (H:Hp) (E:XK):Cx where
 prog:=P
 w:=w
 K:=K
 mg:=mg
 base:=base
 A:=A.deeper (envOfC qual scope s.heap.objs.size f cd)
 N:=N
 s₀:=s
 H₀:=H
 env:=envOfC qual scope s.heap.objs.size f cd
 outer:=outer
 stack:=envOfC qual scope s.heap.objs.size f cd::outer
 ex:=[]
 calm:=true
 fn:=fun _=>true
 pn:=[]
 xe:=fun e s'=>wpAny (model P w) (A.deeper (envOfC qual scope s.heap.objs.size f cd)) (leaving (envOfC qual scope s.heap.objs.size f cd) e) (fun _ s''=>CX outer H s E e s'') (fun e' s''=>CX outer H s E e' s'') s'
theorem cell_has {sc:Scope}{n:Nat}{x:Str} (h:sc.names.lookup x=some .cell):∃c,(cellsFrom n sc.names []).lookup x=some c:=by
 have q:=PySem.W.cellsFrom_some sc.names n [] (.inl h);exact Option.isSome_iff_exists.mp q
theorem zqm {CX:CXT}{P:Program}{w:World}{K:PySem.W.Frag}{mg:Str->Option Value}{base:Heap}{N ps:List Str}{qual:Str}{scope:Scope}{f:Addr}{cd:Value}{A:Around}{outer:List Env}{s s1:Shared}{H:Hp}{E:XK}{us:List Value}{vs:List V}
  (S:FnScope N ps scope) (hd:A.handled=none) (e0:Env0 P w K mg base A outer s H) (hl:vs.length=ps.length) (r:Vals vs us)
  (x:InCallC s s.heap.objs.size (bindL (envOfC qual scope s.heap.objs.size f cd).kindOf (ps.zip us) fun _=>none) (cellsFrom (s.heap.objs.size+1) scope.names []) (bindC (envOfC qual scope s.heap.objs.size f cd).kindOf (ps.zip us) fun _=>none) s1) :
  Inv (cxOf CX P w K mg base N qual scope f cd A outer s H E) [] (start N vs) H s1:=by
 have hpl:ps.length<=N.length:=by have:=congrArg List.length S.pre;rw [List.length_take] at this;omega
 obtain ⟨h1,tk,rfl,hk⟩:=x.done;have noA:∀b:Addr,b ∉ (cxOf CX P w K mg base N qual scope f cd A outer s H E).ex:=fun b z=>absurd (show b∈([]:List Addr) from z) (by simp);refine ⟨⟨e0.mod,S.kind,rfl,rfl,Nat.le_refl _,fun y z c h1 h2=>?_,fun y hy=>?_,fun y c _ h=>?_,fun _=>hd,Around.frames_deeper e0.frames,.inr ⟨rfl,rfl⟩,fun b z=>absurd z (noA b),e0.bs,e0.bsz,fun b _ _=>noA b,fun b z=>absurd z (noA b),e0.funs,e0.frf⟩,
  rfl,e0.bare,Un.kept hk,⟨_,x.toInCall.ns,fun i y v h1 h2 h3=>?_⟩,fun y c h=>⟨_,x.cell y c h⟩,e0.hok.fresh (Nat.le_refl _),fun y c h=>?_,fun p hp=>absurd (show p∈([]:List (Addr × Obj)) from hp) (by simp),e0.hok.kept hk,?_⟩
 ·exact name_of_addr x.apart (PySem.mem_of_lookup h1) (PySem.mem_of_lookup h2)
 ·have hy : scope.names.lookup y = some .cell \/ scope.names.lookup y = some .free := hy;rcases hy with hy | hy
  ·exact cell_has hy
  ·exact absurd rfl (S.nofree _ (PySem.mem_of_lookup hy))
 ·exact Nat.le_of_lt (x.above y c (PySem.mem_of_lookup h))
 ·have hi:i < vs.length:=by
   unfold start at h2;by_cases hi:i < vs.length
   ·exact hi
   ·rw [List.getElem?_append_right (by simpa using hi)] at h2;rw [List.getElem?_replicate] at h2;split at h2<;>cases h2
  have ha:vs[i]?=some v:=by
   unfold start at h2;rw [List.getElem?_append_left (by simpa using hi),List.getElem?_map] at h2;cases e:vs[i]? with
   | none=>rw [e] at h2;cases h2
   | some a=>rw [e] at h2;cases h2;rfl
  obtain ⟨u,hu,rv⟩:=r.get ha;have hp:ps[i]?=some y:=by
   rw [<-S.pre,List.getElem?_take_of_lt (by omega)];exact h1
  have ndP:ps.Nodup:=by rw [<-S.pre];exact S.nd.sublist (List.take_sublist _ _)
  refine ⟨u,rv,?_⟩;rcases S.par y (List.mem_of_getElem? hp) with k | k
  ·exact .inl ⟨k,zjv ndP hp hu k⟩
  ·obtain ⟨c, e⟩ := cell_has (n := s.heap.objs.size + 1) k;refine .inr ⟨.inl k,c,e,?_⟩;have q:=x.cell y c e;rw [zis ndP hp hu (by show scope.names.lookup y≠_;rw [k];decide)] at q;exact q
 ·exact e0.hok.fresh (Nat.le_of_lt (x.above y c (PySem.mem_of_lookup h)))
 ·unfold start;show _=N.length;rw [List.length_append,List.length_map,List.length_replicate];omega
theorem z3x {CX:CXT}{P:Program}{w:World}{K:PySem.W.Frag}{mg:Str->Option Value}{base:Heap}{k:Nat}{f:Addr}{name qual:Str}{params:Arguments}{body:List Stmt}{scope:Scope}{dV kV doc pm cdv ct oc:Value}{an od:Option Addr}
    {osl:Array (Option Value)}{N ps:List Str}{sp:Sp} (lk:K.lookup f=some ⟨oc,od,.func (PySem.W.fnOf name qual params body scope dV kV doc pm an cdv ct),osl⟩) (hcd:PySem.W.codeIn K cdv qual=true) (S:FnScope N ps scope)
    (len:∀vs H Q E,sp vs H Q E->vs.length=ps.length)
    (hbody:∀(A:Around) (outer:List Env) (s:Shared) (H:Hp) (vs:List V) (Q:VK) (E:XK),(Room k (A.deeper (envOfC qual scope s.heap.objs.size f cdv))/\Room (k+1) A)->sp vs H Q E ->
      ∃t,PSs (cxOf CX P w K mg base N qual scope f cdv A outer s H E) body t/\t { nx:=fun _ H'=>Q .non H',rt:=Q } (start N vs) H) :
    FnOk P w K mg base CX (k+1) f (PySem.W.fnOf name qual params body scope dV kV doc pm an cdv ct) ps sp:=by
  refine ⟨len,fun A outer s H args us vs Q E hr e0 hb r hsp=>?_⟩;have hl:=len _ _ _ _ hsp;have KX:K.In s.heap:=e0.mod.kin.keeps fun b o e=>(e0.bs b o e).1;have lim:s.heap.NoLimit:=e0.mod.nolimit.keeps fun b o e=>(e0.bs b o e).1;have hkind:∀y∈ps.zip us,scope.names.lookup y.1=some .local\/(scope.names.lookup y.1=some .cell/\((cellsFrom (s.heap.objs.size+1) scope.names []).lookup y.1).isSome=true):=fun ⟨n,v⟩ hy=>by
    rcases S.par n (List.of_mem_zip hy).1 with q | q
    · exact .inl q
    · exact .inr ⟨q,PySem.W.cellsFrom_some _ _ _ (.inl q)⟩
  refine codeAny_call_function hr.depth (KX _ _ lk) rfl S.co S.gen rfl (PySem.W.codeRec_of KX hcd) (hb _ _ _ _ ?_);refine wpAny_newFunctionEnv_cells S.kind hkind fun env he s1 x=>?_;subst he;refine ⟨lim.keeps x.toInCall.keep,codeAny_func ?_⟩;obtain ⟨t,ht,hq⟩:=hbody A outer s H vs Q E ⟨hr.deeper _,hr⟩ hsp;have I:Inv (cxOf CX P w K mg base N qual scope f cdv A outer s H E) [] (start N vs) H s1:=zqm S hr.hd e0 hl r x;refine wpAny_mono (ht [] s1 (start N vs) H _ I hq) (fun fl s' hs=>?_) fun e s' hs=>hs;have fin:∀{σ' : St}{H' : Hp}{v:V}{u:Value},Inv (cxOf CX P w K mg base N qual scope f cdv A outer s H E) [] σ' H' s'->RelV v u->Q v H'->CE outer P w H s Q u s' :=
    fun {σ' H' v u} J rv q=>⟨v,H',J.os,J.bare,J.base,J.hok,rv,q⟩
  cases fl with
  | ret u =>
    obtain ⟨v,σ',H',J,rv,q⟩:=hs;exact fin J rv q
  | next =>
    obtain ⟨σ',H',J,q⟩:=hs;exact fin (v:=V.non) (u:=Value.none) J rfl q
  | brk =>
    obtain ⟨_,_,_,q⟩:=hs;exact False.elim q
  | cont =>
    obtain ⟨_,_,_,q⟩:=hs;exact False.elim q
end L2
namespace L2
open PySem PySem.Spec PyProof.Rows
section
variable {X:Cx}{x:Str}{p pos:Pos}{e:Expr}{es:List Expr}{t:TA}{id T:String}{r:List V->Hp->VK->Prop}
noncomputable def tCB (r:List V->Hp->VK->Prop) (t:TA):TE:=fun σ H Q=>t σ H fun vs H1=>r vs H1 Q
theorem zb1 (hc:zdu X (.builtin id) r) (hg:Gl X x) (hm:X.mg x=none) (hv:bootBuiltins x=some (.builtin id)) (ha:PA X (e::es) t) (hn:x≠"__name__" := by decide) (hdb:(x == ("__debug__" : Str))=false:=by decide)
  (he:starEach (e::es) X.env=(false,eval e X.env)::starEach es X.env:=by rfl) (hpl:(backTo pos (starEach es X.env)).any (·.1)=false:=by rfl):PE X (.Call (.Name x p) (e::es) [] pos) (tCB r t):=by
 intro pins s σ H Q I h;refine wpAny_Call_Name_kw (zfn I hg hm hv ?_ hn hdb);exact PyProof.Rows.callWith_builtin1 (thn (ha pos pins s σ H _ I h) fun us s1 ⟨vs,H1,I1,r1,q1⟩=>hc pins s1 σ H1 vs us Q I1 r1 q1) he hpl
theorem zi5 (hc:zdu X (.type T) r) (hg:Gl X x) (hm:X.mg x=none) (hv:bootBuiltins x=some (.type T)) (ha:PA X (e::es) t) (hn:x≠"__name__" := by decide) (hdb:(x == ("__debug__" : Str))=false:=by decide)
  (he:starEach (e::es) X.env=(false,eval e X.env)::starEach es X.env:=by rfl) (hpl:(backTo pos (starEach es X.env)).any (·.1)=false:=by rfl):PE X (.Call (.Name x p) (e::es) [] pos) (tCB r t):=by
 intro pins s σ H Q I h;refine wpAny_Call_Name_kw (zfn I hg hm hv ?_ hn hdb);exact PyProof.Rows.callWith_type1 (thn (ha pos pins s σ H _ I h) fun us s1 ⟨vs,H1,I1,r1,q1⟩=>hc pins s1 σ H1 vs us Q I1 r1 q1) he hpl
end
end L2
namespace HT
open PySem PyProof.Rows
section
open PySem.SeqAt
open PySem.AutoSeq1 (wpAny_loadPart')
open PySem.MeetsSeq PySem.MeetsSeq2 PySem.MeetsSeq3
end
section
variable {prog:Program}{w:World}{A:Around}{E:Value->Shared->Prop}{s:Shared}
theorem cat_tup {t b:Addr}{vs ws:List Value}{Q:Value->Shared->Prop} (ht:IsTup s.heap t vs.toArray) (hb:IsTup s.heap b ws.toArray) (hv:vs≠[])
  (h1:ws=[]->Q (.ref t) s) (h2:ws≠[]->Q (.ref s.heap.objs.size) { s with heap:=s.heap.push { cls:=.type "tuple",data:=.seq (vs++ws).toArray } })
  (hsz:vs.length+ws.length<=sizeLine):wpAny (model prog w) A (binaryOp .Add (.ref t) (.ref b)) Q E s:=by
 obtain ⟨⟨cls,dd,data,sl⟩,ho,hc,n,hd⟩:=id ht;obtain ⟨⟨cls2,dd2,data2,sl2⟩,ho2,hc2,n2,hd2⟩:=id hb;simp only at hc hd hc2 hd2;subst hc hd hc2 hd2;have e:vs.toArray++ws.toArray=(vs++ws).toArray:=by simp
 by_cases hw:ws=[]
 ·exact concat_meets ⟨_,ho,rfl⟩ ⟨_,ho2,rfl⟩ noFill_tuple_add seq_tuple_add PySem.F.slot_tuple_add PySem.F.entry_tuple_add (PySem.F.args_tuple_add_2 _ _)
   (tuple_addW1 t b vs.toArray ws.toArray n n2 dd dd2 sl sl2 (by simpa using hv) (by simp [hw])) ⟨ho,ho2,h1 hw⟩
 ·refine concat_meets ⟨_,ho,rfl⟩ ⟨_,ho2,rfl⟩ noFill_tuple_add seq_tuple_add PySem.F.slot_tuple_add PySem.F.entry_tuple_add (PySem.F.args_tuple_add_2 _ _)
   (tuple_addW2 t b vs.toArray ws.toArray n n2 dd dd2 sl sl2 (by simpa using hv) (by simpa using hw) (by rw [List.size_toArray,List.size_toArray];exact hsz)) ⟨ho,ho2,?_⟩
  rw [e];exact h2 hw
noncomputable def sIx (n d:Nat):Option Int->Nat
 | none=>d
 | some v=>if v < 0 then (v+(n:Int)).toNat else min v.toNat n
theorem sIx_nat (n d k:Nat):sIx n d (some (k:Int))=min k n:=by
 show (if (k:Int) < 0 then ((k:Int)+(n:Int)).toNat else min (k:Int).toNat n)=min k n;rw [if_neg (by omega),Int.toNat_natCast]
theorem z0v (n d:Nat) (hd:d<=n) (o:Option Int):sIx n d o<=n:=by
  cases o with
  | none=>exact hd
  | some v =>
    show (if v < 0 then (v+(n:Int)).toNat else min v.toNat n)<=n;by_cases hv:v < 0
    · rw [if_pos hv];omega
    · rw [if_neg hv];exact Nat.min_le_right _ _
theorem zoi (v:Int) (n d:Nat):(if v < 0 then max (v+(n:Int)) 0 else min v (n:Int))=((sIx n d (some v):Nat):Int):=by
 show (if v < 0 then max (v+(n:Int)) 0 else min v (n:Int))=(((if v < 0 then (v+(n:Int)).toNat else min v.toNat n):Nat):Int);by_cases hv:v < 0
 ·simp only [if_pos hv];omega
 ·simp only [if_neg hv];omega
theorem zn4 (lo hi:Option Int) (n:Nat):Builtin.Slice.sliceAdjust lo hi 1 (n:Int)=(((sIx n 0 lo:Nat):Int),((sIx n n hi:Nat):Int)):=by
 have h1:¬ ((1:Int) < 0):=by omega
 unfold Builtin.Slice.sliceAdjust;simp only [h1,if_false];refine Prod.ext ?_ ?_
 ·cases lo with
  | none=>rfl
  | some v=>exact zoi v n 0
 ·cases hi with
  | none=>rfl
  | some v=>exact zoi v n n
theorem zne (i j:Nat):Builtin.Slice.slicePlaces (i:Int) (j:Int) 1=j - i:=by
 unfold Builtin.Slice.slicePlaces;have h1:(1:Int) > 0:=by omega
 simp only [h1,if_true,Int.ediv_one];split<;>omega
theorem zgj {v:Value}{o:Option Int}{Q:Option Int->Shared->Prop} (p:IsPart v o) (h:Q o s):wpAny (model prog w) A (Builtin.Slice.slicePartIndex v) Q E s:=by
 cases p with
 | none=>exact slicePart_none h
 | int i t=>exact slicePart_int h
theorem zct {sl:Addr}{vl vu:Value}{lo hi:Option Int}{n:Nat}{Q:Int × Int × Nat->Shared->Prop} (hs:s.heap.IsSliceOf sl vl vu .none) (pl:IsPart vl lo) (pu:IsPart vu hi)
  (h:Q (((sIx n 0 lo:Nat):Int),1,sIx n n hi - sIx n 0 lo) s):wpAny (model prog w) A (Builtin.Slice.sliceApplied (.ref sl) (pure (n:Int))) Q E s:=by
 obtain ⟨os,hos,hcs,hds⟩:=id hs;unfold Builtin.Slice.sliceApplied Builtin.Slice.sliceFields;refine wpAny_bind (wpAny_bind (wpAny_field hos hds (x:=vl) rfl (wpAny_bind (wpAny_field hos hds (x:=vu) rfl (wpAny_bind (wpAny_field hos hds (x:=.none) rfl (wpAny_pure ?_)))))));refine wpAny_bind (slicePart_none ?_);show wpAny _ _ (if ((1:Int) == 0)=true then _ else _) _ _ s;rw [if_neg (by decide)];refine wpAny_bind (zgj pl (wpAny_bind (zgj pu (wpAny_bind (wpAny_pure ?_)))));show wpAny _ _ (match Builtin.Slice.sliceAdjust lo hi 1 (n:Int) with | (lo,hi)=>pure (lo,(1:Int),Builtin.Slice.slicePlaces lo hi 1)) _ _ s;rw [zn4 lo hi n];show wpAny _ _ (pure (((sIx n 0 lo:Nat):Int),(1:Int),Builtin.Slice.slicePlaces ((sIx n 0 lo:Nat):Int) ((sIx n n hi:Nat):Int) 1)) _ _ s;rw [zne];exact wpAny_pure h
theorem zsd (xs:Array Value) (i k:Nat):((List.range k).filterMap fun (m:Nat)=>xs[((i:Int)+(m:Int) * 1).toNat]?).toArray=((xs.toList.drop i).take k).toArray:=by
 have e:(fun (m:Nat)=>xs[((i:Int)+(m:Int) * 1).toNat]?)=fun m=>xs[i+m]?:=by
  funext m
  have:((i:Int)+(m:Int) * 1).toNat=i+m:=by omega
  rw [this]
 rw [e];have:=pick_run xs i k;rw [List.filterMap_map] at this;have e2:((fun x=>xs[x]?) ∘ fun x=>i+x)=fun m=>xs[i+m]?:=rfl;rw [e2] at this;rw [this]
theorem getItem_tuple_cut {t sl:Addr}{items:Array Value}{vl vu:Value}{lo hi:Option Int}{Q:Value->Shared->Prop} (ht:IsTup s.heap t items) (hs:s.heap.IsSliceOf sl vl vu .none) (pl:IsPart vl lo) (pu:IsPart vu hi)
  (hw:¬ (sIx items.size 0 lo=0/\sIx items.size items.size hi=items.size))
  (h:Q (.ref s.heap.objs.size) { s with heap:=s.heap.push { cls:=.type "tuple",data:=.seq ((items.toList.drop (sIx items.size 0 lo)).take (sIx items.size items.size hi - sIx items.size 0 lo)).toArray } })
  (hsz:items.size<=sizeLine):wpAny (model prog w) A (getItem (.ref t) (.ref sl)) Q E s:=by
 have htake:sizeOk (.seq ((items.toList.drop (sIx items.size 0 lo)).take (sIx items.size items.size hi - sIx items.size 0 lo)).toArray):=by
  show ((items.toList.drop (sIx items.size 0 lo)).take (sIx items.size items.size hi - sIx items.size 0 lo)).toArray.size<=sizeLine;rw [List.size_toArray,List.length_take,List.length_drop,Array.length_toList];omega
 have hj:sIx items.size items.size hi<=items.size:=z0v _ _ (Nat.le_refl _) hi;obtain ⟨os,hos,hcs,hds⟩:=id hs;have hTs:s.TypeIs (.ref sl) "slice" := ⟨os,hos,hcs⟩;unfold getItem
 try with_reducible refine wpAny_holding ?_
 first | refine wpAny_bind (wpAny_pure ?_) | skip
 refine wpAny_bind (wpAny_sequenceKey ht.typeIs (by decide) ?_);refine wpAny_bind (wpAny_callSpecial?_slot (name:=Str.ofString "__getitem__") ht.typeIs PyProof.Rows.slot_tuple_getitem
  (wpAny_call_entry PyProof.Rows.slot_tuple_getitem ht.typeIs entry_tuple_getitem ?_ (args_tuple_getitem _ _)))
 show wpAny _ _ (Builtin.Tuple.tupleItemsOf (.ref t) >>= _) _ _ s;refine wpAny_bind (tupleItemsOf_ ht ?_);refine wpAny_bind (wpAny_typeOf hTs ?_);rw [if_pos (by decide)];refine wpAny_bind (zct hs pl pu ?_);have hno:¬ ((((sIx items.size 0 lo:Nat):Int) == 0 && (1:Int) == 1 && (sIx items.size items.size hi - sIx items.size 0 lo) == items.size)=true):=by
  intro q;rw [Bool.and_eq_true,Bool.and_eq_true] at q;have q1:((sIx items.size 0 lo:Nat):Int)=0:=eq_of_beq q.1.1;have q2:sIx items.size items.size hi - sIx items.size 0 lo=items.size:=eq_of_beq q.2;exact hw ⟨by omega,by omega⟩
 show wpAny _ _ (if (((sIx items.size 0 lo:Nat):Int) == 0 && (1:Int) == 1 && (sIx items.size items.size hi - sIx items.size 0 lo) == items.size)=true then _ else _) _ _ s;rw [if_neg hno,zsd]
 first
  | exact wpAny_bind (m:=Builtin.Tuple.tupleExact _) (wpAny_newObj_type (wpAny_pure ⟨_,rfl,wpAny_pure h⟩) htake)
  | exact wpAny_bind (m:=Builtin.Tuple.tupleExact _) (wpAny_newObj_type (wpAny_bind (wpAny_pure (wpAny_pure ⟨_,rfl,wpAny_pure h⟩))) htake)
  | exact wpAny_bind (wpAny_bind (m:=Builtin.Tuple.tupleExact _) (wpAny_newObj_type (wpAny_pure (wpAny_pure ⟨_,rfl,wpAny_pure h⟩)) htake))
  | exact wpAny_bind (wpAny_bind (m:=Builtin.Tuple.tupleExact _) (wpAny_newObj_type (wpAny_pure ⟨_,rfl,wpAny_pure h⟩) htake))
end
end HT
namespace L2
open PySem PySem.Spec PyProof.Rows
noncomputable abbrev TO:=St->Hp->(Option Int->Hp->Prop)->Prop
noncomputable def PO (X:Cx) (e:Option Expr) (t:TO):Prop :=
  ∀(pins:List (Addr × Obj)) (s:Shared) (σ:St) (H:Hp) (Q:Option Int->Hp->Prop),Inv X pins σ H s->t σ H Q ->
    wpAny (model X.prog X.w) X.A (evalPart e X.env) (fun u s'=>∃o H',Inv X pins σ H' s'/\IsPart u o/\Q o H') X.xe s
noncomputable def zqa:TO:=fun _ H Q=>Q none H
noncomputable def z10 (t:TE):TO:=fun σ H Q=>t σ H fun x H1=>∃i,x=.int i/\Q (some i) H1
section
variable {X:Cx}{e:Expr}{te:TE}{lo hi:Option Expr}{tl th:TO}{pos p2:Pos}
theorem zw3:PO X none zqa:=by
 intro pins s σ H Q I h;rw [evalPart_none];exact wpAny_pure ⟨none,H,I,.none,h⟩
theorem zzh (h:PE X e te):PO X (some e) (z10 te):=by
 intro pins s σ H Q I hw;rw [evalPart_some];refine thn (h pins s σ H _ I hw) fun u s1 ⟨x,H1,I1,r1,q1⟩=>?_;obtain ⟨i,rfl,q⟩:=q1;obtain ⟨t,rfl⟩:=r1;exact ⟨some i,H1,I1,.int i t,q⟩
noncomputable def SlR (X:Cx) (r:V->Option Int->Option Int->Hp->VK->Prop):Prop :=
  ∀(pins:List (Addr × Obj)) (s:Shared) (σ:St) (H:Hp) (x:V) (v vl vu:Value) (lo hi:Option Int) (sl:Addr) (Q:VK),Inv X pins σ H s->RelV x v->s.heap.IsSliceOf sl vl vu .none->IsPart vl lo->IsPart vu hi->r x lo hi H Q ->
    ∃T id,typeLookup (.type T) "__getitem__" = pure (some (.builtin id))/\s.TypeIs v T/\wpAny (model X.prog X.w) X.A (getItem v (.ref sl)) (EP X pins σ Q) X.xe s
theorem SlR.or {r r' : V->Option Int->Option Int->Hp->VK->Prop} (h:SlR X r) (h' : SlR X r'):SlR X (fun x lo hi H Q=>r x lo hi H Q\/r' x lo hi H Q):=by
 intro pins s σ H x v vl vu lo hi sl Q I rx hs pl pu q;rcases q with q | q
 ·exact h pins s σ H x v vl vu lo hi sl Q I rx hs pl pu q
 ·exact h' pins s σ H x v vl vu lo hi sl Q I rx hs pl pu q
noncomputable def tSl (r:V->Option Int->Option Int->Hp->VK->Prop) (te:TE) (tl th:TO):TE:=fun σ H Q=>te σ H fun x H1=>tl σ H1 fun l H2=>th σ H2 fun u H3=>r x l u H3 Q
theorem ztk {r:V->Option Int->Option Int->Hp->VK->Prop} (hr:SlR X r) (he:PE X e te) (hl:PO X lo tl) (hu:PO X hi th):PE X (.Subscript e (.Slice lo hi none p2) pos) (tSl r te tl th):=by
 intro pins s σ H Q I h;refine Subscript_ (thn (he pins s σ H _ I h) fun v s1 ⟨x,H1,I1,r1,q1⟩=>?_);refine wpAny_Slice (thn (hl pins s1 σ H1 _ I1 q1) fun vl s2 ⟨l,H2,I2,pl,q2⟩=>thn (hu pins s2 σ H2 _ I2 q2) fun vu s3 ⟨u,H3,I3,pu,q3⟩=>?_);rw [evalPart_none];refine wpAny_pure ?_;have I4:Inv X pins σ H3 { s3 with heap:=s3.heap.push { cls:=.type "slice",data:=.fields #[vl,vu,.none] } }:=I3.kept (t':=s3.toks) fun b ob q=>Heap.get?_push_of_some _ q;obtain ⟨T,id,hT,ht,hg⟩:=hr pins { s3 with heap:=s3.heap.push { cls:=.type "slice",data:=.fields #[vl,vu,.none] } } σ H3 x v vl vu l u s3.heap.objs.size Q I4 r1 (Heap.IsSliceOf.new ..) pl pu q3;show wpAny (model X.prog X.w) X.A (subscriptTail e (.Slice lo hi none p2) v (.ref s3.heap.objs.size)) (EP X pins σ Q) X.xe { s3 with heap:=s3.heap.push { cls:=.type "slice",data:=.fields #[vl,vu,.none] } };exact tail_any (ops:=[.ref s3.heap.objs.size,v]) ht hT hg (by with_unfolding_all rfl)
noncomputable def cutV (xs:List V) (lo hi:Option Int):List V:=(xs.drop (HT.sIx xs.length 0 lo)).take (HT.sIx xs.length xs.length hi - HT.sIx xs.length 0 lo)
theorem zfj (xs:List V) (lo hi:Option Int):(cutV xs lo hi).length<=xs.length:=by
 unfold cutV;rw [List.length_take,List.length_drop];omega
noncomputable def rSlT (K:PySem.W.Frag):V->Option Int->Option Int->Hp->VK->Prop:=fun x lo hi H Q=>∃a xs,x=.ref a/\SqT K H a xs /\
 ¬ (HT.sIx xs.length 0 lo=0/\HT.sIx xs.length xs.length hi=xs.length)/\∀p,H p=none->Q (.ref p) (upd H p (.tup (cutV xs lo hi)))
theorem z00:SlR X (rSlT X.K):=by
 intro pins s σ H x v vl vu lo hi sl Q I rx hs pl pu h;obtain ⟨a,xs,rfl,hx,hw,q⟩:=h;cases rx;obtain ⟨its,r,ht,hz⟩:=I.tuple hx;have hlen:its.toArray.size=xs.length:=by rw [List.size_toArray];exact r.length.symm
 refine ⟨"tuple",_,PyProof.Rows.slot_tuple_getitem.lookup,ht.typeIs,?_⟩;refine HT.getItem_tuple_cut ht hs pl pu (by rw [hlen];exact hw) ?_ (by rw [hlen];exact hz);rw [hlen];refine ⟨.ref s.heap.objs.size,_,I.laid (t':=s.toks) (o:=.tup (cutV xs lo hi)) (fun b ob q=>Heap.get?_push_of_some _ q) (Nat.le_refl _) ?_,rfl,q _ (I.hok.fresh (Nat.le_refl _))⟩;exact ⟨Nat.le_trans (zfj xs lo hi) hz,_,(r.drop (HT.sIx xs.length 0 lo)).take (HT.sIx xs.length xs.length hi - HT.sIx xs.length 0 lo),IsTup.new _ _⟩
noncomputable def zz9 (K:PySem.W.Frag):R2:=fun x y H Q=>∃a b xs ys,x=.ref a/\y=.ref b/\SqT K H a xs/\SqT K H b ys/\xs≠[]/\xs.length+ys.length<=sizeLine /\
 (ys=[]->Q (.ref a) H)/\(ys≠[]->∀p,H p=none->Q (.ref p) (upd H p (.tup (xs++ys))))
theorem Vals.nil_iff {xs:List V}{us:List Value} (r:Vals xs us):us=[]↔xs=[]:=by
 cases r with
 | nil=>simp
 | cons _ _=>simp
theorem zyr:OpR X (binaryOp .Add) (zz9 X.K):=by
 intro pins s σ H x y v u Q I rx ry h;obtain ⟨a,b,xs,ys,rfl,rfl,ha,hb,hx,hz,q1,q2⟩:=h;cases rx;cases ry;obtain ⟨its,r1,p1,_⟩:=I.tuple ha;obtain ⟨its2,r2,p2,_⟩:=I.tuple hb;refine HT.cat_tup p1 p2 (fun z=>hx (r1.nil_iff.mp z)) (fun z=>⟨.ref a,H,I,rfl,q1 (r2.nil_iff.mp z)⟩) (fun z=>?_) (by rw [<-r1.length,<-r2.length];exact hz);refine ⟨.ref s.heap.objs.size,_,I.laid (t':=s.toks) (o:=.tup (xs++ys)) (fun b ob q=>Heap.get?_push_of_some _ q) (Nat.le_refl _) ?_,rfl,q2 (fun w=>z (r2.nil_iff.mpr w)) _ (I.hok.fresh (Nat.le_refl _))⟩;exact ⟨by rw [List.length_append];exact hz,_,r1.append r2,IsTup.new _ _⟩
end
end L2
namespace L2
open PySem PySem.Spec PyProof.Rows
noncomputable def ixN (n:Nat) (i:Int):Option Nat:=if 0<=i then (if i < n then some i.toNat else none) else if -(n:Int)<=i then some (i+n).toNat else none
noncomputable def atI {α:Type} (xs:List α) (i:Int):Option α:=(ixN xs.length i).bind fun j=>xs[j]?
theorem zkt {n:Nat}{i:Int}{j:Nat} (h:ixN n i=some j):seqIndex? i n=some j/\j < n/\-(n:Int)<=i/\i < n:=by
 unfold ixN at h;by_cases h0:0<=i
 ·rw [if_pos h0] at h;by_cases h1:i < n
  ·rw [if_pos h1] at h;have e:i.toNat=j:=sI h;exact ⟨by rw [seqIndex_of h0 h1,e],by omega,by omega,h1⟩
  ·rw [if_neg h1] at h;cases h
 ·rw [if_neg h0] at h;by_cases h1:-(n:Int)<=i
  ·rw [if_pos h1] at h;have e:(i+n).toNat=j:=sI h;exact ⟨by rw [seqIndex_neg (by omega) h1,e],by omega,h1,by omega⟩
  ·rw [if_neg h1] at h;cases h
theorem zpj {α:Type}{xs:List α}{i:Int}{v:α} (h:atI xs i=some v):∃j,seqIndex? i xs.length=some j/\xs[j]?=some v/\j < xs.length/\-(xs.length:Int)<=i/\i < xs.length:=by
  unfold atI at h;cases e:ixN xs.length i with
  | none=>rw [e] at h;cases h
  | some j =>
    rw [e] at h;obtain ⟨h1,h2,h3,h4⟩:=zkt e;exact ⟨j,h1,h,h2,h3,h4⟩
theorem zxg {α:Type}{xs:List α}{j:Nat}{v:α} (h:xs[j]?=some v):atI xs (j:Int)=some v:=by
 have hj:j < xs.length:=(List.getElem?_eq_some_iff.mp h).1;have e:ixN xs.length (j:Int)=some j:=by
  unfold ixN;rw [if_pos (by omega),if_pos (by omega)];simp
 unfold atI;rw [e];exact h
noncomputable def zox (b:Expr):Prop:=∀o i,subscripted b false o i=operate [o,i] (getItem o i)
noncomputable def IxR (X:Cx) (r:R2):Prop :=
  ∀(value slice:Expr) (pins:List (Addr × Obj)) (s:Shared) (σ:St) (H:Hp) (x y:V) (v u:Value) (Q:VK),Inv X pins σ H s->RelV x v->RelV y u->r x y H Q ->
    subscripted slice false v u=operate [v,u] (getItem v u)->wpAny (model X.prog X.w) X.A (subscriptTail value slice v u) (EP X pins σ Q) X.xe s
noncomputable def MtR (X:Cx) (id:String) (r:V->List V->Hp->VK->Prop):Prop :=
  ∀(pins:List (Addr × Obj)) (s:Shared) (σ:St) (H:Hp) (x:V) (xs:List V) (v:Value) (us:List Value) (Q:VK),Inv X pins σ H s->RelV x v->Vals xs us->r x xs H Q ->
    wpAny (model X.prog X.w) X.A (call (.builtin id) (v::us)) (EP X pins σ Q) X.xe s
section
variable {X:Cx}{a b:Expr}{ta tb:TE}{pos:Pos}
theorem IxR.or {r r' : R2} (h:IxR X r) (h' : IxR X r'):IxR X (fun x y H Q=>r x y H Q\/r' x y H Q):=by
 intro value slice pins s σ H x y v u Q I rx ry q hs;rcases q with q | q
 ·exact h value slice pins s σ H x y v u Q I rx ry q hs
 ·exact h' value slice pins s σ H x y v u Q I rx ry q hs
theorem z34 {r:R2} (hr:IxR X r) (ha:PE X a ta) (hb:PE X b tb) (hs:zox b):PE X (.Subscript a b pos) (tOp r ta tb):=by
 intro pins s σ H Q I h;exact Subscript_ (binT ha hb I h fun v u s2 x y H2 I2 rx ry q=>hr a b pins s2 σ H2 x y v u Q I2 rx ry q (hs _ _))
noncomputable def rIxL (K:PySem.W.Frag):R2:=fun x y H Q=>∃p xs i v,x=.ref p/\y=.int i/\SqL K H p xs/\atI xs i=some v/\Q v H
noncomputable def rIxT (K:PySem.W.Frag):R2:=fun x y H Q=>∃p xs i v,x=.ref p/\y=.int i/\SqT K H p xs/\atI xs i=some v/\Q v H
theorem zv9:IxR X (rIxL X.K):=by
 intro value slice pins s σ H x y v u Q I rx ry h hs;refine aG fun _ qG=>?_;obtain ⟨p,xs,i,z,rfl,rfl,hq,he,q⟩:=h;refine qG ?_;clear qG;cases rx;refine aG fun _ qG=>?_;obtain ⟨t,rfl⟩:=ry;obtain ⟨its,r,pl,hz⟩:=I.list hq;obtain ⟨j,h1,h2,h3,h4,h5⟩:=zpj he;obtain ⟨w,ew,rw'⟩:=r.get h2;refine qG ?_;clear qG;have hl:=r.length;have hn:=zl4;have fin:EP X pins σ Q w s:=⟨z,H,I,rw',q⟩;by_cases h0:0<=i
 ·have hj:i.toNat=j:=by
   rw [seqIndex_of h0 h5] at h1;exact sI h1
  exact item_listR pl.isList h0 (by omega) (by rw [hj];simpa using ew) fin hs
 ·have hj:(i+(its.toArray.size:Int)).toNat=j:=by
   rw [seqIndex_neg (by omega) h4] at h1;rw [List.size_toArray,<-hl];exact sI h1
  exact subscriptTail_builtinR (x:=w) pl.isList.typeIs slot_list_getitem.lookup
   (wpAny_getItem_list_neg (Q:=fun r s'=>r=w/\EP X pins σ Q r s') pl.isList (by omega) (by rw [List.size_toArray]<;>omega) (by omega) (by rw [hj];simpa using ew) ⟨rfl,fin⟩) hs
theorem z07:IxR X (rIxT X.K):=by
 intro value slice pins s σ H x y v u Q I rx ry h hs;obtain ⟨p,xs,i,z,rfl,rfl,hq,he,q⟩:=h;cases rx;obtain ⟨t,rfl⟩:=ry;obtain ⟨its,r,pl,hz⟩:=I.tuple hq;obtain ⟨j,h1,h2,h3,h4,h5⟩:=zpj he;obtain ⟨w,ew,rw'⟩:=r.get h2;have hl:=r.length;have hn:=zl4;have fin:EP X pins σ Q w s:=⟨z,H,I,rw',q⟩;exact subscriptTail_builtinR (x:=w) pl.typeIs slot_tuple_getitem.lookup
  (getItem_tuple (j:=j) (Q:=fun r s'=>r=w/\EP X pins σ Q r s') pl (by omega) (by omega) (by rw [List.size_toArray,<-hl];exact h1) (by simpa using ew) ⟨rfl,fin⟩) hs
theorem znm (its:List Value) (n j:Nat) (u:Value):Obj.mapSeq (·.setIfInBounds j u) { cls:=.type "list",data:=.seq its.toArray n }={ cls:=.type "list",data:=.seq (its.set j u).toArray n }:=by
 simp [Obj.mapSeq]
theorem Inv.lst {pins:List (Addr × Obj)}{σ:St}{H:Hp}{s:Shared}{p:Addr}{xs:List V} (I:Inv X pins σ H s) (h:H p=some (.lst xs)) :
  ∃(its:List Value) (n:Nat),Vals xs its/\s.heap.get? p=some { cls:=.type "list",data:=.seq its.toArray n }/\xs.length<=sizeLine:=by
 refine aG fun _ qG=>?_;obtain ⟨z,its,n,r,e⟩:=I.hok p _ h;refine qG ?_;clear qG;exact ⟨its,n,r,e,z⟩
theorem Inv.lstUpd {pins:List (Addr × Obj)}{σ:St}{H:Hp}{s:Shared}{p:Addr}{xs ys:List V}{its its' : List Value}{n n' : Nat}{f:Obj->Obj} (I:Inv X pins σ H s) (h:H p=some (.lst xs))
  (ho:s.heap.get? p=some { cls:=.type "list",data:=.seq its.toArray n }) (hf:f { cls:=.type "list",data:=.seq its.toArray n }={ cls:=.type "list",data:=.seq its'.toArray n' }) (r:Vals ys its') (hz:ys.length<=sizeLine) (t:Nat) :
  Inv X pins σ (upd H p (.lst ys)) { s with heap:=s.heap.update p f,toks:=t }:=by
 have e:(s.heap.update p f).get? p=some { cls:=.type "list",data:=.seq its'.toArray n' }:=by
  rw [Heap.get?_update_self f ho (by rw [hf]<;>rfl),hf]
 refine I.write (x:=p) (e:=p) (by rw [h];trivial) (.inl rfl) (fun b u hb q=>(Heap.get?_update_other _ _ (Ne.symm hb)).trans q) ⟨_,e⟩ ?_;exact ⟨hz,its',n',r,e⟩
noncomputable def zz4:V->V->V->Hp->(Hp->Prop)->Prop:=fun o i v H Q=>∃p xs k j,o=.ref p/\i=.int k/\H p=some (.lst xs)/\ixN xs.length k=some j/\Q (upd H p (.lst (xs.set j v)))
theorem zug:PSet X zz4:=by
 intro pins s σ H o i v ov iv u Q I ro ri rv h;refine aG fun _ qG=>?_;obtain ⟨p,xs,k,j,rfl,rfl,hp,hj,q⟩:=h;refine qG ?_;clear qG;cases ro;refine aG fun _ qG=>?_;obtain ⟨t,rfl⟩:=ri;obtain ⟨its,n,r,ho,hz⟩:=I.lst hp;obtain ⟨h1,h2,h3,h4⟩:=zkt hj;refine qG ?_;clear qG;have hl:=r.length;have hn:=zl4;have I' : Inv X pins σ (upd H p (.lst (xs.set j v))) { s with heap:=s.heap.update p (Obj.mapSeq (·.setIfInBounds j u)) } :=
  I.lstUpd hp ho (znm its n j u) (r.set rv j) (by rw [List.length_set];exact hz) s.toks
 by_cases h0:0<=k
 ·have hk:k.toNat=j:=by
   rw [seqIndex_of h0 h4] at h1;exact sI h1
  exact PySem.W.ki_setAt ho h0 (by omega) (by rw [List.size_toArray,<-hl];exact h4) (by rw [hk];exact ⟨_,I',q⟩)
 ·have hk:(k+(its.toArray.size:Int)).toNat=j:=by
   rw [seqIndex_neg (by omega) h3] at h1;rw [List.size_toArray,<-hl];exact sI h1
  exact PySem.W.ki_setBack ho (by omega) (by rw [List.size_toArray,<-hl];exact h3) (by omega) (by rw [hk];exact ⟨_,I',q⟩)
theorem zjr (lo hi:Option Int) (n:Nat):(sliceBounds lo hi none n).1=((HT.sIx n 0 lo:Nat):Int)/\(sliceBounds lo hi none n).2.1=((HT.sIx n n hi:Nat):Int)/\(sliceBounds lo hi none n).2.2=1:=by
  refine ⟨?_,?_,rfl⟩
  · cases lo with
    | none=>simp [sliceBounds,HT.sIx]
    | some i =>
      simp only [sliceBounds,HT.sIx,Option.getD_none,show (1:Int) > 0 by decide,if_true];by_cases h:i < 0
      · simp only [h,if_true]<;>omega
      · simp only [h,if_false]<;>omega
  · cases hi with
    | none=>simp [sliceBounds,HT.sIx]
    | some i =>
      simp only [sliceBounds,HT.sIx,Option.getD_none,show (1:Int) > 0 by decide,if_true];by_cases h:i < 0
      · simp only [h,if_true]<;>omega
      · simp only [h,if_false]<;>omega
theorem zg5 (its:List Value) (lo hi:Option Int):slicePick its.toArray lo hi none=((its.drop (HT.sIx its.length 0 lo)).take (HT.sIx its.length its.length hi - HT.sIx its.length 0 lo)).toArray:=by
 obtain ⟨h1,h2,h3⟩:=zjr lo hi its.toArray.size;unfold slicePick;rw [h1,h2,h3];simp only [sliceRange_one,pick_run,List.size_toArray]<;>rfl
noncomputable def rSlL (K:PySem.W.Frag):V->Option Int->Option Int->Hp->VK->Prop:=fun x lo hi H Q=>∃a xs,x=.ref a/\SqL K H a xs/\∀p,H p=none->Q (.ref p) (upd H p (.lst (cutV xs lo hi)))
theorem zya:SlR X (rSlL X.K):=by
 intro pins s σ H x v vl vu lo hi sl Q I rx hs pl pu h;obtain ⟨a,xs,rfl,hx,q⟩:=h;cases rx;obtain ⟨its,r,ht,hz⟩:=I.list hx;have hlen:=r.length;refine ⟨"list",_,slot_list_getitem.lookup,ht.isList.typeIs,?_⟩;refine wpAny_getItem_list_slice ht.isList hs pl pu .none (by simp) ?_ (by rw [List.size_toArray]<;>omega);rw [zg5,<-hlen];refine ⟨.ref s.heap.objs.size,_,I.laid (t':=s.toks) (o:=.lst (cutV xs lo hi)) (fun b ob q=>Heap.get?_push_of_some _ q) (Nat.le_refl _) ?_,rfl,q _ (I.hok.fresh (Nat.le_refl _))⟩;exact ⟨Nat.le_trans (zfj xs lo hi) hz,_,0,(r.drop (HT.sIx xs.length 0 lo)).take (HT.sIx xs.length xs.length hi - HT.sIx xs.length 0 lo),Heap.get?_push_size _ rfl⟩
noncomputable def zf7:V->Bool
 | .non=>true
 | .bl _=>true
 | .int _=>true
 | .str _=>true
 | _=>false
noncomputable def eqV:V->V->Bool
 | .non,.non=>true
 | .bl a,.bl b=>a == b
 | .bl a,.int b=>(if a then 1 else 0) == b
 | .int a,.bl b=>a == (if b then 1 else 0)
 | .int a,.int b=>a == b
 | .str a,.str b=>a == b
 | _,_=>false
theorem z21 {A:Around}{s:Shared}{y x:V}{u v:Value} (ry:RelV y u) (rx:RelV x v) (fy:zf7 y=true) (fx:zf7 x=true):SeqAt.EqAt A s u v (eqV y x):=by
  cases y with
  | non =>
    cases ry;cases x with
    | non=>cases rx;exact SeqAt.EqAt.same _
    | bl b=>cases rx;exact SeqAt.EqAt.none_bool b
    | int b=>obtain ⟨t,rfl⟩:=rx;exact SeqAt.EqAt.none_int b t
    | str b=>obtain ⟨t,rfl⟩:=rx;exact SeqAt.EqAt.none_str b t
    | _=>exact absurd (show false=true from fx) Bool.false_ne_true
  | bl a =>
    cases ry;cases x with
    | non=>cases rx;exact SeqAt.EqAt.bool_none a
    | bl b=>cases rx;exact SeqAt.EqAt.bool_bool a b
    | int b=>obtain ⟨t,rfl⟩:=rx;exact SeqAt.EqAt.bool_int a b t
    | str b=>obtain ⟨t,rfl⟩:=rx;exact SeqAt.EqAt.bool_str a b t
    | _=>exact absurd (show false=true from fx) Bool.false_ne_true
  | int a =>
    obtain ⟨t',rfl⟩:=ry;cases x with
    | non=>cases rx;exact SeqAt.EqAt.int_none a t'
    | bl b=>cases rx;exact SeqAt.EqAt.int_bool a t' b
    | int b=>obtain ⟨t,rfl⟩:=rx;exact SeqAt.EqAt.int_int a t' b t
    | str b=>obtain ⟨t,rfl⟩:=rx;exact SeqAt.EqAt.int_str a t' b t
    | _=>exact absurd (show false=true from fx) Bool.false_ne_true
  | str a =>
    obtain ⟨t',rfl⟩:=ry;cases x with
    | non=>cases rx;exact SeqAt.EqAt.str_none a t'
    | bl b=>cases rx;exact SeqAt.EqAt.str_bool a t' b
    | int b=>obtain ⟨t,rfl⟩:=rx;exact SeqAt.EqAt.str_int a t' b t
    | str b=>obtain ⟨t,rfl⟩:=rx;exact SeqAt.EqAt.str_str a t' b t
    | _=>exact absurd (show false=true from fx) Bool.false_ne_true
  | _=>exact absurd (show false=true from fy) Bool.false_ne_true
noncomputable def eqU (x:V) (u:Value):Bool:=match u with
 | .none=>eqV .non x
 | .bool b=>eqV (.bl b) x
 | .int i _=>eqV (.int i) x
 | .str z _=>eqV (.str z) x
 | _=>false
theorem zv6 {x y:V}{u:Value} (r:RelV y u) (f:zf7 y=true):eqU x u=eqV y x:=by
 cases y with
 | non=>cases r;rfl
 | bl b=>cases r;rfl
 | int i=>obtain ⟨t,rfl⟩:=r;rfl
 | str z=>obtain ⟨t,rfl⟩:=r;rfl
 | _=>exact absurd (show false=true from f) Bool.false_ne_true
theorem zfh {x:V}:∀{xs:List V}{us:List Value},Vals xs us->xs.all zf7=true->us.any (eqU x)=xs.any fun y=>eqV y x
  | _,_,.nil,_=>rfl
  | y::xs,u::us,.cons r t,f=>by
    rw [List.all_cons,Bool.and_eq_true] at f;rw [List.any_cons,List.any_cons,zv6 r f.1,zfh t f.2]
theorem zdy {A:Around}{s:Shared}{x:V}{v:Value} (rx:RelV x v) (fx:zf7 x=true):∀{xs:List V}{us:List Value},Vals xs us->xs.all zf7=true->∀u∈us,SeqAt.EqAt A s u v (eqU x u)
  | _,_,.nil,_=>fun u hu=>by cases hu
  | y::xs,u::us,.cons r t,f=>fun u' hu=>by
    rw [List.all_cons,Bool.and_eq_true] at f;rcases List.mem_cons.mp hu with rfl | hu
    · rw [zv6 r f.1];exact z21 r rx f.1 fx
    · exact zdy rx fx t f.2 u' hu
noncomputable def inV (x:V) (xs:List V):Bool:=xs.any fun y=>eqV y x
noncomputable def rIn (K:PySem.W.Frag) (neg:Bool):R2:=fun x y H Q=>∃p xs,y=.ref p/\(SqL K H p xs\/SqT K H p xs)/\zf7 x=true/\xs.all zf7=true/\Q (.bl (if neg then !inV x xs else inV x xs)) H
theorem zqw:OpR X (compareOp .In) (rIn X.K false):=by
 intro pins s σ H x y v u Q I rx ry h;obtain ⟨p,xs,rfl,hq,fx,fs,q⟩:=h;cases ry;rcases hq with hq | hq
 ·obtain ⟨its, r, pl, hz⟩ := I.list hq;refine SeqAt.in_listAt (eqU x) pl.isList (fun w hw=>zdy rx fx r fs w (by simpa using hw)) ⟨.bl _,H,I,rfl,?_⟩;rw [show its.toArray.any (eqU x)=its.any (eqU x) by simp,zfh r fs];exact q
 ·obtain ⟨its, r, pl, hz⟩ := I.tuple hq;refine SeqAt.in_tupleAt (eqU x) pl (fun w hw=>zdy rx fx r fs w (by simpa using hw)) ⟨.bl _,H,I,rfl,?_⟩;rw [show its.toArray.any (eqU x)=its.any (eqU x) by simp,zfh r fs];exact q
theorem zii:OpR X (compareOp .NotIn) (rIn X.K true):=by
 intro pins s σ H x y v u Q I rx ry h;obtain ⟨p,xs,rfl,hq,fx,fs,q⟩:=h;cases ry;rcases hq with hq | hq
 ·obtain ⟨its, r, pl, hz⟩ := I.list hq;refine SeqAt.notIn_listAt (eqU x) pl.isList (fun w hw=>zdy rx fx r fs w (by simpa using hw)) ⟨.bl _,H,I,rfl,?_⟩;rw [show its.toArray.any (eqU x)=its.any (eqU x) by simp,zfh r fs];exact q
 ·obtain ⟨its, r, pl, hz⟩ := I.tuple hq;refine SeqAt.notIn_tupleAt (eqU x) pl (fun w hw=>zdy rx fx r fs w (by simpa using hw)) ⟨.bl _,H,I,rfl,?_⟩;rw [show its.toArray.any (eqU x)=its.any (eqU x) by simp,zfh r fs];exact q
theorem zit:zdu X (.builtin "len") (fun xs H Q=>∃p ys,xs=[.ref p]/\(SqL X.K H p ys\/SqT X.K H p ys)/\Q (.int ys.length) H):=by
 intro pins s σ H xs us Q I r h;obtain ⟨p,ys,rfl,hq,q⟩:=h;obtain ⟨u,rfl,rx⟩:=vals1 r;cases rx;have hn:=zl4;rcases hq with hq | hq
 ·obtain ⟨its, r', pl, hz⟩ := I.list hq;have hlen:=r'.length;exact Calls.call_len_list pl.isList (by simp only [List.size_toArray]<;>omega) ⟨.int ys.length,H,I.tok _,⟨s.toks+1,by rw [List.size_toArray,hlen]⟩,q⟩
 ·obtain ⟨its, r', pl, hz⟩ := I.tuple hq;have hlen:=r'.length;exact len_tuple pl (by simp only [List.size_toArray]<;>omega) ⟨.int ys.length,H,I.tok _,⟨s.toks+1,by rw [List.size_toArray,hlen]⟩,q⟩
theorem zho:zdu X (.type "tuple") (fun xs H Q=>∃p ys,xs=[.ref p]/\((SqL X.K H p ys/\∀l,H l=none->Q (.ref l) (upd H l (.tup ys)))\/(SqT X.K H p ys/\Q (.ref p) H))):=by
 intro pins s σ H xs us Q I r h;obtain ⟨p,ys,rfl,h⟩:=h;obtain ⟨u,rfl,rx⟩:=vals1 r;cases rx;rcases h with ⟨hq,q⟩ | ⟨hq,q⟩
 ·obtain ⟨its, r', pl, hz⟩ := I.list hq;have hlen:=r'.length;refine call_tuple_list pl.isList (fun h' kp=>?_) (by simp only [List.size_toArray]<;>omega);have I1:Inv X pins σ H { s with heap:=h' }:=I.kept (t':=s.toks) kp;have I2:Inv X pins σ (upd H h'.objs.size (.tup ys)) { s with heap:=h'.push { cls:=.type "tuple",data:=.seq its.toArray } } :=
   I1.laid (t':=s.toks) (fun b o e=>Heap.get?_push_of_some _ e) (Nat.le_refl _) (show zb6 X.prog X.w _ _ _ (.tup ys) from ⟨hz,its,r',IsTup.new _ _⟩)
  exact ⟨.ref h'.objs.size,_,I2,rfl,q _ (I1.hok.fresh (Nat.le_refl _))⟩
 ·obtain ⟨its, r', pl, hz⟩ := I.tuple hq;exact call_tuple_same pl ⟨.ref p,H,I,rfl,q⟩
noncomputable def tyV (K:PySem.W.Frag) (T:String) (x:V) (H:Hp):Prop:=match x with
 | .str _=>T = "str"
 | .int _=>T = "int"
 | .ref p=>(T = "list"/\∃xs,SqL K H p xs)\/(T = "tuple"/\∃o,K.lookup p=some o/\o.cls=.type "tuple"/\o.dict=none) \/
   (T = "dict"/\((∃kvs,H p=some (.dK kvs))\/∃kvs,H p=some (.dT kvs)))\/(T = "set"/\∃S n,H p=some (.set S n))
 | _=>False
theorem z08 {pins:List (Addr × Obj)}{σ:St}{H:Hp}{s:Shared}{T:String}{x:V}{v:Value} (I:Inv X pins σ H s) (r:RelV x v) (ty:tyV X.K T x H) :
    s.TypeIs v T/\∀a,v=.ref a->∃ob,s.heap.get? a=some ob/\ob.dict=none:=by
  cases x with
  | str z =>
    obtain ⟨t,rfl⟩:=r;cases (show T = "str" from ty);exact ⟨typeIs_str s z t,fun _ e=>nomatch e⟩
  | int i =>
    obtain ⟨t,rfl⟩:=r;cases (show T = "int" from ty);exact ⟨typeIs_int s i t,fun _ e=>nomatch e⟩
  | ref p =>
    cases r;rcases ty with ⟨rfl,xs,hq⟩ | ⟨rfl,o,hk,hc,hd⟩ | ⟨rfl,hk⟩ | ⟨rfl,S,n,hk⟩
    · obtain ⟨its, _, pl, _⟩ := I.list hq
      refine ⟨pl.isList.typeIs,fun a e=>?_⟩;cases e;obtain ⟨o,n,e,c,hd,_⟩:=pl;exact ⟨o,e,hd⟩
    · refine ⟨⟨o, I.kIn p o hk, hc⟩, fun a e => ?_⟩
      cases e;exact ⟨o,I.kIn _ o hk,hd⟩
    · have z:∃o,s.heap.get? p=some o/\o.ExactDict:=by
        rcases hk with ⟨kvs,hk⟩ | ⟨kvs,hk⟩
        · obtain ⟨_, _, _, _, o, _, _, e, ex, _⟩ := I.hok p _ hk
          exact ⟨o,e,ex⟩
        · obtain ⟨_, _, _, _, o, _, _, e, ex, _⟩ := I.hok p _ hk
          exact ⟨o,e,ex⟩
      obtain ⟨o,e,ex⟩:=z;refine ⟨⟨o,e,ex.1⟩,fun a e2=>?_⟩;cases e2;exact ⟨o,e,ex.2.1⟩
    · obtain ⟨o, _, _, _, e, ex, _⟩ := I.hok p _ hk
      refine ⟨⟨o,e,ex.1⟩,fun a e2=>?_⟩;cases e2;exact ⟨o,e,ex.2.1⟩
  | _=>exact False.elim ty
noncomputable def tBM (K:PySem.W.Frag) (T:String) (r:V->List V->Hp->VK->Prop) (to:TE) (t:TA):TE:=fun σ H Q=>to σ H fun x H1=>tyV K T x H1/\t σ H1 fun xs H2=>r x xs H2 Q
variable {o e:Expr}{es:List Expr}{to:TE}{t:TA}{name:Str}{apos cpos:Pos}{T id:String}{r:V->List V->Hp->VK->Prop}
theorem zuo (pa:PlainAttrs T) (slot:Slot T name id) (hty:typeOf (.builtin id)=pure (.type "method_descriptor")) (hm:MtR X id r) (ho:PE X o to) (ha:PA X (e::es) t)
  (hbase:attributeBase o name X.env (eval o X.env)=eval o X.env:=by rfl)
  (hfew:((backTo cpos (starEach (e::es) X.env)).all (fun x=>!x.1) && (backToKw cpos (keywordEach [] X.env)).all (fun x=>x.1.isSome)
   && decide ((e::es).length+([]:List Keyword).length+(if ([]:List Keyword).isEmpty then 0 else 1) < 30))=true:=by rfl)
  (hline:(apos.endLine == cpos.line)=true:=by rfl) (hs:starEach (e::es) X.env=(false,eval e X.env)::starEach es X.env:=by rfl) (hplain:(backTo cpos (starEach es X.env)).any (·.1)=false:=by rfl) :
  PE X (.Call (.Attribute o name apos) (e::es) [] cpos) (tBM X.K T r to t):=by
 intro pins s σ H Q I h;refine wpAny_Call_method_late hbase hfew hline rfl (thn (ho pins s σ H _ I h) fun v s1 ⟨x,H1,I1,r1,ty,q1⟩=>?_);obtain ⟨h1,h2⟩:=z08 I1 r1 ty;refine ⟨T,id,pa,slot,hty,h1,h2,?_⟩;have hA:=ha cpos pins s1 σ H1 _ I1 q1;rw [hs] at hA ⊢;refine Calls.callWith_builtin (by show (false || (backTo cpos (starEach es X.env)).any (·.1))=false;rw [hplain]<;>rfl) (Calls.evalArgs_plain ?_);exact thn hA fun us s2 ⟨vs,H2,I2,r2,q2⟩=>hm pins s2 σ H2 x vs v us Q I2 r1 r2 q2
end
end L2
namespace L2
open PySem PySem.Spec PyProof.Rows
noncomputable def MtM (X:Cx) (id:String) (r:V->List V->Hp->VK->Prop):Prop :=
  ∀(pins:List (Addr × Obj)) (s:Shared) (σ:St) (H:Hp) (x:V) (xs:List V) (v:Value) (us:List Value) (Q:VK),Inv X pins σ H s->RelV x v->Vals xs us->r x xs H Q ->
    wpAny (model X.prog X.w) X.A (call (.builtin id) (v::us)) (EP X pins σ Q) X.xe s
theorem Vals.one:∀{x:V}{us:List Value},Vals [x] us->∃u,us=[u]/\RelV x u
 | _,_,.cons r .nil=>⟨_,rfl,r⟩
theorem Vals.eraseIdx:∀{xs:List V}{us:List Value} (i:Nat),Vals xs us->Vals (xs.eraseIdx i) (us.eraseIdx i)
 | _,_,_,.nil=>.nil
 | _,_,0,.cons _ t=>t
 | _,_,i+1,.cons r t=>.cons r (Vals.eraseIdx i t)
theorem Vals.rep {xs:List V}{us:List Value} (h:Vals xs us):∀k:Nat,Vals (List.replicate k xs).flatten (List.replicate k us).flatten
  | 0=>.nil
  | k+1=>by
    rw [List.replicate_succ,List.replicate_succ,List.flatten_cons,List.flatten_cons];exact Vals.append h (Vals.rep h k)
theorem len_erase {α:Type}:∀(l:List α) (i:Nat),(l.eraseIdx i).length<=l.length
 | [],_=>Nat.le_refl _
 | _::_,0=>Nat.le_succ _
 | _::r,i+1=>Nat.succ_le_succ (len_erase r i)
theorem zjb (its:List Value):∀(k:Nat) (acc:List Value),
    List.foldl (fun x1 x2=>x1++x2) acc.toArray (List.replicate k its.toArray)=(acc++(List.replicate k its).flatten).toArray
  | 0,acc=>by simp
  | k+1,acc=>by
    have e:acc.toArray++its.toArray=(acc++its).toArray:=by simp
    have e2:(acc++its)++(List.replicate k its).flatten=acc++(List.replicate (k+1) its).flatten:=by
      rw [List.replicate_succ,List.flatten_cons,List.append_assoc]
    rw [<-e2,<-zjb its k (acc++its),<-e,List.replicate_succ,List.foldl_cons]
section
variable {X:Cx}{pins:List (Addr × Obj)}{σ:St}{H:Hp}{s:Shared}{l b:Addr}{xs ys zs:List V}
theorem Inv.lset {its its' : List Value}{n:Nat}{f:Array Value->Array Value}{t' : Nat} (I:Inv X pins σ H s) (hH:H l=some (.lst xs))
  (e:s.heap.get? l=some { cls:=.type "list",data:=.seq its.toArray n }) (hf:f its.toArray=its'.toArray) (hv:Vals ys its') (hz:ys.length<=sizeLine) :
  Inv X pins σ (upd H l (.lst ys)) { s with heap:=s.heap.update l (Obj.mapSeq f),toks:=t' }:=by
 have q:=PySem.IsL.update e f;rw [hf] at q;refine I.write (x:=l) (e:=l) (by rw [hH];exact trivial) (.inl rfl) (fun b' u hb hu=>(Heap.get?_update_other s.heap (Obj.mapSeq f) (Ne.symm hb)).trans hu) ⟨_,q⟩ ?_;exact ⟨hz,its',_,hv,q⟩
theorem Inv.lnew {its:List Value}{t' : Nat} (I:Inv X pins σ H s) (hv:Vals ys its) (hz:ys.length<=sizeLine) :
  Inv X pins σ (upd H s.heap.objs.size (.lst ys)) { s with heap:=s.heap.push { cls:=.type "list",data:=.seq its.toArray },toks:=t' } :=
 I.laid (fun _ _ q=>Heap.get?_push_of_some _ q) (Nat.le_refl _) ⟨hz,its,0,hv,Heap.get?_push_size _ rfl⟩
theorem Inv.fresh (I:Inv X pins σ H s):H s.heap.objs.size=none:=I.hok.fresh (Nat.le_refl _)
theorem Inv.lstM (I:Inv X pins σ H s) (hH:H l=some (.lst xs)):xs.length<=sizeLine/\∃(its:List Value) (n:Nat),Vals xs its/\xs.length=its.length/\s.heap.get? l=some { cls:=.type "list",data:=.seq its.toArray n }:=by
 refine aG fun _ qG=>?_;obtain ⟨z,its,n,r,e⟩:=I.hok l _ hH;refine qG ?_;clear qG;exact ⟨z,its,n,r,r.length,e⟩
theorem zmf {n:Nat} (h:n<=sizeLine):Builtin.List.listTooLong n=false:=by
 unfold Builtin.List.listTooLong;exact decide_eq_false (by omega)
end
section
variable {X:Cx}
noncomputable def zro:V->List V->Hp->VK->Prop:=fun x vs H Q=>∃l xs y,x=.ref l/\vs=[y]/\H l=some (.lst xs)/\xs.length < sizeLine/\Q .non (upd H l (.lst (xs++[y])))
theorem ziy:MtM X "list.append" zro:=by
 intro pins s σ H x vs v us Q I rx rv h;obtain ⟨l,xs,y,rfl,rfl,hH,hz,q⟩:=h;cases rx;obtain ⟨u,rfl,ru⟩:=rv.one;obtain ⟨z,its,n,r,hl,e⟩:=I.lstM hH;refine call_meets F.slot_list_append ⟨_,e,rfl⟩ F.entry_list_append (F.args_list_append_2 _ _) (PySem.list_append l its.toArray n u (by rw [List.size_toArray];omega)) ⟨e,?_⟩;refine ⟨.non,_,I.lset (its':=its++[u]) hH e (by simp) (r.append (.cons ru .nil)) ?_,rfl,q⟩;rw [List.length_append,List.length_singleton];omega
noncomputable def zq5:V->List V->Hp->VK->Prop:=fun x vs H Q=>∃l b xs zs,x=.ref l/\vs=[.ref b]/\H l=some (.lst xs)/\H b=some (.lst zs)/\xs.length+zs.length<=sizeLine/\Q .non (upd H l (.lst (xs++zs)))
theorem zpv:MtM X "list.extend" zq5:=by
 intro pins s σ H x vs v us Q I rx rv h;refine aG fun _ qG=>?_;obtain ⟨l,b,xs,zs,rfl,rfl,hH,hB,hz,q⟩:=h;refine qG ?_;clear qG;cases rx;obtain ⟨u,rfl,ru⟩:=rv.one;cases ru;refine aG fun _ qG=>?_;obtain ⟨z,its,n,r,hl,e⟩:=I.lstM hH;obtain ⟨z2,its2,n2,r2,hl2,e2⟩:=I.lstM hB;refine qG ?_;clear qG;have hsz:its.toArray.size+its2.toArray.size<=sizeLine:=by rw [List.size_toArray,List.size_toArray];omega
 have hlong:¬ (!its.toArray.isEmpty && Builtin.List.listTooLong (its.toArray.size+its2.toArray.size))=true:=by
  rw [zmf hsz,Bool.and_false];exact Bool.false_ne_true
 refine call_meets F.slot_list_extend ⟨_,e,rfl⟩ F.entry_list_extend (F.args_list_extend_2 _ _)
  (AutoSeq1.list_extend_list_list_0 l its.toArray n b its2.toArray n2 hlong (by rw [List.size_toArray];omega) (by omega)) ⟨e,e2,?_⟩
 refine ⟨.non,_,I.lset (its':=its++its2) hH e (by simp) (r.append r2) ?_,rfl,q⟩;rw [List.length_append];omega
noncomputable def zv1:V->List V->Hp->VK->Prop:=fun x vs H Q=>∃l xs i k y,x=.ref l/\vs=[.int i]/\H l=some (.lst xs)/\-(2 ^ 63)<=i/\i < 2 ^ 63/\seqIndex? i xs.length=some k/\xs[k]?=some y/\Q y (upd H l (.lst (xs.eraseIdx k)))
theorem zta:MtM X "list.pop" zv1:=by
 intro pins s σ H x vs v us Q I rx rv h;refine aG fun _ qG=>?_;obtain ⟨l,xs,i,k,y,rfl,rfl,hH,h1,h2,hk,hy,q⟩:=h;refine qG ?_;clear qG;cases rx;refine aG fun _ qG=>?_;obtain ⟨u,rfl,ru⟩:=rv.one;obtain ⟨t,rfl⟩:=ru;obtain ⟨z,its,n,r,hl,e⟩:=I.lstM hH;obtain ⟨w,hw,rw'⟩:=r.get hy;refine qG ?_;clear qG;refine call_meets F.slot_list_pop ⟨_,e,rfl⟩ F.entry_list_pop (F.args_list_pop_2 _ _)
  (MeetsSeq.list_pop_at l its.toArray n i t k w (fitsIndex_both h1 h2) (by rw [List.size_toArray,<-hl];exact hk) (by rw [<-Array.getElem?_toList];exact hw) (by rw [List.size_toArray];omega)) ⟨e,?_⟩
 refine ⟨y,_,I.lset (its':=its.eraseIdx k) hH e ?_ (r.eraseIdx k) ?_,rw',q⟩
 ·show its.toArray.eraseIdxIfInBounds k = (its.eraseIdx k).toArray;rw [List.eraseIdxIfInBounds_toArray]
 ·have := len_erase xs k;omega
noncomputable def rCat:R2:=fun x y H Q=>∃l b xs zs,x=.ref l/\y=.ref b/\H l=some (.lst xs)/\H b=some (.lst zs)/\xs.length+zs.length<=sizeLine/\∀p,H p=none->Q (.ref p) (upd H p (.lst (xs++zs)))
theorem z1a:OpR X (binaryOp .Add) rCat:=by
 intro pins s σ H x y v u Q I rx ry h;refine aG fun _ qG=>?_;obtain ⟨l,b,xs,zs,rfl,rfl,hH,hB,hz,q⟩:=h;refine qG ?_;clear qG;cases rx;cases ry;refine aG fun _ qG=>?_;obtain ⟨z,its,n,r,hl,e⟩:=I.lstM hH;obtain ⟨z2,its2,n2,r2,hl2,e2⟩:=I.lstM hB;refine qG ?_;clear qG;refine PySem.P.add_list e e2 ?_ (by rw [List.size_toArray,List.size_toArray];omega);have ea:its.toArray++its2.toArray=(its++its2).toArray:=by simp
 rw [ea];exact ⟨.ref _,_,I.lnew (t':=s.toks) (r.append r2) (by rw [List.length_append];omega),rfl,q _ I.fresh⟩
noncomputable def rRep:R2:=fun x y H Q=>∃l k xs,x=.ref l/\y=.int k/\H l=some (.lst xs)/\-(2 ^ 63)<=k/\k < 2 ^ 63/\xs.length * k.toNat<=sizeLine /\
 ∀p,H p=none->Q (.ref p) (upd H p (.lst (List.replicate k.toNat xs).flatten))
theorem zxy {α:Type} (xs:List α) (k:Nat):(List.replicate k xs).flatten.length=k * xs.length:=by
 induction k with
 | zero=>simp
 | succ k ih=>rw [List.replicate_succ,List.flatten_cons,List.length_append,ih,Nat.succ_mul,Nat.add_comm]
theorem z2y:OpR X (binaryOp .Mult) rRep:=by
 intro pins s σ H x y v u Q I rx ry h;refine aG fun _ qG=>?_;obtain ⟨l,k,xs,rfl,rfl,hH,h1,h2,hz,q⟩:=h;refine qG ?_;clear qG;cases rx;refine aG fun _ qG=>?_;obtain ⟨t,rfl⟩:=ry;obtain ⟨z,its,n,r,hl,e⟩:=I.lstM hH;refine qG ?_;clear qG;have hlen:its.toArray.size * k.toNat<=sizeLine:=by rw [List.size_toArray,<-hl];exact hz
 have hcap:¬ its.toArray.size * k.toNat > (2 ^ 63 - 1) / 8:=by
  have:(sizeLine:Nat)<=(2 ^ 63 - 1) / 8:=by decide
  omega
 have hfit:¬ (!Builtin.List.listFitsIndex k)=true:=by
  rw [fitsIndex_both h1 h2];exact Bool.false_ne_true
 have hlong:¬ Builtin.List.listTooLong (its.toArray.size * k.toNat)=true:=by
  rw [zmf hlen];exact Bool.false_ne_true
 have hnew:List.foldl (fun x1 x2=>x1++x2) #[] (List.replicate (if its.toArray.isEmpty=true then 0 else k.toNat) its.toArray)=(List.replicate k.toNat its).flatten.toArray:=by
  have f0:∀m:Nat,List.foldl (fun x1 x2=>x1++x2) #[] (List.replicate m its.toArray)=(List.replicate m its).flatten.toArray:=fun m=>by
   have:=zjb its m [];rw [List.nil_append] at this;exact this
  rw [f0];cases its with
  | nil=>simp
  | cons a r'=>rw [if_neg (by simp)]
 refine wpAny_binaryOp_repeat_ref (T := "list") (U := "int") (by decide) ⟨_,e,rfl⟩ (fun s'=>typeIs_int s' k t) noFill_list_mul F.fills_int_mul F.slot_int_rmul repeat_list F.slot_int_index.lookup
  (call_meets F.slot_int_rmul (typeIs_int s k t) F.entry_int_rmul (F.args_int_rmul_2 _ _) (int___rmul___int_list k t l its.toArray n)
   ⟨e,rfl,⟨_,e,rfl⟩,call_meets F.slot_list_mul ⟨_,e,rfl⟩ F.entry_list_mul (F.args_list_mul_2 _ _) (AutoListH.list___mul___list_int_3 l its.toArray n k t hfit hcap hlong) ⟨e,?_⟩⟩)
 rw [hnew];exact ⟨.ref _,_,I.lnew (t':=s.toks) (r.rep k.toNat) (by rw [zxy,Nat.mul_comm];exact hz),rfl,q _ I.fresh⟩
end
section
variable {prog:Program}{w:World}{A:Around}{E:Value->Shared->Prop}{s:Shared}
end
section
variable {X:Cx}
end
end L2
namespace Att
open PySem PySem.W PySem.Calls PyProof.Rows
theorem zfk {P:Params}{h:Heap}:∀(ns:List Int) (vs:List Value),WellAll P h vs (ns.map WData.int)->IntsAre vs ns:=by
  intro ns
  induction ns with
  | nil =>
    intro vs w;rw [List.map_nil] at w;cases w;exact .nil
  | cons n ns ih =>
    intro vs w;rw [List.map_cons] at w;cases w with
    | cons a b =>
      cases a;exact .cons _ _ (ih _ b)
theorem zpx {l:OpenLaw}{n:Nat} (hn:l.most=some n) {P:Params}{h:Heap}{args:List WData}{vals:List Value}
    (hpre:l.row.toRowW.claim.pre args=true) (hwl:WellAll P h vals args) :
    ∃a vs ns,vals=[Value.ref a]/\args=[WData.list (ns.map WData.int)]/\h.get? a=some { cls:=.type "list",data:=.seq vs.toArray }/\IntsAre vs ns/\ns.length<=n:=by
  have hsh:WShape.hasAll [] args [.list .int]=true:=(pre_splitW hpre).1;have hc:l.pre.holds [] { args:=args }=true:=(pre_splitW hpre).2;obtain ⟨d,r,rfl,h1,h2⟩:=hasAllW_cons hsh;obtain rfl:=hasAllW_nil h2;obtain ⟨xs,rfl,h3⟩:=hasW_list h1;obtain ⟨ns,rfl⟩:=items_int h3;have hlen:ns.length<=n:=by
    unfold OpenLaw.pre at hc;have h4:(WTm.not (.lt (.lit (.int (n:Int))) (.len (.arg 0)))).holds [] { args:=[.list (ns.map .int)] }=true:=by
      have h4:=(holds_andW hc).1;rw [hn] at h4;exact h4
    have h5:=condW_of h4 (w_not (w_lt w_lit (w_len_list (w_arg rfl))));rw [List.length_map] at h5;refine Nat.le_of_not_lt fun q=>?_;have q' : (n:Int) < ((ns.length:Nat):Int):=by omega
    first
      | (rw [decide_eq_true q'] at h5;exact absurd h5 (by decide))
      | (simp at h5;omega)
  cases hwl with
  | cons w1 w2 =>
    cases w2;cases w1 with
    | list ho hall=>exact ⟨_,_,ns,rfl,rfl,ho,zfk ns _ hall,hlen⟩
theorem zqc (l:OpenLaw) (args:List WData):l.row.toRowW.claim.post args (.bool true) args=true :=
 postW_of (r:=l.row.toRowW) (X:=(true == true))
  (show WShape.has [] (.bool true) .bool=true by first | rfl | decide | simp [WShape.has,WShape.arms,WShape.armsAll])
  (show (WTm.eq .res (.lit (.bool true))).value [] { args:=args,res:=some (.bool true),after:=args }=some (.bool (true == true)) from w_eq_bool (w_res rfl) w_lit) rfl
theorem attach_call {l:OpenLaw}{n:Nat}{q:Program}{loose:List Str}{XP:(Str->Option Value)->Heap->Prop}{YP:World->Heap->Prop}{d:DefRec}
  (hn:l.most=some n) (hdf:d.params.defaults=[])
  (call:∀(w:World) (s₀ s₁:Shared) (mg mb:Str->Option Value) (fa:Addr) (o:Obj) (pm cd doc:Value) (a:Addr) (vs:List Value) (ns:List Int),
   Ground q loose [] XP w s₀ mg mb s₁.heap->YP w s₁.heap ->
   s₁.heap.get? fa=some o->o.data=.func (docDef d.name d.params d.body d.scope pm cd doc)->s₁.heap.CodeRec cd d.name->mg d.name=some (.ref fa) ->
   s₁.heap.get? a=some { cls:=.type "list",data:=.seq vs.toArray }->IntsAre vs ns->ns.length<=n->s₁.gens=#[] ->
   codeAny (model l.prog w) callerA (.call (.ref fa) ⟨[.ref a],[]⟩) (fun r s'=>r=.ok (.ret (.bool true))/\OldK s₁.heap s'.heap/\s'.os=s₁.os/\AllBare s'.gens) s₁) :
  WalkO q loose XP YP l.row.toRowW d [] (fun f vs=>PySem.call f vs):=by
 intro w s₀ s₁ mg mb G Y fa o pm cd doc dV kV ho hd hcd hD hmg hg args vals as hpre hlay hrd hwl hlo;obtain rfl:dV=.none:=Dflts.none hD hdf;obtain rfl:kV=.none:=Dflts.noKw hD;obtain ⟨a,vs,ns,rfl,rfl,hobj,hints,hlen⟩:=zpx hn hpre hwl;refine enter_call (codeAny_mono (call w s₀ s₁ mg mb fa o pm cd doc a vs ns G Y ho (fd_plain hd) hcd hmg hobj hints hlen hg) fun r s' hq=>?_);obtain ⟨rfl,h2,h3,h4⟩:=hq;exact ⟨.inl ⟨.bool true,.bool true,[],rfl,fun _=>rfl,.bool true,zqc l _,fun _=>⟨List.Pairwise.nil,fun _ hm=>(nomatch hm)⟩⟩,h2,h3,h4⟩
section
variable {prog:Program}{w:World}{A:Around}{E:Value->Shared->Prop}{s:Shared}{K:Frag}
end
end Att
namespace L2
open PySem PySem.Spec PyProof.Rows
theorem zjm:∀{vs:List Value}{ns:List Int},IntsAre vs ns->Vals (ns.map V.int) vs
 | _,_,.nil=>.nil
 | _,_,.cons n t h=>.cons ⟨t,rfl⟩ (zjm h)
end L2
namespace L2
open PySem PySem.Spec PyProof.Rows
end L2
namespace L2
open PySem PySem.Spec PyProof.Rows
noncomputable def zd8 (s:Stmt):Arguments:=match s with
 | .FunctionDef _ a _ _ _ _ _ _ _ _=>a
 | _=>{ posonlyargs:=[],args:=[],vararg:=none,kwonlyargs:=[],kw_defaults:=[],kwarg:=none,defaults:=[] }
noncomputable def zc1 (s:Stmt):List Stmt:=match s with
 | .FunctionDef _ _ b _ _ _ _ _ _ _=>b
 | _=>[]
noncomputable def zao (s:Stmt):Scope:=match s with
 | .FunctionDef _ _ _ _ _ _ sc _ _ _=>sc
 | _=>{ kind:=.function,names:=[],isGenerator:=false,isCoroutine:=false }
noncomputable abbrev CX0:CXT:=fun _ _ _ _ _ _=>False
noncomputable abbrev E0:XK:=fun _ _ _=>False
theorem z45 {X:Cx}:zo7 CX0 X E0:=fun _ _ _ _ _ _ _ h=>h.elim
structure Fun (K:PySem.W.Frag) (x qual:Str) (st:Stmt) (f:Addr) (fd:FuncData):Prop where
 ex:∃(oc:Value) (od:Option Addr) (kV doc pm:Value) (an:Option Addr) (cdv ct:Value) (osl:Array (Option Value)),
  fd=PySem.W.fnOf x qual (zd8 st) (zc1 st) (zao st) .none kV doc pm an cdv ct/\K.lookup f=some ⟨oc,od,.func fd,osl⟩/\PySem.W.codeIn K cdv qual=true
 kp:PySem.W.keepIn K (.ref f)=true
section
variable {P:Program}{w:World}{K:PySem.W.Frag}{mg:Str->Option Value}{base:Heap}
theorem Fun.binds {x qual:Str}{st:Stmt}{f:Addr}{fd:FuncData}{ps:List Str} (F:Fun K x qual st f fd)
  (h:∀(kV doc pm:Value) (an:Option Addr) (cdv ct:Value) (us:List Value),us.length=ps.length->bindArgs (PySem.W.fnOf x qual (zd8 st) (zc1 st) (zao st) .none kV doc pm an cdv ct) ⟨us,[]⟩=pure (ps.zip us)):zj3 K fd ps []:=by
 obtain ⟨oc,od,kV,doc,pm,an,cdv,ct,osl,rfl,lk,hcd⟩:=F.ex;exact .all (h kV doc pm an cdv ct)
theorem zvs {x qual:Str}{st:Stmt}{f:Addr}{oc:Value}{od an:Option Addr}{osl:Array (Option Value)}{kV doc pm cdv ct:Value} (l:K.lookup f=some ⟨oc,od,.func (PySem.W.fnOf x qual (zd8 st) (zc1 st) (zao st) .none kV doc pm an cdv ct),osl⟩)
  (c:PySem.W.codeIn K cdv qual=true) (k:PySem.W.keepIn K (.ref f)=true):Fun K x qual st f (PySem.W.fnOf x qual (zd8 st) (zc1 st) (zao st) .none kV doc pm an cdv ct):=⟨⟨oc,od,kV,doc,pm,an,cdv,ct,osl,rfl,l,c⟩,k⟩
end
section
variable {X:Cx}
end
theorem iteF {A B:Prop} (h:B):if false=true then A else B:=by
 rw [if_neg Bool.false_ne_true];exact h
theorem iteT {A B:Prop} (h:A):if true=true then A else B:=by
 rw [if_pos rfl];exact h
noncomputable def Same (H H' : Hp):Prop:=∀b o,H b=some o->H' b=some o
theorem Same.refl (H:Hp):Same H H:=fun _ _ h=>h
theorem Same.trans {H H1 H2:Hp} (a:Same H H1) (b:Same H1 H2):Same H H2:=fun c o h=>b c o (a c o h)
theorem Same.free {H H' : Hp} (e:Same H H') {l:Addr} (h:H' l=Option.none):H l=Option.none:=by
  cases q:H l with
  | none=>rfl
  | some o =>
    rw [e l o q] at h;cases h
theorem Same.seq {K:PySem.W.Frag}{H H' : Hp}{a:Addr}{xs:List V} (e:Same H H') (h:SqL K H a xs):SqL K H' a xs:=by
 rcases h with (h | ⟨o,h⟩) | h
 ·exact .inl (.inl (e _ _ h))
 ·exact .inl (.inr ⟨o,e _ _ h⟩)
 ·exact .inr h
end L2
namespace L2
open PySem PySem.Spec PyProof.Rows
noncomputable def capSt (cap:List (Option Nat)) (σ:St):St:=cap.map fun o=>match o with
 | some i=>(σ[i]?).getD none
 | none=>none
noncomputable def zfv (cap:List (Option Nat)) (Nc N:List Str) (scope:Scope):Bool :=
 decide (cap.length=Nc.length) && (cap.zip Nc).all fun p=>match p.1 with
  | some i=>decide (N[i]?=some p.2) && decide (scope.names.lookup p.2=some NameKind.free)
  | none=>true
theorem zq0 {cap Nc N scope} (h:zfv cap Nc N scope=true):cap.length=Nc.length:=by
 unfold zfv at h;rw [Bool.and_eq_true] at h;exact of_decide_eq_true h.1
theorem zn9 {cap:List (Option Nat)}{Nc N:List Str}{scope:Scope} (h:zfv cap Nc N scope=true) {j i:Nat}{x:Str} (h1:cap[j]?=some (some i)) (h2:Nc[j]?=some x):N[i]?=some x/\scope.names.lookup x=some .free:=by
 unfold zfv at h;rw [Bool.and_eq_true] at h;have hm:(some i,x)∈cap.zip Nc:=by
  refine List.mem_of_getElem? (i:=j) ?_;rw [List.getElem?_zip_eq_some];exact ⟨h1,h2⟩
 have q:=List.all_eq_true.mp h.2 _ hm;simp only [Bool.and_eq_true,decide_eq_true_eq] at q;exact q
noncomputable def ze6 (scope:Scope) (out:Scope):Bool:=scope.names.all fun p=>!(p.2 == NameKind.free) || decide (out.names.lookup p.1=some .cell) || decide (out.names.lookup p.1=some .free)
theorem zd2 {env:Env}:∀(names:List (Str × NameKind)) (acc:List (Str × Addr)),(∀x,(x,NameKind.free)∈names->∃c,env.cells.lookup x=some c)->(∀x c,acc.lookup x=some c->env.cells.lookup x=some c) ->
    ∃cl,(forIn names acc fun (p:Str × NameKind) cs=>if p.2 == NameKind.free then do let c <- cellOf env p.1;pure (ForInStep.yield ((p.1,c)::cs)) else pure (ForInStep.yield cs):Sem (List (Str × Addr)))=pure cl /\
      (∀x c,cl.lookup x=some c->env.cells.lookup x=some c)/\(∀x,(x,NameKind.free)∈names\/(∃c,acc.lookup x=some c)->∃c,cl.lookup x=some c)
  | [],acc,_,h2=>⟨acc,by rw [List.forIn_nil],h2,fun x hx=>by
      rcases hx with hx | hx
      · cases hx
      · exact hx⟩
  | (n,k)::r,acc,h1,h2=>by
    rw [List.forIn_cons];by_cases hk:(k == NameKind.free)=true
    · have ek : k = .free := by simpa using hk
      subst ek;obtain ⟨c,hc⟩:=h1 n List.mem_cons_self;have h2' : ∀x d,((n,c)::acc).lookup x=some d->env.cells.lookup x=some d:=fun x d hx=>by
        rw [List.lookup_cons] at hx;cases e:x == n with
        | true => rw [e] at hx; obtain rfl := sI hx; have : x = n := by simpa using e
                  rw [this];exact hc
        | false=>rw [e] at hx;exact h2 x d hx
      obtain ⟨cl,e,a,b⟩:=zd2 r ((n,c)::acc) (fun x hx=>h1 x (List.mem_cons_of_mem _ hx)) h2';refine ⟨cl,?_,a,fun x hx=>b x ?_⟩
      · rw [<- e]
        have hcell:cellOf env n=pure c:=by unfold cellOf;rw [hc]
        simp only [beq_self_eq_true,if_true,hcell]
        rfl
      · have gen:∀y d,acc.lookup y=some d->∃d',((n,c)::acc).lookup y=some d':=fun y d hy=>by
          rw [List.lookup_cons];cases e:y == n with
          | true=>exact ⟨_,rfl⟩
          | false=>exact ⟨d,hy⟩
        rcases hx with hx | ⟨d,hx⟩
        · rcases List.mem_cons.mp hx with hx | hx
          · injection hx with hx _
            subst hx;exact .inr ⟨c,by rw [List.lookup_cons];simp⟩
          · exact .inl hx
        · exact .inr (gen x d hx)
    · have hk' : (k == NameKind.free) = false := by simpa using hk
      obtain ⟨cl,e,a,b⟩:=zd2 r acc (fun x hx=>h1 x (List.mem_cons_of_mem _ hx)) h2;refine ⟨cl,?_,a,fun x hx=>b x ?_⟩
      · rw [<- e]
        simp only [hk',Bool.false_eq_true,if_false]
        rfl
      · rcases hx with hx | hx
        · rcases List.mem_cons.mp hx with hx | hx
          · injection hx with _ hx
            subst hx;simp at hk'
          · exact .inl hx
        · exact .inr hx
theorem zc6 {env:Env}{scope:Scope} (h:∀x,(x,NameKind.free)∈scope.names->∃c,env.cells.lookup x=some c) :
  ∃cl,closureFor scope env=pure cl/\(∀x c,cl.lookup x=some c->env.cells.lookup x=some c)/\(∀x,(x,NameKind.free)∈scope.names->∃c,cl.lookup x=some c):=by
 refine aG fun _ qG=>?_;obtain ⟨cl,e,a,b⟩:=zd2 (env:=env) scope.names [] h (fun x c hx=>by simp at hx);refine qG ?_;clear qG;refine ⟨cl,?_,a,fun x hx=>b x (.inl hx)⟩;rw [closureFor];have e':=e;simp only [bind_assoc,pure_bind] at e' ⊢;exact congrArg (fun m=>m >>= fun r=>pure r) e |>.trans (by rw [pure_bind])
end L2
namespace L2
open PySem PySem.Spec PyProof.Rows
noncomputable def za9 (X:Cx) (Nc:List Str) (scope:Scope) (cl:List (Str × Addr)) (C:Addr) (s3:Shared) (H3:Hp) (fp:List Addr):Cx where
 prog:=X.prog
 w:=X.w
 K:=X.K
 mg:=X.mg
 base:=X.base
 A:=X.A
 N:=Nc
 s₀:=s3
 H₀:=H3
 env:=compEnvC scope cl C X.env
 outer:=X.stack
 stack:=X.stack
 ex:=fp
 fn:=fun x=>decide (scope.names.lookup x=some NameKind.cell)
 calm:=X.calm
 pn:=[]
 xe:=fun _ _=>False
noncomputable def zvy:TT:=fun σ H Q=>Q true H
noncomputable def PTs (X:Cx) (ifs:List Expr) (t:TT):Prop :=
  ∀(pins:List (Addr × Obj)) (s:Shared) (σ:St) (H:Hp) (Q:Bool->Hp->Prop),Inv X pins σ H s->t σ H Q ->
    wpAny (model X.prog X.w) X.A (forIn ifs true fun c r=>if r=true then do let ok <- isTrue c X.env (eval c X.env);pure (ForInStep.yield ok) else pure (ForInStep.yield r)) (TP X pins σ Q) X.xe s
theorem zwa {X:Cx}:PTs X [] zvy:=fun pins s σ H Q I h=>by
 rw [List.forIn_nil];exact wpAny_pure ⟨H,I,h⟩
theorem zxs {X:Cx}{c:Expr}{t:TT} (h:PT X c t):PTs X [c] t:=fun pins s σ H Q I q=>by
 rw [List.forIn_cons];simp only [if_true];refine wpAny_bind (wpAny_bind (thn (h pins s σ H Q I q) fun b s1 q1=>?_));refine wpAny_pure ?_;dsimp only;rw [List.forIn_nil];exact wpAny_pure q1
section
variable {X:Cx}
theorem zax {env:Env}:∀{names:List (Str × NameKind)}{x:Str},names.lookup x=some .free ->
    (names.map fun (n,k)=>if (k == NameKind.free && env.scope.kind == .function && env.kindOf n == some .cell) then (n,NameKind.cell) else (n,k)).lookup x=some .cell \/
    (names.map fun (n,k)=>if (k == NameKind.free && env.scope.kind == .function && env.kindOf n == some .cell) then (n,NameKind.cell) else (n,k)).lookup x=some .free
  | [],_,h=>by simp at h
  | (n,k)::r,x,h=>by
    have ih:=@zax env r x;rw [List.map_cons];rw [List.lookup_cons] at h;cases hx:x == n with
    | true =>
      rw [hx] at h;obtain rfl:=sI h;dsimp only;split
      · rw [List.lookup_cons,hx];exact .inl rfl
      · rw [List.lookup_cons,hx];exact .inr rfl
    | false =>
      rw [hx] at h;dsimp only;split
      · rw [List.lookup_cons,hx];exact ih h
      · rw [List.lookup_cons,hx];exact ih h
theorem zbd {env:Env}:∀{names:List (Str × NameKind)}{x:Str}{k:NameKind},(k=.cell\/k=.free) ->
    (names.map fun (n,k)=>if (k == NameKind.free && env.scope.kind == .function && env.kindOf n == some .cell) then (n,NameKind.cell) else (n,k)).lookup x=some k->names.lookup x=some .free\/names.lookup x=some .cell
  | [],_,_,_,h=>by simp at h
  | (n,k0)::r,x,k,hk,h=>by
    rw [List.map_cons] at h;rw [List.lookup_cons];cases hx:x == n with
    | true =>
      dsimp only at h;split at h
      · rename_i hc
        rw [List.lookup_cons,hx] at h;simp only [Bool.and_eq_true,beq_iff_eq] at hc;rw [hc.1.1];exact .inl rfl
      · rw [List.lookup_cons, hx] at h
        obtain rfl:=sI h;rcases hk with rfl | rfl
        · exact .inr rfl
        · exact .inl rfl
    | false =>
      dsimp only at h;split at h
      · rw [List.lookup_cons,hx] at h;exact zbd hk h
      · rw [List.lookup_cons,hx] at h;exact zbd hk h
theorem zde {scope out:Scope} (h:ze6 scope out=true) {x:Str} (hx:(x,NameKind.free)∈scope.names):out.names.lookup x=some .cell\/out.names.lookup x=some .free:=by
 have q:=List.all_eq_true.mp h _ hx;simpa using q
theorem capSt_get {cap:List (Option Nat)}{σ:St}{j:Nat}{v:V} (h:(capSt cap σ)[j]?=some (some v)):∃i,cap[j]?=some (some i)/\σ[i]?=some (some v):=by
  unfold capSt at h;rw [List.getElem?_map] at h;cases e:cap[j]? with
  | none=>rw [e] at h;cases h
  | some o =>
    rw [e] at h;cases o with
    | none=>cases h
    | some i =>
      refine ⟨i,rfl,?_⟩;have h' : (σ[i]?).getD none=some v:=sI h;cases e2:σ[i]? with
      | none=>rw [e2] at h';cases h'
      | some z=>rw [e2] at h';exact congrArg some h'
theorem za5 {env:Env}:∀{names:List (Str × NameKind)}{x:Str}{k:NameKind},k≠.free->names.lookup x=some k ->
    (names.map fun (n,k)=>if (k == NameKind.free && env.scope.kind == .function && env.kindOf n == some .cell) then (n,NameKind.cell) else (n,k)).lookup x=some k
  | [],_,_,_,h=>by simp at h
  | (n,k0)::r,x,k,hk,h=>by
    have ih:=@za5 env r x k hk;rw [List.map_cons];rw [List.lookup_cons] at h;cases hx:x == n with
    | true =>
      rw [hx] at h;obtain rfl:=sI h;have:(k0 == NameKind.free)=false:=by cases k0<;>first | rfl | exact absurd rfl hk
      dsimp only;rw [this,Bool.false_and,Bool.false_and,if_neg Bool.false_ne_true,List.lookup_cons,hx]
    | false =>
      rw [hx] at h;dsimp only;split
      · rw [List.lookup_cons,hx];exact ih h
      · rw [List.lookup_cons,hx];exact ih h
noncomputable def zed (scope:Scope):Bool:=scope.names.all fun p=>!(p.2 == NameKind.cell) || decide (scope.names.lookup p.1=some .cell)
theorem zng {scope:Scope} (h:zed scope=true) {x:Str} (hx:(x,NameKind.cell)∈scope.names):scope.names.lookup x=some .cell:=by
 have q:=List.all_eq_true.mp h _ hx;simpa using q
theorem zb9:∀(names:List (Str × NameKind)) (n:Nat) (acc:List (Str × Addr)),cellsFrom n names acc=cellsFrom n names []++acc
  | [],_,_=>rfl
  | (x,k)::r,n,acc=>by
    unfold cellsFrom;split
    · rw [zb9 r (n+1) ((x,n)::acc),zb9 r (n+1) [(x,n)],List.append_assoc];rfl
    · exact zb9 r n acc
theorem zfr:∀(names:List (Str × NameKind)) (n:Nat) {x:Str}{c:Addr},(x,c)∈cellsFrom n names []->(x,NameKind.cell)∈names
  | [],_,_,_,h=>by cases h
  | (y,k)::r,n,x,c,h=>by
    unfold cellsFrom at h;split at h
    · rename_i hk
      rw [zb9] at h;rcases List.mem_append.mp h with h | h
      · exact List.mem_cons_of_mem _ (zfr r _ h)
      · have e := List.mem_singleton.mp h
        cases e;have:k=NameKind.cell:=by simpa using hk
        rw [this];exact List.mem_cons_self
    · exact List.mem_cons_of_mem _ (zfr r _ h)
theorem cells_of {names:List (Str × NameKind)}{n:Nat}{cl:List (Str × Addr)}{x:Str}{c:Addr} (h:(cellsFrom n names cl).lookup x=some c):(cellsFrom n names []).lookup x=some c\/((cellsFrom n names []).lookup x=none/\cl.lookup x=some c):=by
 rw [zb9,List.lookup_append] at h;cases e:(cellsFrom n names []).lookup x with
 | some d=>rw [e] at h;exact .inl h
 | none=>rw [e] at h;exact .inr ⟨rfl,h⟩
theorem zgn {scope:Scope} (h:zed scope=true) {n:Nat}{cl:List (Str × Addr)}{x:Str}{c:Addr} (hx:scope.names.lookup x=some .free) (hc:cl.lookup x=some c):(cellsFrom n scope.names cl).lookup x=some c:=by
  rw [zb9,List.lookup_append];cases e:(cellsFrom n scope.names []).lookup x with
  | none=>exact hc
  | some d =>
    have:=zng h (zfr _ _ (PySem.mem_of_lookup e));rw [hx] at this;cases this
theorem ztn {pins:List (Addr × Obj)}{σ:St}{H3:Hp}{s3:Shared}{Nc:List Str}{scope:Scope}{cl:List (Str × Addr)}{cap:List (Option Nat)}{fp:List Addr}{h4:Heap}{tk:Nat}
  (I:Inv X pins σ H3 s3) (hk:scope.kind=.function) (hcap:zfv cap Nc X.N scope=true) (hfr:ze6 scope X.env.scope=true) (hnc:zed scope=true)
  (c1:∀x c,cl.lookup x=some c->X.env.cells.lookup x=some c) (c2:∀x,(x,NameKind.free)∈scope.names->∃c,cl.lookup x=some c)
  (hf:∀b∈fp,FpOk X pins H3 b) (ho:∀b∈fp,b < s3.heap.objs.size)
  (hns:h4.Ns s3.heap.objs.size (fun _=>none)) (hkeep:∀b o,s3.heap.get? b=some o->h4.get? b=some o) (hcs:CellsOk h4 (s3.heap.objs.size+1) (cellsFrom (s3.heap.objs.size+1) scope.names [])) :
  Inv (za9 X Nc scope (cellsFrom (s3.heap.objs.size+1) scope.names cl) s3.heap.objs.size s3 H3 fp) [] (capSt cap σ) H3 { s3 with heap:=h4,toks:=tk }:=by
 have stkne:∀b∈fp,b ∉ frs X.stack:=fun b hb z=>by
  obtain ⟨_,g1,g2,_⟩:=hf b hb;rcases List.mem_cons.mp (I.stkSub b z) with e | e
  ·exact g1 e
  ·exact g2 e
 have own:∀x c,(cellsFrom (s3.heap.objs.size+1) scope.names []).lookup x=some c->h4.IsCell c none/\s3.heap.objs.size+1<=c:=fun x c h=>hcs.empty x c (PySem.mem_of_lookup h);have old:∀x c,cl.lookup x=some c->c < s3.heap.objs.size:=fun x c h=>by
  obtain ⟨v,q⟩:=I.cell x c (c1 x c h);exact q.lt
 refine ⟨⟨I.mod,hk,I.ok.glob,I.ok.blt,Nat.le_refl _,fun x y c h1 h2=>?_,fun x hx=>?_,fun x c h h'=>?_,I.ok.hd,I.ok.frames,.inl rfl,fun b hb=>⟨Nat.ne_of_lt (ho b hb),fun x c h=>?_⟩,
  fun b o e=>I.bs b o e,Nat.le_trans I.ok.bsz I.sz,fun b o e hb=>?_,stkne,I.stack,I.stkFree⟩,rfl,I.bare,Un.kept hkeep,⟨_,hns,fun j x v h1 h2 h3=>?_⟩,fun x c h=>?_,I.hok.fresh (Nat.le_refl _),fun x c h=>?_,fun p hp=>absurd (show p∈([]:List (Addr × Obj)) from hp) (by simp),I.hok.kept hkeep,?_⟩
 ·rcases cells_of h1 with z1 | ⟨_, z1⟩
  ·rcases cells_of h2 with z2 | ⟨_, z2⟩
   ·exact name_of_addr hcs.apart (PySem.mem_of_lookup z1) (PySem.mem_of_lookup z2)
   ·have a := (own x c z1).2;have b:=old y c z2;exact absurd (Nat.lt_of_lt_of_le b (Nat.le_of_succ_le a)) (Nat.lt_irrefl _)
  ·rcases cells_of h2 with z2 | ⟨_, z2⟩
   ·have a := (own y c z2).2;have b:=old x c z1;exact absurd (Nat.lt_of_lt_of_le b (Nat.le_of_succ_le a)) (Nat.lt_irrefl _)
   ·exact I.ok.inj x y c (c1 x c z1) (c1 y c z2)
 ·have hx' : scope.names.lookup x=some .free\/scope.names.lookup x=some .cell:=by
   rcases hx with hx | hx
   ·exact zbd (env:=X.env) (.inl rfl) hx
   ·exact zbd (env:=X.env) (.inr rfl) hx
  rcases hx' with hx' | hx'
  ·obtain ⟨c, e⟩ := c2 x (PySem.mem_of_lookup hx');exact ⟨c,zgn hnc hx' e⟩
  ·exact Option.isSome_iff_exists.mp (PySem.W.cellsFrom_some scope.names _ cl (.inl hx'))
 ·have hx : scope.names.lookup x = some .cell := of_decide_eq_true h;rcases cells_of h' with z | ⟨z,_⟩
  ·exact Nat.le_of_succ_le (own x c z).2
  ·obtain ⟨d, e⟩ := cell_has (n := s3.heap.objs.size + 1) hx;rw [z] at e;cases e
 ·rcases cells_of h with z | ⟨_, z⟩
  ·have a := (own x c z).2;have:=ho b hb;exact Ne.symm (Nat.ne_of_lt (Nat.lt_of_lt_of_le this (Nat.le_of_succ_le a)))
  ·exact (hf b hb).2.2.2.2.1 x c (c1 x c z)
 ·rcases (hf b hb).2.2.2.1 with z | z
  ·exact I.ok.noex b o e z
  ·have h1 : b < X.base.objs.size := Heap.lt_size e;exact absurd (Nat.lt_of_lt_of_le h1 (Nat.le_trans I.ok.bsz z)) (Nat.lt_irrefl _)
 ·obtain ⟨i, e1, e2⟩ := capSt_get h2;have hNx:Nc[j]?=some x:=h1;obtain ⟨n1,n2⟩:=zn9 hcap e1 hNx;have vis:Vis X.env.scope x:=by
   rcases zde hfr (PySem.mem_of_lookup n2) with z | z
   ·exact .inr (.inl z)
   ·exact .inr (.inr z)
  obtain ⟨m,hn,hl⟩:=I.loc;obtain ⟨u,r,l⟩:=hl i x v n1 e2 vis;refine ⟨u,r,?_⟩;rcases l with ⟨hk',_⟩ | ⟨_,c,e,z⟩
  ·have hk2 : X.env.scope.names.lookup x = some .local := hk';rcases zde hfr (PySem.mem_of_lookup n2) with z | z
   ·rw [z] at hk2;cases hk2
   ·rw [z] at hk2;cases hk2
  ·obtain ⟨c', e'⟩ := c2 x (PySem.mem_of_lookup n2);have:=c1 x c' e';rw [e] at this;obtain rfl:=sI this;refine .inr ⟨zax (env:=X.env) n2,c,zgn hnc n2 e',?_⟩;obtain ⟨o,ho',hd⟩:=z;exact ⟨o,hkeep _ _ ho',hd⟩
 ·rcases cells_of h with z | ⟨_, z⟩
  ·exact ⟨none,(own x c z).1⟩
  ·obtain ⟨v, o, ho', hd⟩ := I.cell x c (c1 x c z);exact ⟨v,o,hkeep _ _ ho',hd⟩
 ·rcases cells_of h with z | ⟨_, z⟩
  ·exact I.hok.fresh (Nat.le_of_succ_le (own x c z).2)
  ·exact I.freeC x c (c1 x c z)
 ·show (capSt cap σ).length = Nc.length;rw [<-zq0 hcap];unfold capSt;rw [List.length_map]
theorem zhi {M:Model}{A:Around}{E:Value->Shared->Prop}{s:Shared}{scope:Scope}{globals:Addr}{cl:List (Str × Addr)}{qual:Str}{outer:Env}{Q:Env->Shared->Prop}
  (hQ:∀h',h'.Ns s.heap.objs.size (fun _=>none)->(∀b o,s.heap.get? b=some o->h'.get? b=some o)->CellsOk h' (s.heap.objs.size+1) (cellsFrom (s.heap.objs.size+1) scope.names []) ->
   Q (newEnv scope s.heap.objs.size globals (cellsFrom (s.heap.objs.size+1) scope.names cl) qual none .none (some outer) builtinsNs) { s with heap:=h' }) :
  wpAny M A (newFunctionEnv scope globals cl [] qual none .none (some outer)) Q E s:=by
 simp only [newFunctionEnv,Option.isSome_some,if_true];refine wpAny_bind (wpAny_alloc ?_);refine wpAny_bind (wpAny_layCells _ (fun name kind cells=>by cases hkc:kind == NameKind.cell<;>simp [hkc]) _ _ _ _ ?_);have ok:=cellsFrom_ok scope.names (s.heap.push { cls:=.type "dict",data:=.dict #[] }) (s.heap.objs.size+1) [] ⟨fun _ _ hm=>(nomatch hm),List.Pairwise.nil⟩ (by rw [Heap.size_push];exact Nat.le_refl _);rw [Heap.size_push] at ok;rw [show ({ s with heap:=s.heap.push { cls:=.type "dict",data:=.dict #[] } }:Shared).heap.objs.size=s.heap.objs.size+1 from Heap.size_push ..];refine wpAny_bind ?_;rw [List.forIn_nil];exact wpAny_pure (wpAny_pure (hQ _ ((Heap.Ns.new s.heap (.type "dict")).keeps (pushCells_keeps _ _)) (fun b o e=>pushCells_keeps _ _ b o (Heap.get?_push_of_some _ e)) ok))
end
end L2
namespace L2
open PySem PySem.Spec PyProof.Rows
noncomputable abbrev TM:=St->Hp->(St->Hp->Prop)->Prop
noncomputable def PM (X:Cx) (em:Sem Unit) (t:TM):Prop :=
  ∀(pins:List (Addr × Obj)) (s:Shared) (σ:St) (H:Hp) (N:St->Hp->Prop),Inv X pins σ H s->t σ H N ->
    wpAny (model X.prog X.w) X.A em (fun _ s'=>∃σ' H',Inv X pins σ' H' s'/\N σ' H') X.xe s
noncomputable def zm1 (e:Expr) (d:Nat) (tg iter:Expr) (ifs:List Expr) (em:Sem Unit) (it acc:Value) (env:Env):Sem Fin:=do
  standAt iter.pos
  match <- pyNext it with
  | none=>pure (.done .next)
  | some v =>
    letOwnedTupleGo tg it v
    assign tg env v
    let mut ok:=true
    for c in ifs do
      if ok then ok <- isTrue c env (eval c env)
    if ok then em
    again (.compLoop e d it acc env)
noncomputable def zlv (J:It) (g:TG) (tc:TT) (tm:TM) (σ:St) (H:Hp) (Q:St->Hp->Prop):Prop:=∃W:Nat->Nat->St->Hp->Prop,(∃m,W 0 m σ H) /\
 ∀i m σc Hc,W i m σc Hc->(J.stop i Hc/\Q σc Hc)\/(J.go i Hc/\∃N:St->Hp->Prop,(∀σ' H',N σ' H'->∃m',m' < m/\W (i+1) m' σ' H')/\∀x H',J.yld i Hc x H'->g x σc H' fun σ2 H2 =>
  tc σ2 H2 fun b H3=>if b=true then tm σ2 H3 N else N σ2 H3)
noncomputable def zq3 (wi:TI) (cap:List (Option Nat)) (g:TG) (tc:TT) (tm:Addr->TM):TE:=fun σ H Q=>wi σ H fun J H1=>∀acc,H1 acc=none->zlv J g tc (tm acc) (capSt cap σ) (upd H1 acc (.lst [])) fun _ Hc=>Q (.ref acc) Hc
section
variable {X:Cx}
theorem zoa {elt:Expr}{gens:List Comprehension}{scope:Scope}{pos:Pos}{d:Nat}{tg iter:Expr}{ifs:List Expr}{em:Sem Unit}{acc:Value}{g:TG}{tc:TT}{tm:TM}{pins:List (Addr × Obj)}{σ:St}{H:Hp}{s:Shared}{it:Addr}{fp:List Addr}{tn:Nat->Heap->Prop}{J:It}{N0:St->Hp->Prop}{R:Result->Shared->Prop}
  (hx:∀v s,¬ X.xe v s) (hc:X.calm=true) (ht:compTurn (.ListComp elt gens scope pos) d (.ref it) acc X.env=zm1 (.ListComp elt gens scope pos) d tg iter ifs em (.ref it) acc X.env)
  (hg:PG X tg g) (hs:PTs X ifs tc) (hm:PM X em tm) (I:Inv X pins σ H s) (T:Turn X.prog X.w X.K tg J fp it tn) (st:tn 0 s.heap) (f:∀b∈fp,FpOk X pins H b)
  (hW:zlv J g tc tm σ H N0)
  (hR:∀σ' H' s',Inv X pins σ' H' s'->N0 σ' H'->R (.ok .next) s'):codeAny (model X.prog X.w) X.A (.compLoop (.ListComp elt gens scope pos) d (.ref it) acc X.env) R s:=by
 have stat:∀{H' : Hp},(∀b∈fp,H' b=none)->∀b∈fp,FpOk X pins H' b:=fun hn b hb=>⟨hn b hb,(f b hb).2⟩;refine aG fun _ qG=>?_;obtain ⟨W,⟨m0,w0⟩,turn⟩:=hW;refine qG ?_;clear qG;refine codeAny_loop rfl (fun n s'=>∃i σ' H',Inv X pins σ' H' s'/\tn i s'.heap/\(∀b∈fp,H' b=none)/\W i n σ' H') ?_ m0 ⟨0,σ,H,I,st,fun b hb=>(f b hb).1,w0⟩;rintro n s3 ⟨i,σ3,H3,I3,st3,fr3,w3⟩;show wpAny _ X.A ((compTurn (.ListComp elt gens scope pos) d (.ref it) acc X.env).onRaise (fun x=>do noteFrame x X.env;theTreesLotGoes x)) _ _ s3;refine wpAny_noted ?_;rw [ht];unfold zm1;refine wpAny_bind (wpAny_standAt (wpAny_bind ?_));rcases turn i n σ3 H3 w3 with ⟨stop,qn⟩ | ⟨go,N,hN,step⟩
 ·refine wpAny_mono (T.done X rfl rfl rfl hc i pins s3 σ3 H3 (fun _ _ => False) I3 (stat fr3) st3 stop) (fun r s4 ⟨hr, I4⟩ => ?_) fun _ _ z => z.elim;subst hr;exact wpAny_pure (hR σ3 H3 s4 I4 qn)
 ·refine wpAny_mono (T.item X rfl rfl rfl hc i pins s3 σ3 H3 (fun _ _ => False) I3 (stat fr3) st3 go) (fun r s4 ⟨u, hr, h4⟩ => ?_) fun _ _ z => z.elim;subst hr;refine wpAny_bind (wpAny_mono h4 (fun _ s5 ⟨x,H5,I5,r5,y5,st5,fr5⟩=>?_) fun _ _ z=>z.elim);have I5':=I5.pinned (stat fr5) (T.obj _ _ st5);refine wpAny_bind (wpAny_mono (hg _ s5 σ3 H5 x u _ I5' r5 (step x H5 y5)) (fun _ s6 ⟨σ6,H6,I6,q6⟩=>?_) fun v s z=>(hx v s z).elim);refine wpAny_bind (wpAny_mono (hs _ s6 σ6 H6 _ I6 q6) (fun ok s7 ⟨H7,I7,q7⟩=>?_) fun v s z=>(hx v s z).elim);have again:∀{sx:Shared}{σx:St}{Hx:Hp},Inv X (pins++zjg fp s5.heap) σx Hx sx->N σx Hx->∃m,m < n/\∃i σ' H',Inv X pins σ' H' sx/\tn i sx.heap/\(∀b∈fp,H' b=none)/\W i m σ' H':=fun {sx σx Hx} Ix nx=>by
   obtain ⟨m',hm,wx⟩:=hN σx Hx nx;refine ⟨m',hm,i+1,σx,Hx,Ix.unpinned,T.keep _ _ _ st5 fun b hb o e=>(Ix.pin (b,o) (List.mem_append_right _ (List.mem_append_right _ (zc8 hb e)))).1,fun b hb=>?_,wx⟩;obtain ⟨o,e,d⟩:=T.obj _ _ st5 b hb;exact (Ix.pin (b,o) (List.mem_append_right _ (List.mem_append_right _ (zc8 hb e)))).2.1
  cases ok with
  | false=>exact wpAny_pure ⟨rfl,again I7 q7⟩
  | true=>exact wpAny_bind (wpAny_mono (hm _ s7 σ6 H7 N I7 q7) (fun _ s8 ⟨σ8,H8,I8,n8⟩=>wpAny_pure ⟨rfl,again I8 n8⟩) fun v s z=>(hx v s z).elim)
noncomputable def ztq (acc:Addr) (te:TE):TM:=fun σ H N=>te σ H fun y H4=>∃ys,H4 acc=some (.lst ys)/\ys.length < sizeLine/\N σ (upd H4 acc (.lst (ys++[y])))
noncomputable def zwy (elt:Expr) (acc:Value) (env:Env):Sem Unit:=do let _ <- call (.builtin "list.append") [acc,<-eval elt env]
theorem z0q {elt:Expr}{te:TE}{acc:Addr} (he:PE X elt te):PM X (zwy elt (.ref acc) X.env) (ztq acc te):=by
 intro pins s σ H N I h;unfold zwy;refine wpAny_bind (thn (he pins s σ H _ I h) fun yv s10 ⟨y,H10,I10,r10,ys,ha,hz,q10⟩=>?_);refine wpAny_bind (thn (ziy _ s10 σ H10 (.ref acc) [y] _ [yv] (fun _ H'=>N σ H') I10 rfl (.cons r10 .nil) ⟨_,ys,y,rfl,rfl,ha,hz,q10⟩) fun _ s11 ⟨_,H11,I11,_,q11⟩=>?_);exact wpAny_pure ⟨σ,H11,I11,q11⟩
end
theorem HOk.but {P:Program}{w:World}{H:Hp}{h h' : Heap}{a:Addr} (x:HOk P w H h) (hn:H a=none) (hs:Heap.SameBut a h h'):HOk P w H h':=fun b ob e=>by
 refine (x b ob e).stay (fun c w' hc q=>(hs.2 c ?_).trans q) (fun _ q=>q) fun _ _ q=>q;rintro rfl;rcases hc with rfl | hc
 ·rw [hn] at e;cases e
 ·rw [hn] at hc;cases hc
section
variable {X:Cx}
theorem zgs {elt tg iter:Expr}{ifs:List Expr}{gs:List Comprehension}{scope:Scope}{pos:Pos}{cl:List (Str × Addr)}{Nc:List Str}{cap:List (Option Nat)}{g:TG}{tc:TT}{em:Value->Env->Sem Unit}{tm:Addr->TM}{pins:List (Addr × Obj)}{σ:St}{H2:Hp}{s2:Shared}{it:Addr}{fp:List Addr}{tn:Nat->Heap->Prop}{J:It}{Q:VK}{RR:Value->Addr->Result->Shared->Prop}{E:Value->Shared->Prop}
  (hc:X.calm=true) (hk:scope.kind=.function) (hcap:zfv cap Nc X.N scope=true) (hfr:ze6 scope X.env.scope=true) (hnc:zed scope=true)
  (hturn:∀it acc env,compTurn (.ListComp elt (⟨tg,iter,ifs,0⟩ :: gs) scope pos) 0 it acc env=zm1 (.ListComp elt (⟨tg,iter,ifs,0⟩ :: gs) scope pos) 0 tg iter ifs (em acc env) it acc env)
  (hg:∀cl C s3 H3 fp,PG (za9 X Nc scope cl C s3 H3 fp) tg g) (ht:∀cl C s3 H3 fp,PTs (za9 X Nc scope cl C s3 H3 fp) ifs tc) (hm:∀cl C s3 H3 fp acc,PM (za9 X Nc scope cl C s3 H3 fp) (em (.ref acc) (za9 X Nc scope cl C s3 H3 fp).env) (tm acc))
  (c1:∀x c,cl.lookup x=some c->X.env.cells.lookup x=some c) (c2:∀x,(x,NameKind.free)∈scope.names->∃c,cl.lookup x=some c)
  (I2:Inv X pins σ H2 s2) (T:Turn X.prog X.w X.K tg J fp it tn) (st2:tn 0 s2.heap) (f2:∀b∈fp,FpOk X pins H2 b)
  (hW:∀acc,H2 acc=none->zlv J g tc (tm acc) (capSt cap σ) (upd H2 acc (.lst [])) fun _ Hc=>Q (.ref acc) Hc)
  (hR:∀acc C s' H',(∃m,s'.heap.Ns C m)->(∀h',Heap.SameBut C s'.heap h'->Inv X pins σ H' { s' with heap:=h' })->FpOk X pins H' C->Q (.ref acc) H'->RR (.ref acc) C (.ok .next) s') :
  wpAny (model X.prog X.w) X.A (newList []) (fun acc s₃=>wpAny (model X.prog X.w) X.A (newFunctionEnv scope X.env.globals cl [] X.env.qual none .none (some X.env)) (fun cenv s₄ =>
   codeAny (model X.prog X.w) X.A (.compStart (.ListComp elt (⟨tg,iter,ifs,0⟩ :: gs) scope pos) 0 (.ref it) acc { cenv with scope:=relabel scope X.env }) (RR acc cenv.locals) s₄) E s₃) E s2:=by
 refine wpAny_newObj_type (zhi fun h₁ hns₁ keep4 hcs=>?_);dsimp only at hns₁ keep4 hcs ⊢;have hacc:H2 s2.heap.objs.size=none:=I2.hok.fresh (Nat.le_refl _);have I3:Inv X pins σ (upd H2 s2.heap.objs.size (.lst [])) { s2 with heap:=s2.heap.push { cls:=.type "list",dict:=none,data:=.seq ([]:List Value).toArray },toks:=s2.toks } :=
  I2.laid (t':=s2.toks) (fun b u e=>Heap.get?_push_of_some _ e) (Nat.le_refl _) ⟨by simp,[],0,.nil,Heap.get?_push_size _ rfl⟩
 have hW':=hW s2.heap.objs.size hacc;generalize hH:s2.heap.push { cls:=.type "list",dict:=none,data:=.seq ([]:List Value).toArray }=hp at hns₁ keep4 hcs I3 ⊢;have f3:∀b∈fp,FpOk X pins (upd H2 s2.heap.objs.size (.lst [])) b:=fun b hb=>by
  obtain ⟨o,ho,_⟩:=T.obj _ _ st2 b hb;exact ⟨by rw [upd_ne (Nat.ne_of_lt (Heap.lt_size ho))];exact (f2 b hb).1,(f2 b hb).2⟩
 have up:∀b o,s2.heap.get? b=some o->hp.get? b=some o:=fun b o e=>hH ▸ Heap.get?_push_of_some _ e;have I4:=ztn (Nc:=Nc) (cap:=cap) (fp:=fp) (h4:=h₁) (tk:=s2.toks) I3 hk hcap hfr hnc c1 c2 f3 (fun b hb=>by
  obtain ⟨o,ho,_⟩:=T.obj _ _ st2 b hb;exact Heap.lt_size (up b o ho)) hns₁ keep4 hcs
 have st4:tn 0 h₁:=T.keep _ _ _ st2 fun b _ o e=>keep4 b o (up b o e);have loop:codeAny (model X.prog X.w) X.A (.compLoop (.ListComp elt (⟨tg,iter,ifs,0⟩ :: gs) scope pos) 0 (.ref it) (.ref s2.heap.objs.size) (compEnvC scope (cellsFrom (hp.objs.size+1) scope.names cl) hp.objs.size X.env)) (RR (.ref s2.heap.objs.size) hp.objs.size) { s2 with heap:=h₁,toks:=s2.toks }:=by
  refine zoa (X:=za9 X Nc scope (cellsFrom (hp.objs.size+1) scope.names cl) hp.objs.size { s2 with heap:=hp,toks:=s2.toks } (upd H2 s2.heap.objs.size (.lst [])) fp) (fun _ _ z=>z) hc (hturn _ _ _) (hg _ _ _ _ _) (ht _ _ _ _ _) (hm _ _ _ _ _ _) I4 T st4
   (fun b hb=>⟨(f3 b hb).1,(I4.ok.exf b hb).1,I4.ok.exfs b hb,.inl hb,(I4.ok.exf b hb).2,fun p hp'=>absurd (show p∈([]:List (Addr × Obj)) from hp') (by simp)⟩) hW' fun σ5 H5 s6 I6 qn=>?_
  obtain ⟨m6,hm6,_⟩:=I6.loc;have fC:H5 hp.objs.size=none:=I6.free;refine hR _ _ _ H5 ⟨m6,hm6⟩ (fun h' hsb=>?_) (I3.fpOk (Nat.le_refl _) fC) qn;refine I3.call' (s':={ s6 with heap:=h' }) (ch:=fp) I6.os ?_ (I6.hok.but fC hsb) I6.bare fun b hb=>⟨(f3 b hb).2.2.2.1,(f3 b hb).2.1,(f3 b hb).2.2.2.2.1,(f3 b hb).2.2.2.2.2⟩;have U:Un (frs X.stack) fp (upd H2 s2.heap.objs.size (.lst [])) H5 hp s6.heap:=I6.base;have nb:∀b o,hp.get? b=some o->b≠hp.objs.size:=fun b o e=>Nat.ne_of_lt (Heap.lt_size e);exact ⟨fun b o e n hb hx=>(hsb.2 b (nb b o e)).trans (U.keep b o e n hb hx),fun b o e n hb hx=>let ⟨sl,z⟩:=U.slot b o e n hb hx;⟨sl,(hsb.2 b (nb b o e)).trans z⟩,U.free,fun b o e hx=>let ⟨o',z⟩:=U.there b o e hx;⟨o',(hsb.2 b (nb b o e)).trans z⟩,U.tups,U.frzs,U.tbls⟩
 exact codeAny_compStart_list loop (T.self _ 0 _ _ _ st4 loop)
theorem zwp {elt tg iter:Expr}{ifs:List Expr}{gs:List Comprehension}{scope:Scope}{pos:Pos}{Nc:List Str}{cap:List (Option Nat)}{wi:TI}{g:TG}{tc:TT}{em:Value->Env->Sem Unit}{tm:Addr->TM} (hi:PI X tg iter wi)
  (hg:∀cl C s3 H3 fp,PG (za9 X Nc scope cl C s3 H3 fp) tg g) (ht:∀cl C s3 H3 fp,PTs (za9 X Nc scope cl C s3 H3 fp) ifs tc) (hm:∀cl C s3 H3 fp acc,PM (za9 X Nc scope cl C s3 H3 fp) (em (.ref acc) (za9 X Nc scope cl C s3 H3 fp).env) (tm acc))
  (hturn:∀it acc env,compTurn (.ListComp elt (⟨tg,iter,ifs,0⟩ :: gs) scope pos) 0 it acc env=zm1 (.ListComp elt (⟨tg,iter,ifs,0⟩ :: gs) scope pos) 0 tg iter ifs (em acc env) it acc env)
  (hc:X.calm=true:=by rfl) (hk:scope.kind=.function:=by rfl) (hcap:zfv cap Nc X.N scope=true:=by rfl) (hfr:ze6 scope X.env.scope=true:=by rfl) (hnc:zed scope=true:=by rfl)
  (hnm:(scope.names.all fun p=>!(p.2 == NameKind.local) || decide (scope.names.lookup p.1=some .local))=true:=by rfl)
  (hs:∀x,foldedSetIterable iter X.env x=pure x:=by intro _;rfl):PE X (.ListComp elt (⟨tg,iter,ifs,0⟩ :: gs) scope pos) (zq3 wi cap g tc tm):=by
 intro pins s σ H Q I h;rw [eval_ListComp];refine aG fun _ qG=>?_;obtain ⟨cl,hclos,c1,c2⟩:=zc6 (env:=X.env) (scope:=scope) fun x hx=>I.ok.has x (zde hfr hx);refine qG ?_;clear qG;have hnames:∀x∈scope.names,x.2=.local->scope.names.lookup x.1=some .local:=fun x hx e=>by
  have q:=List.all_eq_true.mp hnm _ hx;simpa [e] using q
 refine wpAny_comprehension_free (use:=none) rfl hs hclos hk hnames (thn (hi pins s σ H _ I h) fun v s1 h1=>thn h1 fun itv s2 h2=>?_);refine aG fun _ qG=>?_;obtain ⟨it,fp,tn,J,H2,e,I2,T,st2,f2,hW⟩:=h2;refine qG ?_;clear qG;subst e;refine zgs (RR:=fun acc C=>compPost (model X.prog X.w) X.A X.xe none (EP X pins σ Q) acc C) hc hk hcap hfr hnc hturn hg ht hm c1 c2 I2 T st2 f2 hW ?_;intro acc C s' H' ⟨m,hm⟩ hI hC q;exact ⟨m,hm,fun h' hsb=>⟨.ref acc,H',hI h' hsb,rfl,q⟩⟩
theorem zwh {y:Str}{py:Pos}{spos:Pos}{i:Nat}{elt tg iter:Expr}{ifs:List Expr}{gs:List Comprehension}{scope:Scope}{pos:Pos}{Nc:List Str}{cap:List (Option Nat)}{wi:TI}{g:TG}{tc:TT}{em:Value->Env->Sem Unit}{tm:Addr->TM} (hN:X.N.Nodup) (hiy:X.N[i]?=some y) (hy:Loc X.env.scope y) (hi:PI X tg iter wi)
  (hg:∀cl C s3 H3 fp,PG (za9 X Nc scope cl C s3 H3 fp) tg g) (ht:∀cl C s3 H3 fp,PTs (za9 X Nc scope cl C s3 H3 fp) ifs tc) (hm:∀cl C s3 H3 fp acc,PM (za9 X Nc scope cl C s3 H3 fp) (em (.ref acc) (za9 X Nc scope cl C s3 H3 fp).env) (tm acc))
  (hturn:∀it acc env,compTurn (.ListComp elt (⟨tg,iter,ifs,0⟩ :: gs) scope pos) 0 it acc env=zm1 (.ListComp elt (⟨tg,iter,ifs,0⟩ :: gs) scope pos) 0 tg iter ifs (em acc env) it acc env)
  (hsw:swapsWith (.ListComp elt (⟨tg,iter,ifs,0⟩ :: gs) scope pos) (some (.Name y py)) spos.line X.env=pure true:=by rfl)
  (hc:X.calm=true:=by rfl) (hk:scope.kind=.function:=by rfl) (hcap:zfv cap Nc X.N scope=true:=by rfl) (hfr:ze6 scope X.env.scope=true:=by rfl) (hnc:zed scope=true:=by rfl)
  (hnm:(scope.names.all fun p=>!(p.2 == NameKind.local) || decide (scope.names.lookup p.1=some .local))=true:=by rfl)
  (hs:∀x,foldedSetIterable iter X.env x=pure x:=by intro _;rfl) (hf:X.fn y=true\/X.env.scope.names.lookup y=some .local:=by first | exact .inl rfl | exact .inr rfl | assumption) :
  PS X (.Assign [.Name y py] (.ListComp elt (⟨tg,iter,ifs,0⟩ :: gs) scope pos) spos) (tAsg (zq3 wi cap g tc tm) (znk i)):=by
 intro pins s σ H D I h;refine aG fun _ qG=>?_;obtain ⟨cl,hclos,c1,c2⟩:=zc6 (env:=X.env) (scope:=scope) fun x hx=>I.ok.has x (zde hfr hx);refine qG ?_;clear qG;have hnames:∀x∈scope.names,x.2=.local->scope.names.lookup x.1=some .local:=fun x hx e=>by
  have q:=List.all_eq_true.mp hnm _ hx;simpa [e] using q
 rw [exec_Assign_Name_used _ _ _ _ hsw];refine wpAny_bind (wpAny_standAt (wpAny_bind ?_));show wpAny _ X.A (do let _ <- comprehension (.ListComp elt (⟨tg,iter,ifs,0⟩ :: gs) scope pos) scope X.env _ (newList []) false (eval iter X.env) (some (assign (.Name y py) X.env))) _ _ s;refine wpAny_bind (wpAny_mono (wpAny_comprehension_free (use:=some (assign (.Name y py) X.env)) (Q:=fun _ s'=>SP X pins D .next s') rfl hs hclos hk hnames
  (thn (hi pins s σ H _ I h) fun v s1 h1=>thn h1 fun itv s2 h2=>?_)) (fun _ s' hq=>wpAny_pure (wpAny_pure hq)) fun _ _ e=>e)
 refine aG fun _ qG=>?_;obtain ⟨it,fp,tn,J,H2,e,I2,T,st2,f2,hW⟩:=h2;refine qG ?_;clear qG;subst e;refine zgs (Q:=fun x H1=>D.nx (σ.set i (some x)) H1) (RR:=fun acc C=>compPost (model X.prog X.w) X.A X.xe (some (assign (.Name y py) X.env)) (fun _ s'=>SP X pins D .next s') acc C) hc hk hcap hfr hnc hturn hg ht hm c1 c2 I2 T st2 f2 hW ?_;intro acc C s' H' ⟨m,hm⟩ hI hC q;show wpAny _ X.A (assign (.Name y py) X.env (.ref acc)) _ _ _;have I' : Inv X pins σ H' s':=hI s'.heap (.refl ..);refine wpAny_assign_Name (zix I' hN hiy hy (v:=.ref acc) rfl (fun s'' I'' ⟨a,hsb,ha⟩=>?_) hf);have ne:C≠a:=by
  rcases ha with rfl | ha
  ·exact hC.2.1
  ·exact fun z=>hC.2.2.2.2.1 y a ha z.symm
 refine ⟨m,hm.sameBut hsb ne,fun h' hsb'=>⟨_,H',?_,q⟩⟩;exact I''.turned (t':=s''.toks) (fun b o hb e=>(hsb'.2 b hb).trans e) hC.1 hC.2.1 hC.2.2.2.1 hC.2.2.2.2.1 hC.2.2.2.2.2
end
end L2
namespace L2
open PySem PySem.Spec PyProof.Rows
section
variable {X:Cx}{pins:List (Addr × Obj)}{σ:St}{H:Hp}{s:Shared}
theorem Inv.turnLay {h' : Heap}{t' : Nat}{ch:List Addr}{T:Addr}{o:HO} (I:Inv X pins σ H s) (k:∀b o,b ∉ ch->s.heap.get? b=some o->h'.get? b=some o) (th:∀b∈ch,∃o',h'.get? b=some o') (hch:∀b∈ch,FpOk X pins H b) (hT:s.heap.objs.size<=T)
  (new:zb6 X.prog X.w (upd H T o) h' T o):Inv X pins σ (upd H T o) { s with heap:=h',toks:=t' }:=by
 have hn:H T=none:=I.hok.fresh hT;have ne:∀b u,s.heap.get? b=some u->b≠T:=fun b u e=>Nat.ne_of_lt (Nat.lt_of_lt_of_le (Heap.lt_size e) hT);have nch:∀b u,H b=some u->b ∉ ch:=fun b u e hb=>by rw [(hch b hb).1] at e;cases e
 refine I.step (g':=s.gens) (d':=s.drawn) (ch:=ch) (fun b hb=>⟨(hch b hb).2.2.2.1,(hch b hb).2.1,(hch b hb).2.2.2.2.1,(hch b hb).2.2.2.2.2⟩) (fun b o _ _ hc e _=>k b o hc e) (fun b o _ _ hc e _=>⟨o.slots,k b o hc e⟩) (fun b u _ e n=>by rw [upd_ne (ne b u e)];exact n)
  (fun b u hc e=>⟨u,k b u hc e⟩) (fun b xs e=>by rw [upd_ne (zad e hn)];exact e) (fun b u xs e=>by rw [upd_ne (zad e hn)];exact e) (fun b ps e=>⟨#[],by rw [upd_ne (zad e hn),e];simp⟩) (fun m hm=>?_) (fun b u e=>?_) I.bare
 ·obtain ⟨o, es, ep, ho, r⟩ := hm;exact ⟨o,es,ep,k _ o (fun z=>(hch _ z).2.1 rfl) ho,r⟩
 ·by_cases hb : b = T
  ·subst hb;rw [upd_same] at e;obtain rfl:=sI e;exact new
  ·rw [upd_ne hb] at e;refine (I.hok b u e).stay (fun c v hc q=>k c v ?_ q) (fun c q=>by rw [upd_ne (zad q hn)];exact q) fun c xs q=>by rw [upd_ne (zad q hn)];exact q
   rcases hc with z | z
   ·rw [z];exact nch b u e
   ·exact nch c _ z
theorem Inv.turnL {h' : Heap}{t' : Nat}{ch:List Addr} (I:Inv X pins σ H s) (k:∀b o,b ∉ ch->s.heap.get? b=some o->h'.get? b=some o) (hch:∀b∈ch,FpOk X pins H b):Inv X pins σ H { s with heap:=h',toks:=t' }:=by
 have nch:∀b u,H b=some u->b ∉ ch:=fun b u e hb=>by rw [(hch b hb).1] at e;cases e
 refine I.step (g':=s.gens) (d':=s.drawn) (ch:=ch) (fun b hb=>⟨(hch b hb).2.2.2.1,(hch b hb).2.1,(hch b hb).2.2.2.2.1,(hch b hb).2.2.2.2.2⟩) (fun b o _ _ hc e _=>k b o hc e) (fun b o _ _ hc e _=>⟨o.slots,k b o hc e⟩) (fun b u _ e n=>n)
  (fun b u hc e=>⟨u,k b u hc e⟩) (fun b xs e=>e) (fun b u xs e=>e) (fun b ps e=>⟨#[],by rw [e];simp⟩) (fun m hm=>?_) (fun b u e=>?_) I.bare
 ·obtain ⟨o, es, ep, ho, r⟩ := hm;exact ⟨o,es,ep,k _ o (fun z=>(hch _ z).2.1 rfl) ho,r⟩
 ·refine (I.hok b u e).stay (fun c v hc q => k c v ?_ q) (fun c q => q) fun c xs q => q;rcases hc with z | z
  ·rw [z];exact nch b u e
  ·exact nch c _ z
end
noncomputable def Ite (K:PySem.W.Frag) (a:Addr):It :=
 ⟨fun i H=>∃xs x,SqL K H a xs/\xs[i]?=some x,fun i H x H'=>∃p v,x=.ref p/\H p=none/\H'=upd H p (.tup [.int i,v])/\∀xs,SqL K H a xs->xs[i]?=some v,fun i H=>∃xs,SqL K H a xs/\xs.length<=i⟩
theorem zoh {P:Program}{w:World}{K:PySem.W.Frag}{es:List Expr}{x1}{px:Pos} (a e it:Addr) (hei:e≠it):Turn P w K (.Tuple es x1 px) (Ite K a) [e,it] e (fun i h=>(∃old,IsEnum h e it i old)/\h.IsListIter it a i) where
 mem:=by simp
 obj:=fun i h st b hb=>by
  refine aG fun _ qG=>?_;obtain ⟨⟨old,he⟩,o,hi,c,d⟩:=st;refine qG ?_;clear qG;rcases List.mem_cons.mp hb with rfl | hb
  ·exact ⟨_,he,fun v z=>by cases z⟩
  ·have : b = it := by simpa using hb
   subst this;exact ⟨o,hi,fun v z=>by rw [d] at z;cases z⟩
 keep:=fun i h h' st k=>⟨let ⟨old,he⟩:=st.1;⟨old,k e (by simp) _ he⟩,st.2.at fun o z=>k it (by simp) o z⟩
 item:=by
  intro X hP hw hK hc i pins s σ H E I hf st hg;subst hP hw hK;refine aG fun _ qG=>?_;obtain ⟨xs,x,hq,hx⟩:=hg;obtain ⟨its,rv,p,hz⟩:=I.list hq;obtain ⟨u,hu,ru⟩:=rv.get hx;obtain ⟨⟨old,he⟩,hit⟩:=st;refine qG ?_;clear qG;refine wpAny_pyNext_enum_item he hit p.isList (x:=u) (by simpa using hu) hei fun h' ho hit' hT hsz hk=>⟨_,rfl,?_⟩;refine wpAny_letOwnedTupleGo_enum ho fun h'' he'' hs''=>?_;have kk:∀b o,b ∉ [e,it]->s.heap.get? b=some o->h''.get? b=some o:=fun b o hb q=>by
   have h1:b≠e:=fun z=>hb (by simp [z]);have h2:b≠it:=fun z=>hb (by simp [z]);exact (hs''.2 b h1).trans (hk b o h1 h2 q)
  have hTe:s.heap.objs.size≠e:=fun z=>absurd (Heap.lt_size he) (by rw [z];exact Nat.lt_irrefl _);have hit'' : h''.IsListIter it a (i+1):=hit'.at fun o y=>(hs''.2 it hei.symm).trans y;refine ⟨.ref s.heap.objs.size,upd H s.heap.objs.size (.tup [.int i,x]),I.turnLay kk (fun b hb=>?_) hf (Nat.le_refl _) ⟨by show 2<=sizeLine;decide,[.int i s.toks,u],.cons ⟨_,rfl⟩ (.cons ru .nil),?_⟩,rfl,⟨_,x,rfl,I.hok.fresh (Nat.le_refl _),rfl,fun ys hy=>by rw [I.list_inj hy hq];exact hx⟩,⟨⟨_,by simpa using he''⟩,hit''⟩,fun b hb=>?_⟩
  ·rcases List.mem_cons.mp hb with rfl | hb
   ·exact ⟨_,he''⟩
   ·have : b = it := by simpa using hb
    subst this;obtain ⟨o,z,_⟩:=hit'';exact ⟨o,z⟩
  ·exact ⟨_,(hs''.2 _ hTe).trans hT,rfl,_,rfl⟩
  ·have:b≠s.heap.objs.size:=by
    rcases List.mem_cons.mp hb with rfl | hb
    ·exact hTe.symm
    ·have e2 : b = it := by simpa using hb
     subst e2;obtain ⟨o,z,_⟩:=hit;exact Nat.ne_of_lt (Heap.lt_size z)
   rw [upd_ne this];exact (hf b hb).1
 done:=by
  intro X hP hw hK hc i pins s σ H E I hf st hg;subst hP hw hK;refine aG fun _ qG=>?_;obtain ⟨xs,hq,hx⟩:=hg;obtain ⟨its,rv,p,hz⟩:=I.list hq;obtain ⟨⟨old,he⟩,hit⟩:=st;obtain ⟨f0,f1,f2,f3,f4,f5⟩:=hf it (by simp);refine qG ?_;clear qG;have hl:=rv.length;exact wpAny_pyNext_enum_end (I.ok.hd hc) he hit p.isList (Array.getElem?_eq_none (by simp;omega)) fun h' eb=>⟨rfl,I.turned (t':=s.toks) (fun b o hb e=>eb b o hb e) f0 f1 f3 f4 f5⟩
 self:=fun _ _ _ _ _ st h=>let ⟨_,he⟩:=st.1;wpAny_pyIter_enum he h
section
variable {X:Cx}
end
section
variable {X:Cx}{tg:Expr}
end
end L2
namespace L2
open PySem PySem.Spec PyProof.Rows
section
variable {κ:Type} [DecidableEq κ]
noncomputable def valV (kvs:List (κ × V)) (k:κ):Option V:=(kvs.find? fun kv=>decide (kv.1=k)).map (·.2)
theorem zuy {p:κ × V}{r:List (κ × V)}{k:κ} (e:p.1=k):valV (p::r) k=some p.2:=by simp [valV,List.find?_cons,e]
theorem zsx {p:κ × V}{r:List (κ × V)}{k:κ} (e:¬ p.1=k):valV (p::r) k=valV r k:=by simp [valV,List.find?_cons,e]
end
section
variable {P:Program}{w:World}{H:Hp}{h:Heap}{a:Addr}
end
noncomputable def DGet (H:Hp) (a:Addr) (y:V) (r:Option V):Prop :=
 (∃kvs k,Rd H a (.dK kvs)/\y=kV k/\r=valV kvs k)\/∃kvs k b,Rd H a (.dT kvs)/\y=.ref b/\H b=some (.tup (k.map kV))/\r=valV kvs k
section
variable {X:Cx}{pins:List (Addr × Obj)}{σ:St}{H:Hp}{s:Shared}{a:Addr}{y v:V}{u r:Value}{o:Option V}{A:Around}{E:Value->Shared->Prop}
end
section
variable {X:Cx}{pins:List (Addr × Obj)}{σ:St}{H:Hp}{s:Shared}{a:Addr}{kvs:List (Key × V)}{k:Key}{u:Value}{A:Around}{E:Value->Shared->Prop}
end
section
variable {X:Cx}{o i e value:Expr}{pos pos' tpos:Pos}{td ty tv:TE}
end
section
variable {X:Cx}{pos:Pos}
end
section
variable {X:Cx}{pins:List (Addr × Obj)}{σ:St}{H:Hp}{s:Shared}{a:Addr}{y d:V}{u r:Value}{o:Option V}{A:Around}{E:Value->Shared->Prop}
end
section
variable {X:Cx}{o e f:Expr}{apos cpos:Pos}{td ty tx:TE}
end
section
variable {X:Cx}{pins:List (Addr × Obj)}{σ:St}{H:Hp}{s:Shared}{a:Addr}{kvs:List (Key × V)}{A:Around}{E:Value->Shared->Prop}
end
section
variable {X:Cx}{pins:List (Addr × Obj)}{σ:St}{H:Hp}{s:Shared}{a:Addr}{y:V}{u:Value}{A:Around}{E:Value->Shared->Prop}
end
end L2
namespace L2
open PySem PySem.Spec PyProof.Rows
section
variable {X:Cx}
theorem z1j {bs:List Bool}{its:List Value}{i:Nat}{v:Value} (r:Vals (bs.map V.bl) its) (h:its[i]?=some v):∃b,bs[i]?=some b/\v=.bool b:=by
 have hl:=r.length;rw [List.length_map] at hl;have hi:i < bs.length:=by rw [hl];exact (List.getElem?_eq_some_iff.mp h).1
 obtain ⟨u,hu,ru⟩:=r.get (i:=i) (x:=.bl bs[i]) (by rw [List.getElem?_map,List.getElem?_eq_getElem hi];rfl);rw [h] at hu;obtain rfl:=sI hu;exact ⟨bs[i],List.getElem?_eq_getElem hi,ru⟩
theorem zhx {bs:List Bool}{i:Nat} (hi:i < bs.length):bs.getD i false=bs[i]:=by rw [List.getD_eq_getElem?_getD,List.getElem?_eq_getElem hi];rfl
theorem zq7 (bs:List Bool):((List.range bs.length).any fun i=>bs.getD i false)=bs.any id:=by
 rw [Bool.eq_iff_iff,List.any_eq_true,List.any_eq_true];constructor
 ·rintro ⟨i, hi, h⟩;rw [List.mem_range] at hi;refine ⟨bs[i],List.getElem_mem hi,?_⟩;rw [zhx hi] at h;exact h
 ·rintro ⟨b, hb, h⟩;obtain ⟨i,hi,e⟩:=List.mem_iff_getElem.mp hb;refine ⟨i,List.mem_range.mpr hi,?_⟩;rw [zhx hi,e];exact h
theorem zp4 (bs:List Bool):((List.range bs.length).all fun i=>bs.getD i false)=bs.all id:=by
 rw [Bool.eq_iff_iff,List.all_eq_true,List.all_eq_true];constructor
 ·intro h b hb;obtain ⟨i,hi,e⟩:=List.mem_iff_getElem.mp hb;have:=h i (List.mem_range.mpr hi);rw [zhx hi,e] at this;exact this
 ·intro h i hi;rw [List.mem_range] at hi;rw [zhx hi];exact h _ (List.getElem_mem hi)
theorem zmi {P:Program}{w:World}{A:Around}{bs:List Bool}{its:List Value} (r:Vals (bs.map V.bl) its):TruthOf P w A (fun i v=>its.toArray[i]?=some v) (fun i=>bs.getD i false):=fun i v s Q E hP hQ=>by
 obtain ⟨b,hb,e⟩:=z1j r (by simpa using hP);subst e;have:bs.getD i false=b:=by rw [List.getD_eq_getElem?_getD,hb];rfl
 have hQ' : Q (bs.getD i false) s:=hQ;rw [this] at hQ';exact wpAny_truthy_bool hQ'
theorem zty (hc:X.calm=true):zdu X (.builtin "any") (fun xs H Q=>∃(a:Addr) (bs:List Bool),xs=[.ref a]/\SqL X.K H a (bs.map V.bl)/\Q (.bl (bs.any id)) H):=by
 intro pins s σ H xs us Q I r h;obtain ⟨a,bs,rfl,hq,q⟩:=h;obtain ⟨u,rfl,rx⟩:=vals1 r;cases rx;obtain ⟨its,rv,p,hz⟩:=I.list hq;have hl:=rv.length;rw [List.length_map] at hl;have ha:a < s.heap.objs.size:=by obtain ⟨o,e,_⟩:=p.isList;exact Heap.lt_size e
 refine call_any_walk (wpAny_pyIter_list p.isList ?_);refine ⟨s.heap.objs.size,_,[s.heap.objs.size],its.toArray.size,_,_,_,rfl,Walks.list (A:=X.A.in1) (show X.A.in1.handled=none from I.ok.hd hc) _ a (Nat.ne_of_lt ha) its.toArray,⟨⟨_,Heap.get?_push_size _ rfl,rfl,rfl⟩,p.isList.push _⟩,zmi rv,fun h' tk hk=>?_⟩;have e:its.toArray.size=bs.length:=by simp;omega
 rw [e,zq7];refine ⟨.bl _,H,I.kept fun b o hb=>?_,rfl,q⟩;exact hk b o (by intro z;rw [List.mem_singleton] at z;subst z;exact absurd (Heap.lt_size hb) (Nat.lt_irrefl _)) (Heap.get?_push_of_some _ hb)
theorem zss (hc:X.calm=true):zdu X (.builtin "all") (fun xs H Q=>∃(a:Addr) (bs:List Bool),xs=[.ref a]/\SqL X.K H a (bs.map V.bl)/\Q (.bl (bs.all id)) H):=by
 intro pins s σ H xs us Q I r h;obtain ⟨a,bs,rfl,hq,q⟩:=h;obtain ⟨u,rfl,rx⟩:=vals1 r;cases rx;obtain ⟨its,rv,p,hz⟩:=I.list hq;have hl:=rv.length;rw [List.length_map] at hl;have ha:a < s.heap.objs.size:=by obtain ⟨o,e,_⟩:=p.isList;exact Heap.lt_size e
 refine call_all_walk (wpAny_pyIter_list p.isList ?_);refine ⟨s.heap.objs.size,_,[s.heap.objs.size],its.toArray.size,_,_,_,rfl,Walks.list (A:=X.A.in1) (show X.A.in1.handled=none from I.ok.hd hc) _ a (Nat.ne_of_lt ha) its.toArray,⟨⟨_,Heap.get?_push_size _ rfl,rfl,rfl⟩,p.isList.push _⟩,zmi rv,fun h' tk hk=>?_⟩;have e:its.toArray.size=bs.length:=by simp;omega
 rw [e,zp4];refine ⟨.bl _,H,I.kept fun b o hb=>?_,rfl,q⟩;exact hk b o (by intro z;rw [List.mem_singleton] at z;subst z;exact absurd (Heap.lt_size hb) (Nat.lt_irrefl _)) (Heap.get?_push_of_some _ hb)
theorem zsy:zdu X (.builtin "isinstance") (fun xs H Q=>∃x t c b,xs=[x,.ty c]/\TyOf X.K H x t/\PySem.W.kitOne X.K t (.type c)=some b/\Q (.bl b) H):=by
  intro pins s σ H xs us Q I r h;refine aG fun _ qG=>?_;obtain ⟨x,t,c,b,rfl,ty,e,q⟩:=h;refine qG ?_;clear qG;cases r with
  | cons rx rr =>
    obtain ⟨u,rfl,rc⟩:=vals1 rr;cases (show u=Value.type c from rc);exact zpq I rx ty e fun tk=>⟨.bl b,H,I.tok _,rfl,q⟩
theorem z2d:OpR X (compareOp .Is) (fun x y H Q=>∃b,y=.bl b/\Q (.bl (decide (x=.bl b))) H):=by
 intro pins s σ H x y v u Q I rx ry h;obtain ⟨b,rfl,q⟩:=h;cases ry;cases x with
 | bl c=>cases rx;exact wpAny_is_plain rfl (zac I q (by cases b<;>cases c<;>rfl))
 | non=>cases rx;exact wpAny_is_plain rfl (zac I q (by cases b<;>rfl))
 | ref _=>cases rx;exact wpAny_is_plain rfl (zac I q (by cases b<;>rfl))
 | ty _=>cases rx;exact wpAny_is_plain rfl (zac I q (by cases b<;>rfl))
 | int _=>obtain ⟨t,e⟩:=rx;subst e;exact wpAny_is_plain rfl (zac I q (by cases b<;>rfl))
 | str _=>obtain ⟨t,e⟩:=rx;subst e;exact wpAny_is_plain rfl (zac I q (by cases b<;>rfl))
 | byt _=>obtain ⟨t,e⟩:=rx;subst e;exact wpAny_is_plain rfl (zac I q (by cases b<;>rfl))
 | flt _=>obtain ⟨t,e⟩:=rx;subst e;exact wpAny_is_plain rfl (zac I q (by cases b<;>rfl))
theorem zp7:OpR X (compareOp .IsNot) (fun x y H Q=>∃b,y=.bl b/\Q (.bl (!decide (x=.bl b))) H):=by
 intro pins s σ H x y v u Q I rx ry h;obtain ⟨b,rfl,q⟩:=h;cases ry;cases x with
 | bl c=>cases rx;exact wpAny_isNot_plain rfl (zac I q (by cases b<;>cases c<;>rfl))
 | non=>cases rx;exact wpAny_isNot_plain rfl (zac I q (by cases b<;>rfl))
 | ref _=>cases rx;exact wpAny_isNot_plain rfl (zac I q (by cases b<;>rfl))
 | ty _=>cases rx;exact wpAny_isNot_plain rfl (zac I q (by cases b<;>rfl))
 | int _=>obtain ⟨t,e⟩:=rx;subst e;exact wpAny_isNot_plain rfl (zac I q (by cases b<;>rfl))
 | str _=>obtain ⟨t,e⟩:=rx;subst e;exact wpAny_isNot_plain rfl (zac I q (by cases b<;>rfl))
 | byt _=>obtain ⟨t,e⟩:=rx;subst e;exact wpAny_isNot_plain rfl (zac I q (by cases b<;>rfl))
 | flt _=>obtain ⟨t,e⟩:=rx;subst e;exact wpAny_isNot_plain rfl (zac I q (by cases b<;>rfl))
end
end L2
namespace L2
open PySem PySem.Spec PyProof.Rows
noncomputable def z1h (i j:Int):Prop:=Builtin.Int.intBits i<=2 ^ 20/\Builtin.Int.intBits j<=2 ^ 20
theorem zxi {X:Cx}:OpR X (binaryOp .Mult) (rI z1h fun i j=>.int (i * j)):=opI fun _ _ _ _ _ _ _ hc q=>mul_int q (IntMulOk.of_bits hc.1 hc.2)
structure Cal (P:Program) (w:World) (K:PySem.W.Frag) (mg:Str->Option Value) (base:Heap) (n:Nat) (x:Str) (ps:List Str) (sp:Sp):Prop where
 ex:∃f fd,FnOk P w K mg base CX0 n f fd ps sp/\zj3 K fd ps []/\PySem.W.keepIn K (.ref f)=true/\mg x=some (.ref f)
theorem z1q {X:Cx}{n k:Nat}{x:Str}{ps:List Str}{sp:Sp}{e:Expr}{es:List Expr}{t:TA}{p pos:Pos} (C:Cal X.prog X.w X.K X.mg X.base n x ps sp) (hr:Room k X.A) (hg:Gl X x) (ha:PA X (e::es) t) (hk:n<=k:=by decide)
  (hdb:(x == ("__debug__" : Str))=false:=by decide) (hs:starEach (e::es) X.env=(false,eval e X.env)::starEach es X.env:=by rfl) (hpl:(backTo pos (starEach es X.env)).any (·.1)=false:=by rfl) :
  PE X (.Call (.Name x p) (e::es) [] pos) (zy0 sp [] E0 t):=by
 refine aG fun _ qG=>?_;obtain ⟨f,fd,F,b,kp,m⟩:=C.ex;refine qG ?_;clear qG;exact zw4 F (hr.mono hk) hg m kp b .nil z45 ha hdb hs hpl
theorem Same.new {p:Addr}{H:Hp} (h:H p=none) (o:HO):Same H (L2.upd H p o):=fun b u e=>by rw [upd_ne (zad e h)];exact e
theorem SqL.of' {K:PySem.W.Frag}{H:Hp}{a:Addr}{xs:List V} (h:H a=some (.lst xs)):SqL K H a xs:=.inl (.inl h)
noncomputable def MM:Int:=2305843009213693951
noncomputable def big:Nat:=1099511627776
noncomputable def Bits (xs:List Int):Prop:=∀x∈xs,x=0\/x=1
noncomputable def zbm (xs:List Int):Int:=xs.foldr (fun b a=>2 * a+b) 0
theorem z2b:bootBuiltins "len" = some (.builtin "len"):=by decide +kernel
theorem z2k:bootBuiltins "abs" = some (.builtin "abs"):=by decide +kernel
theorem z17:bootBuiltins "any" = some (.builtin "any"):=by decide +kernel
theorem z0n:bootBuiltins "all" = some (.builtin "all"):=by decide +kernel
theorem z1r:bootBuiltins "sum" = some (.builtin "sum"):=by decide +kernel
theorem zg0:bootBuiltins "isinstance" = some (.builtin "isinstance"):=by decide +kernel
theorem zv2:bootBuiltins "int" = some (.type "int"):=by decide +kernel
theorem zzf:bootBuiltins "bool" = some (.type "bool"):=by decide +kernel
theorem z1v:bootBuiltins "str" = some (.type "str"):=by decide +kernel
theorem zmt:bootBuiltins "tuple" = some (.type "tuple"):=by decide +kernel
theorem zy3:bootBuiltins "list" = some (.type "list"):=by decide +kernel
end L2
namespace L2
open PySem PySem.Spec PyProof.Rows
theorem zu2 {w:Int}{i:Nat} (h0:0 < w) (h:w<=2 ^ (200 * i)):0 < w * 10 ^ 60/\w * 10 ^ 60<=2 ^ (200 * (i+1)):=by
 have e:(2:Int) ^ (200 * (i+1))=2 ^ (200 * i) * 2 ^ 200:=by rw [Nat.mul_add,Int.pow_add]
 rw [e];refine ⟨Int.mul_pos h0 (by decide),?_⟩;have h1:w * 10 ^ 60<=2 ^ (200 * i) * 10 ^ 60:=Int.mul_le_mul_of_nonneg_right h (by decide);have h2:(2:Int) ^ (200 * i) * 10 ^ 60<=2 ^ (200 * i) * 2 ^ 200:=Int.mul_le_mul_of_nonneg_left (by decide) (by omega);omega
theorem zhb {w:Int}{i:Nat} (h0:0<=w) (h:w<=2 ^ (200 * i)) (hi:i<=63):Builtin.Int.intBits w<=2 ^ 20:=by
 have h1:(2:Int) ^ (200 * i) < 2 ^ (200 * i+1):=by rw [Int.pow_succ];have:(0:Int) < 2 ^ (200 * i):=Int.pow_pos (by decide);omega
 have h2:w.natAbs < 2 ^ (200 * i+1):=by
  have:((w.natAbs:Nat):Int) < ((2 ^ (200 * i+1):Nat):Int):=by
   rw [Int.natCast_pow];have e:((w.natAbs:Nat):Int)=w:=by omega
   rw [e];exact Int.lt_of_le_of_lt h h1
  exact Int.ofNat_lt.mp this
 have:=PyProof.Rows.intBits_le h2;omega
theorem zfp:∀{xs:List Int},Bits xs->0<=zbm xs/\zbm xs < 2 ^ xs.length
  | [],_=>by decide
  | x::r,h=>by
    have hx:=h x List.mem_cons_self;have ih:=zfp (xs:=r) fun y hy=>h y (List.mem_cons_of_mem _ hy);show 0<=2 * zbm r+x/\2 * zbm r+x < 2 ^ (r.length+1);rw [Int.pow_succ];omega
end L2
namespace L2
open PySem PySem.Spec PyProof.Rows
noncomputable def zai:Expr->Bool
 | .Starred ..=>false
 | _=>true
theorem zaf {e:Expr}{es:List Expr}{env:Env} (h:zai e=true):starEach (e::es) env=(false,eval e env)::starEach es env:=by
 cases e<;>first | rfl | (cases h)
theorem pac {X:Cx}{e:Expr}{es:List Expr}{te:TE}{t:TA} (ha:PE X e te) (hr:PA X es t) (h:zai e=true:=by rfl):PA X (e::es) (zcr te t):=zxq ha hr (zaf h)
end L2
namespace L2
theorem noSome {α:Type}{a:α}{P:Prop} (h:none=some a):P:=by cases h
open PySem PySem.Spec PyProof.Rows
noncomputable abbrev DKey:=Key ⊕ List Key
inductive W where
 | non | bl (b:Bool) | int (i:Int) | str (x:Str) | tup (xs:List W) | lst (xs:List W) | frl (xs:List W) | dic | dct (ks:List DKey) (vs:List W)
 deriving BEq,Inhabited
mutual
inductive Rep (K:PySem.W.Frag) (F:Hp):W->V->Prop where
 | non:Rep K F .non .non
 | bl (b:Bool):Rep K F (.bl b) (.bl b)
 | int (i:Int):Rep K F (.int i) (.int i)
 | str (x:Str):Rep K F (.str x) (.str x)
 | tup {ws:List W}{a:Addr}{vs:List V} (h:F a=some (.tup vs)) (r:Reps K F ws vs):Rep K F (.tup ws) (.ref a)
 | lst {ws:List W}{a:Addr}{vs:List V} (h:F a=some (.lst vs)) (r:Reps K F ws vs):Rep K F (.lst ws) (.ref a)
 | frl {ws:List W}{a:Addr}{vs:List V} (h:SqL K F a vs) (r:Reps K F ws vs):Rep K F (.frl ws) (.ref a)
 | dic {a:Addr}{kvs:List (Key × V)} (h:F a=some (.dK kvs)):Rep K F .dic (.ref a)
 | dct {a:Addr}{ks:List Key}{ws:List W}{vs:List V} (h:F a=some (.dK (ks.zip vs))) (hl:ks.length=vs.length) (r:Reps K F ws vs):Rep K F (.dct (ks.map .inl) ws) (.ref a)
 | dctT {a:Addr}{ks:List (List Key)}{ws:List W}{vs:List V} (h:F a=some (.dT (ks.zip vs))) (hl:ks.length=vs.length) (r:Reps K F ws vs):Rep K F (.dct (ks.map .inr) ws) (.ref a)
inductive Reps (K:PySem.W.Frag) (F:Hp):List W->List V->Prop where
 | nil:Reps K F [] []
 | cons {w:W}{v:V}{ws:List W}{vs:List V} (h:Rep K F w v) (r:Reps K F ws vs):Reps K F (w::ws) (v::vs)
end
theorem zc5 {α:Type}{l:List α}{i j:Nat}{x y:α} (hi:i < l.length) (h:(l.set i x)[j]?=some y):(j=i/\y=x)\/(j≠i/\l[j]?=some y):=by
 by_cases e:j=i
 ·subst e;rw [List.getElem?_set_self hi] at h;exact .inl ⟨rfl,(sI h).symm⟩
 ·rw [List.getElem?_set_ne (Ne.symm e)] at h;exact .inr ⟨e,h⟩
theorem zl6 {α:Type}{l:List α}{i:Nat}{x:α} (h:l[i]?=some x):l.set i x=l:=by
 apply List.ext_getElem?;intro j;by_cases e:j=i
 ·subst e;rw [List.getElem?_set_self (List.getElem?_eq_some_iff.mp h).1,h]
 ·rw [List.getElem?_set_ne (Ne.symm e)]
section
variable {K:PySem.W.Frag}{F F' H H' : Hp}
mutual
theorem Rep.mono (s:Same F F'):∀{w:W}{v:V},Rep K F w v->Rep K F' w v
 | _,_,.non=>.non
 | _,_,.bl b=>.bl b
 | _,_,.int i=>.int i
 | _,_,.str x=>.str x
 | _,_,.tup h r=>.tup (s _ _ h) (Reps.mono s r)
 | _,_,.lst h r=>.lst (s _ _ h) (Reps.mono s r)
 | _,_,.frl h r=>.frl (s.seq h) (Reps.mono s r)
 | _,_,.dic h=>.dic (s _ _ h)
 | _,_,.dct h hl r=>.dct (s _ _ h) hl (Reps.mono s r)
 | _,_,.dctT h hl r=>.dctT (s _ _ h) hl (Reps.mono s r)
theorem Reps.mono (s:Same F F'):∀{ws:List W}{vs:List V},Reps K F ws vs->Reps K F' ws vs
 | _,_,.nil=>.nil
 | _,_,.cons h r=>.cons (Rep.mono s h) (Reps.mono s r)
end
theorem Reps.length:∀{ws:List W}{vs:List V},Reps K F ws vs->ws.length=vs.length
 | _,_,.nil=>rfl
 | _,_,.cons _ r=>congrArg (· + 1) (Reps.length r)
theorem Reps.get:∀{ws:List W}{vs:List V}{i:Nat}{w:W},Reps K F ws vs->ws[i]?=some w->∃v,vs[i]?=some v/\Rep K F w v
  | _,_,_,_,.nil,e=>by simp at e
  | _,_,0,_,.cons h _,e=>by simp at e;subst e;exact ⟨_,rfl,h⟩
  | _,_,i+1,w,.cons _ r,e=>by
    obtain ⟨v,h1,h2⟩:=Reps.get (i:=i) (w:=w) r (by simpa using e);exact ⟨v,by simpa using h1,h2⟩
theorem Reps.getV:∀{ws:List W}{vs:List V}{i:Nat}{v:V},Reps K F ws vs->vs[i]?=some v->∃w,ws[i]?=some w/\Rep K F w v
  | _,_,_,_,.nil,e=>by simp at e
  | _,_,0,_,.cons h _,e=>by simp at e;subst e;exact ⟨_,rfl,h⟩
  | _,_,i+1,v,.cons _ r,e=>by
    obtain ⟨w,h1,h2⟩:=Reps.getV (i:=i) (v:=v) r (by simpa using e);exact ⟨w,by simpa using h1,h2⟩
theorem Reps.append:∀{xs ys:List W}{us ws:List V},Reps K F xs us->Reps K F ys ws->Reps K F (xs++ys) (us++ws)
 | _,_,_,_,.nil,s=>s
 | _,_,_,_,.cons h r,s=>.cons h (Reps.append r s)
theorem Reps.take:∀{xs:List W}{us:List V} (n:Nat),Reps K F xs us->Reps K F (xs.take n) (us.take n)
 | _,_,0,_=>.nil
 | _,_,_+1,.nil=>.nil
 | _,_,n+1,.cons h r=>.cons h (Reps.take n r)
theorem Reps.drop:∀{xs:List W}{us:List V} (n:Nat),Reps K F xs us->Reps K F (xs.drop n) (us.drop n)
 | _,_,0,r=>r
 | _,_,_+1,.nil=>.nil
 | _,_,n+1,.cons _ r=>Reps.drop n r
theorem Reps.set {w:W}{v:V} (h:Rep K F w v):∀{xs:List W}{us:List V} (i:Nat),Reps K F xs us->Reps K F (xs.set i w) (us.set i v)
 | _,_,_,.nil=>.nil
 | _,_,0,.cons _ r=>.cons h r
 | _,_,i+1,.cons q r=>.cons q (Reps.set h i r)
theorem Reps.reverse:∀{xs:List W}{us:List V},Reps K F xs us->Reps K F xs.reverse us.reverse
 | _,_,.nil=>.nil
 | _,_,.cons h r=>by rw [List.reverse_cons,List.reverse_cons];exact (Reps.reverse r).append (.cons h .nil)
theorem Reps.rep {xs:List W}{us:List V} (r:Reps K F xs us):∀k:Nat,Reps K F (List.replicate k xs).flatten (List.replicate k us).flatten
 | 0=>.nil
 | k+1=>by rw [List.replicate_succ,List.replicate_succ,List.flatten_cons,List.flatten_cons];exact r.append (r.rep k)
noncomputable def isIt:W->V->Prop
 | .int i,v=>v=.int i
 | .bl b,v=>v=.bl b
 | _,_=>True
theorem Rep.isIt {w:W}{v:V} (h:Rep K F w v):isIt w v:=by cases h<;>first | rfl | trivial
theorem Reps.uncons {w:W}{ws:List W}{vs:List V} (h:Reps K F (w::ws) vs):∃v us,vs=v::us/\Rep K F w v/\Reps K F ws us:=by
 cases h with
 | cons h r=>exact ⟨_,_,rfl,h,r⟩
theorem Reps.ints:∀{ns:List Int}{vs:List V},Reps K F (ns.map W.int) vs->vs=ns.map V.int:=by
  intro ns
  induction ns with
  | nil=>intro vs h;cases h;rfl
  | cons n ns ih =>
    intro vs h;obtain ⟨v,us,e,h1,h2⟩:=Reps.uncons h;rw [e,ih h2,show v=.int n from h1.isIt];rfl
theorem Reps.ofInts:∀(ns:List Int),Reps K F (ns.map W.int) (ns.map V.int)
 | []=>.nil
 | n::ns=>.cons (.int n) (Reps.ofInts ns)
theorem Reps.bls:∀{bs:List Bool}{vs:List V},Reps K F (bs.map W.bl) vs->vs=bs.map V.bl:=by
  intro ns
  induction ns with
  | nil=>intro vs h;cases h;rfl
  | cons n ns ih =>
    intro vs h;obtain ⟨v,us,e,h1,h2⟩:=Reps.uncons h;rw [e,ih h2,show v=.bl n from h1.isIt];rfl
noncomputable abbrev En:=List (Option (W × Bool))
noncomputable abbrev Prt:=Addr->HO->Prop
inductive OwnR (K:PySem.W.Frag) (F:Hp):W->HO->Prop where
 | lst {ws:List W}{vs:List V} (r:Reps K F ws vs):OwnR K F (.lst ws) (.lst vs)
 | dct {ks:List Key}{ws:List W}{vs:List V} (hl:ks.length=vs.length) (r:Reps K F ws vs):OwnR K F (.dct (ks.map .inl) ws) (.dK (ks.zip vs))
 | dctT {ks:List (List Key)}{ws:List W}{vs:List V} (hl:ks.length=vs.length) (r:Reps K F ws vs):OwnR K F (.dct (ks.map .inr) ws) (.dT (ks.zip vs))
theorem OwnR.mono {w:W}{o:HO} (s:Same F F') (h:OwnR K F w o):OwnR K F' w o:=by
 cases h with
 | lst r=>exact .lst (r.mono s)
 | dct hl r=>exact .dct hl (r.mono s)
 | dctT hl r=>exact .dctT hl (r.mono s)
theorem OwnR.rep {w:W}{o:HO}{a:Addr} (h:OwnR K F w o) (e:F a=some o):Rep K F w (.ref a):=by
 cases h with
 | lst r=>exact .lst e r
 | dct hl r=>exact .dct e hl r
 | dctT hl r=>exact .dctT e hl r
theorem OwnR.list {ws:List W}{o:HO} (h:OwnR K F (.lst ws) o):∃vs,o=.lst vs/\Reps K F ws vs:=by
 cases h with
 | lst r=>exact ⟨_,rfl,r⟩
noncomputable def lams:List Str:=["_law_terms","_law_in_order","_law_poly_of","voted_terms","law"]
noncomputable def lamQ (x:Str):Str:=x++".<locals>."++"<lambda>"
noncomputable def zx1 (c:Addr) (q:Str) (h:Heap):Prop:=∃oc vs t,h.get? c=some oc/\oc.data=.fields vs/\vs[1]?=some (.str q t)
noncomputable def zwk (K:PySem.W.Frag):Prop:=∀x∈lams,∀x'∈lams,∀c c' P,PySem.W.tabIn K x=some (c,P)->PySem.W.tabIn K x'=some (c',P)->x=x'
noncomputable def znf (K:PySem.W.Frag) (F:Hp) (pr:Prt) (H:Hp):Prop:=zwk K/\∀x∈lams,∀c P,PySem.W.tabIn K x=some (c,P)->∃ps:Array Value,H P=some (.tbl ps)/\F P=none/\(∀o,¬ pr P o)/\TriplesOk ps.toList /\
 ∀pos cv,codeAmong pos ps.toList=some cv->∃c',cv=.ref c'/\F c'=some (.ext (zx1 c' (lamQ x)))
theorem znf.go {F F' H H' : Hp}{pr pr' : Prt} (T:znf K F pr H) (h1:∀b ps,H b=some (.tbl ps)->F b=none->H' b=some (.tbl ps)/\F' b=none) (h2:Same F F') (h3:∀b ps,H b=some (.tbl ps)->(∀o,¬ pr b o)->∀o,¬ pr' b o):znf K F' pr' H':=⟨T.1,fun x hx c P e=>by
 refine aG fun _ qG=>?_;obtain ⟨ps,a1,a2,a3,a4,a5⟩:=T.2 x hx c P e;refine qG ?_;clear qG;refine ⟨ps,(h1 P ps a1 a2).1,(h1 P ps a1 a2).2,h3 P ps a1 a3,a4,fun pos cv q=>?_⟩;obtain ⟨c',b1,b2⟩:=a5 pos cv q;exact ⟨c',b1,h2 _ _ b2⟩⟩
structure Rel (K:PySem.W.Frag) (F:Hp) (pr:Prt) (en:En) (σ:St) (H:Hp):Prop where
 len:en.length=σ.length
 sub:Same F H
 val:∀(i:Nat) (w:W),en[i]?=some (some (w,false))->∃v,σ[i]?=some (some v)/\Rep K F w v
 own:∀(i:Nat) (w:W),en[i]?=some (some (w,true))->∃(a:Addr) (o:HO) (w' : W),w=w'/\σ[i]?=some (some (V.ref a))/\H a=some o/\F a=none/\OwnR K F w' o
 inj:∀(i j:Nat) (a:Addr) (w w' : W),en[i]?=some (some (w,true))->en[j]?=some (some (w',true))->σ[i]?=some (some (V.ref a))->σ[j]?=some (some (V.ref a))->i=j
 prt:∀b o,pr b o->H b=some o/\F b=none/\∀(i:Nat) (w:W),en[i]?=some (some (w,true))->σ[i]?≠some (some (V.ref b))
 tb:znf K F pr H
noncomputable def Res (K:PySem.W.Frag) (F H:Hp) (pr:Prt) (en:En) (σ:St):W × Bool->V->Prop
 | (w,false),v=>Rep K F w v
 | (w,true),v=>∃(a:Addr) (o:HO) (w' : W),w=w'/\v=V.ref a/\H a=some o/\F a=none/\OwnR K F w' o/\(∀(i:Nat) (w' : W),en[i]?=some (some (w',true))->σ[i]?≠some (some (V.ref a)))/\∀b o,pr b o->b≠a
noncomputable def RepB (K:PySem.W.Frag) (F H:Hp) (w:W) (v:V):Prop:=Rep K F w v\/∃(a:Addr) (o:HO) (w' : W),w=w'/\v=V.ref a/\H a=some o/\OwnR K F w' o
inductive Out (K:PySem.W.Frag) (F H:Hp):W × Bool->V->Hp->Prop where
 | val {w:W}{v:V} (r:Rep K F w v):Out K F H (w,false) v H
 | lst {p:Addr}{ws:List W}{vs:List V} (n:H p=none) (r:Reps K F ws vs):Out K F H (.lst ws,true) (.ref p) (upd H p (.lst vs))
 | tup {p:Addr}{ws:List W}{vs:List V} (n:H p=none) (r:Reps K F ws vs):Out K F H (.tup ws,false) (.ref p) (upd H p (.tup vs))
theorem Same.upd_both {F H:Hp} (s:Same F H) (p:Addr) (o:HO):Same (upd F p o) (upd H p o):=fun b u e=>by
 by_cases hb:b=p
 ·subst hb;rw [upd_same] at e ⊢;exact e
 ·rw [upd_ne hb] at e ⊢;exact s _ _ e
variable {pr:Prt}{en:En}{σ:St}
theorem Rel.lay (R:Rel K F pr en σ H) {p:Addr} (hp:H p=none) (o:HO):Rel K F pr en σ (upd H p o):=by
 have ne:∀a u,H a=some u->a≠p:=fun a u e=>zad e hp;refine ⟨R.len,R.sub.trans (Same.new hp o),R.val,fun i w e=>?_,R.inj,fun q o2 hq=>?_,R.tb.go (fun b ps e f=>⟨by rw [upd_ne (ne b _ e)];exact e,f⟩) (.refl F) fun b ps e h=>h⟩
 ·refine aG fun Gg qG => ?_;obtain ⟨a,vs,ws,h1,h2,h3,h4,h5⟩:=R.own i w e;refine qG ?_;clear qG;exact ⟨a,vs,ws,h1,h2,by rw [upd_ne (ne a _ h3)];exact h3,h4,h5⟩
 ·obtain ⟨h1, h2, h3⟩ := R.prt q o2 hq;exact ⟨by rw [upd_ne (ne _ _ h1)];exact h1,h2,h3⟩
theorem Rel.layF (R:Rel K F pr en σ H) {p:Addr} (hp:H p=none) (o:HO):Rel K (upd F p o) pr en σ (upd H p o):=by
 have ne:∀a u,H a=some u->a≠p:=fun a u e=>zad e hp;have fp:F p=none:=R.sub.free hp;have s:Same F (upd F p o):=Same.new fp o;refine ⟨R.len,R.sub.upd_both p o,fun i w e=>?_,fun i w e=>?_,R.inj,fun q o2 hq=>?_,R.tb.go (fun b ps e f=>⟨by rw [upd_ne (ne b _ e)];exact e,by rw [upd_ne (ne b _ e)];exact f⟩) s fun b ps e h=>h⟩
 ·obtain ⟨v, h1, h2⟩ := R.val i w e;exact ⟨v,h1,h2.mono s⟩
 ·refine aG fun Gg qG => ?_;obtain ⟨a,vs,ws,h1,h2,h3,h4,h5⟩:=R.own i w e;refine qG ?_;clear qG;exact ⟨a,vs,ws,h1,h2,by rw [upd_ne (ne a _ h3)];exact h3,by rw [upd_ne (ne a _ h3)];exact h4,h5.mono s⟩
 ·obtain ⟨h1, h2, h3⟩ := R.prt q o2 hq;exact ⟨by rw [upd_ne (ne _ _ h1)];exact h1,by rw [upd_ne (ne _ _ h1)];exact h2,h3⟩
theorem Out.close {r:W × Bool}{v:V} (R:Rel K F pr en σ H) (o:Out K F H r v H'):∃F',Same F F'/\Rel K F' pr en σ H'/\Res K F' H' pr en σ r v:=by
  cases o with
  | val r=>exact ⟨F,.refl F,R,r⟩
  | @lst p ws vs n r =>
    refine ⟨F,.refl F,R.lay n _,p,_,_,rfl,rfl,upd_same,R.sub.free n,.lst r,fun i w' e z=>?_,fun q o2 hq z=>?_⟩
    · obtain ⟨a, vs, ws, h1, h2, h3, h4, h5⟩ := R.own i w' e
      rw [h2] at z;cases z;rw [n] at h3;exact noSome h3
    · have := (R.prt q o2 hq).1
      rw [z,n] at this;exact noSome this
  | @tup p ws vs n r=>exact ⟨upd F p (.tup vs),Same.new (R.sub.free n) _,R.layF n _,.tup upd_same (r.mono (Same.new (R.sub.free n) _))⟩
theorem Out.mono {r:W × Bool}{v:V} (s:Same F F') (o:Out K F H r v H'):Out K F' H r v H':=by
 cases o with
 | val r=>exact .val (r.mono s)
 | lst n r=>exact .lst n (r.mono s)
 | tup n r=>exact .tup n (r.mono s)
theorem Res.freeze {r:W × Bool}{v:V} (R:Rel K F pr en σ H) (h:Res K F H pr en σ r v):∃F',Same F F'/\Rel K F' pr en σ H/\Rep K F' r.1 v:=by
  obtain ⟨w,b⟩:=r;cases b with
  | false=>exact ⟨F,.refl F,R,h⟩
  | true =>
    refine aG fun _ qG=>?_;obtain ⟨a,vs,ws,rfl,rfl,h1,h2,h3,h4,h5⟩:=h;refine qG ?_;clear qG;have s:Same F (upd F a vs):=Same.new h2 _;have nt:∀ps,vs≠.tbl ps:=fun ps z=>by cases h3<;>cases z
    refine ⟨upd F a vs,s,⟨R.len,fun b u e=>?_,fun i w e=>?_,fun i w e=>?_,R.inj,fun q o2 hq=>?_,R.tb.go (fun b ps e f=>⟨e,by rw [upd_ne (fun z=>by subst z;rw [h1] at e;exact nt ps (sI e))];exact f⟩) s fun b ps e h=>h⟩,(h3.mono s).rep upd_same⟩
    · by_cases hb : b = a
      · subst hb;rw [upd_same] at e;obtain rfl:=sI e;exact h1
      · rw [upd_ne hb] at e;exact R.sub _ _ e
    · obtain ⟨v, q1, q2⟩ := R.val i w e
      exact ⟨v,q1,q2.mono s⟩
    · refine aG fun Gg qG => ?_
      obtain ⟨a',vs',ws',q1,q2,q3,q4,q5⟩:=R.own i w e;refine qG ?_;clear qG;have ne:a'≠a:=fun z=>by subst z;exact h4 i w e q2
      exact ⟨a',vs',ws',q1,q2,q3,by rw [upd_ne ne];exact q4,q5.mono s⟩
    · obtain ⟨q1, q2, q3⟩ := R.prt q o2 hq
      exact ⟨q1,by rw [upd_ne (h5 q o2 hq)];exact q2,q3⟩
theorem Rel.freeze (R:Rel K F pr en σ H) {i:Nat}{w:W}{v:V}{fl:Bool} (e:en[i]?=some (some (w,fl))) (hv:σ[i]?=some (some v)):∃F',Same F F'/\Rel K F' pr (en.set i (some (w,false))) σ H/\Rep K F' w v:=by
  have hi:i < en.length:=(List.getElem?_eq_some_iff.mp e).1;cases fl with
  | false =>
    obtain ⟨v',h1,h2⟩:=R.val i w e;rw [hv] at h1;cases h1;refine ⟨F,.refl F,?_,h2⟩;rw [zl6 e];exact R
  | true =>
    refine aG fun _ qG=>?_;obtain ⟨a,vs,ws,e0,h2,h3,h4,h5⟩:=R.own i w e;refine qG ?_;clear qG;subst e0;rw [hv] at h2;cases h2;have s:Same F (upd F a vs):=Same.new h4 _;have nt:∀ps,vs≠.tbl ps:=fun ps z=>by cases h5<;>cases z
    have g:∀j w' b,(en.set i (some (w,false)))[j]?=some (some (w',b))->(j=i/\w'=w/\b=false)\/(j≠i/\en[j]?=some (some (w',b))):=fun j w' b h=>by
      rcases zc5 hi h with ⟨z,q⟩ | z
      · cases q;exact .inl ⟨z,rfl,rfl⟩
      · exact .inr z
    refine ⟨upd F a vs,s,⟨by rw [List.length_set];exact R.len,fun b u e'=>?_,fun j w' e'=>?_,fun j w' e'=>?_,fun j k b w1 w2 e1 e2=>?_,fun q o2 hq=>?_,R.tb.go (fun b ps e f=>⟨e,by rw [upd_ne (fun z=>by subst z;rw [h3] at e;exact nt ps (sI e))];exact f⟩) s fun b ps e h=>h⟩,(h5.mono s).rep upd_same⟩
    · by_cases hb : b = a
      · subst hb;rw [upd_same] at e';obtain rfl:=sI e';exact h3
      · rw [upd_ne hb] at e';exact R.sub _ _ e'
    · rcases g j w' false e' with ⟨rfl, rfl, _⟩ | ⟨_, z⟩
      · exact ⟨_,hv,(h5.mono s).rep upd_same⟩
      · obtain ⟨v', q1, q2⟩ := R.val j w' z
        exact ⟨v',q1,q2.mono s⟩
    · rcases g j w' true e' with ⟨_, _, z⟩ | ⟨ne, z⟩
      · cases z
      · refine aG fun Gg qG => ?_
        obtain ⟨a',vs',ws',q1,q2,q3,q4,q5⟩:=R.own j w' z;refine qG ?_;clear qG;have ne2:a'≠a:=fun q=>by subst q;exact ne (R.inj j i a' _ _ z e q2 hv)
        exact ⟨a',vs',ws',q1,q2,q3,by rw [upd_ne ne2];exact q4,q5.mono s⟩
    · rcases g j w1 true e1 with ⟨_, _, z⟩ | ⟨_, z1⟩
      · cases z
      · rcases g k w2 true e2 with ⟨_, _, z⟩ | ⟨_, z2⟩
        · cases z
        · exact R.inj j k b _ _ z1 z2
    · obtain ⟨q1, q2, q3⟩ := R.prt q o2 hq
      have ne:q≠a:=fun z=>by
        have:=q3 i _ e;rw [hv,z] at this;exact this rfl
      refine ⟨q1,by rw [upd_ne ne];exact q2,fun j w' e'=>?_⟩;rcases g j w' true e' with ⟨_,_,z⟩ | ⟨_,z⟩
      · cases z
      · exact q3 j w' z
theorem Rel.repB (R:Rel K F pr en σ H) {i:Nat}{w:W}{fl:Bool}{v:V} (e:en[i]?=some (some (w,fl))) (hv:σ[i]?=some (some v)):RepB K F H w v:=by
  cases fl with
  | false =>
    obtain ⟨v',h1,h2⟩:=R.val i w e;rw [hv] at h1;cases h1;exact .inl h2
  | true =>
    refine aG fun _ qG=>?_;obtain ⟨a,o,ws,h1,h2,h3,h4,h5⟩:=R.own i w e;refine qG ?_;clear qG;rw [hv] at h2;cases h2;exact .inr ⟨a,o,ws,h1,rfl,h3,h5⟩
theorem Rel.has (R:Rel K F pr en σ H) {i:Nat}{w:W}{fl:Bool} (e:en[i]?=some (some (w,fl))):∃v,σ[i]?=some (some v):=by
 cases fl with
 | false=>obtain ⟨v,h,_⟩:=R.val i w e;exact ⟨v,h⟩
 | true=>obtain ⟨a,_,_,_,h,_⟩:=R.own i w e;exact ⟨_,h⟩
theorem Rel.store (R:Rel K F pr en σ H) {i:Nat}{r:W × Bool}{v:V} (h:Res K F H pr en σ r v) (hi:i < en.length):Rel K F pr (en.set i (some r)) (σ.set i (some v)) H:=by
 have hi' : i < σ.length:=by rw [<-R.len];exact hi
 have g:∀j x,(en.set i (some r))[j]?=some (some x)->(j=i/\x=r)\/(j≠i/\en[j]?=some (some x)):=fun j x h=>by
  rcases zc5 hi h with ⟨z,q⟩ | z
  ·obtain rfl:=sI q;exact .inl ⟨z,rfl⟩
  ·exact .inr z
 have s1:(σ.set i (some v))[i]?=some (some v):=List.getElem?_set_self hi';have s2:∀j,j≠i->(σ.set i (some v))[j]?=σ[j]?:=fun j hj=>List.getElem?_set_ne (Ne.symm hj);refine ⟨by rw [List.length_set,List.length_set];exact R.len,R.sub,fun j w e=>?_,fun j w e=>?_,fun j k a w1 w2 e1 e2=>?_,fun q o2 hq=>?_,R.tb⟩
 ·rcases g j _ e with ⟨rfl, z⟩ | ⟨hj, z⟩
  ·subst z;exact ⟨v,s1,h⟩
  ·rw [s2 j hj];exact R.val j w z
 ·rcases g j _ e with ⟨rfl, z⟩ | ⟨hj, z⟩
  ·subst z;obtain ⟨a,vs,ws,h1,h2,h3,h4,h5,_⟩:=h;exact ⟨a,vs,ws,h1,by rw [s1,h2],h3,h4,h5⟩
  ·rw [s2 j hj];exact R.own j w z
 ·intro q1 q2;rcases g j _ e1 with ⟨rfl,z1⟩ | ⟨hj,z1⟩
  ·rcases g k _ e2 with ⟨rfl, z2⟩ | ⟨hk, z2⟩
   ·rfl
   ·subst z1;obtain ⟨a',vs,ws,h1,h2,h3,h4,h5,h6,_⟩:=h;rw [s1,h2] at q1;cases q1;rw [s2 k hk] at q2;exact absurd q2 (h6 k _ z2)
  ·rcases g k _ e2 with ⟨rfl, z2⟩ | ⟨hk, z2⟩
   ·subst z2;obtain ⟨a',vs,ws,h1,h2,h3,h4,h5,h6,_⟩:=h;rw [s1,h2] at q2;cases q2;rw [s2 j hj] at q1;exact absurd q1 (h6 j _ z1)
   ·rw [s2 j hj] at q1; rw [s2 k hk] at q2;exact R.inj j k a _ _ z1 z2 q1 q2
 ·obtain ⟨q1, q2, q3⟩ := R.prt q o2 hq;refine ⟨q1,q2,fun j w e=>?_⟩;rcases g j _ e with ⟨rfl,z⟩ | ⟨hj,z⟩
  ·subst z;obtain ⟨a',vs,ws,h1,h2,h3,h4,h5,h6,h7⟩:=h;rw [s1,h2];intro q';cases q';exact h7 q o2 hq rfl
  ·rw [s2 j hj];exact q3 j w z
theorem Rel.changeO (R:Rel K F pr en σ H) {i:Nat}{w w0:W}{a:Addr}{o0:HO} (e:en[i]?=some (some (w,true))) (hv:σ[i]?=some (some (.ref a))) (r:OwnR K F w0 o0):Rel K F pr (en.set i (some (w0,true))) σ (upd H a o0):=by
 have hi:i < en.length:=(List.getElem?_eq_some_iff.mp e).1;refine aG fun _ qG=>?_;obtain ⟨a0,vs,ws,h1,h2,h3,h4,h5⟩:=R.own i w e;refine qG ?_;clear qG;rw [hv] at h2;cases h2;have nt:∀ps,vs≠.tbl ps:=fun ps z=>by cases h5<;>cases z
 have nx:∀φ,vs≠.ext φ:=fun ps z=>by cases h5<;>cases z
 have g:∀j x,(en.set i (some (w0,true)))[j]?=some (some x)->(j=i/\x=(w0,true))\/(j≠i/\en[j]?=some (some x)):=fun j x h=>by
  rcases zc5 hi h with ⟨z,q⟩ | z
  ·obtain rfl:=sI q;exact .inl ⟨z,rfl⟩
  ·exact .inr z
 refine ⟨by rw [List.length_set];exact R.len,fun b u hb=>?_,fun j w' e'=>?_,fun j w' e'=>?_,fun j k b w1 w2 e1 e2 q1 q2=>?_,fun q o2 hq=>?_,R.tb.go (fun b ps e f=>⟨by rw [upd_ne (fun z=>by subst z;rw [h3] at e;exact nt ps (sI e))];exact e,f⟩) (.refl F) fun b ps e h=>h⟩
 ·have : b ≠ a := fun z => by subst z; rw [h4] at hb; cases hb
  rw [upd_ne this];exact R.sub _ _ hb
 ·rcases g j _ e' with ⟨_, z⟩ | ⟨_, z⟩
  ·cases z
  ·exact R.val j w' z
 ·rcases g j _ e' with ⟨rfl, z⟩ | ⟨hj, z⟩
  ·cases z;exact ⟨a,o0,w0,rfl,hv,upd_same,h4,r⟩
  ·refine aG fun Gg qG => ?_;obtain ⟨a',vs2,ws2,q1,q2,q3,q4,q5⟩:=R.own j w' z;refine qG ?_;clear qG;have ne:a'≠a:=fun z'=>by subst z';exact hj (R.inj j i a' _ _ z e q2 hv)
   exact ⟨a',vs2,ws2,q1,q2,by rw [upd_ne ne];exact q3,q4,q5⟩
 ·have z1:∃w0,en[j]?=some (some (w0,true)):=by
   rcases g j _ e1 with ⟨rfl,_⟩ | ⟨_,z⟩
   ·exact ⟨_,e⟩
   ·exact ⟨_,z⟩
  have z2:∃w0,en[k]?=some (some (w0,true)):=by
   rcases g k _ e2 with ⟨rfl,_⟩ | ⟨_,z⟩
   ·exact ⟨_,e⟩
   ·exact ⟨_,z⟩
  obtain ⟨_,z1⟩:=z1;obtain ⟨_,z2⟩:=z2;exact R.inj j k b _ _ z1 z2 q1 q2
 ·obtain ⟨q1, q2, q3⟩ := R.prt q o2 hq;have ne:q≠a:=fun z=>by
   have:=q3 i _ e;rw [hv,z] at this;exact this rfl
  refine ⟨by rw [upd_ne ne];exact q1,q2,fun j w' e'=>?_⟩;rcases g j _ e' with ⟨rfl,_⟩ | ⟨_,z⟩
  ·exact q3 j _ e
  ·exact q3 j w' z
theorem Rel.change (R:Rel K F pr en σ H) {i:Nat}{w:W}{a:Addr}{ws' : List W}{vs' : List V} (e:en[i]?=some (some (w,true))) (hv:σ[i]?=some (some (.ref a))) (r:Reps K F ws' vs'):Rel K F pr (en.set i (some (.lst ws',true))) σ (upd H a (.lst vs')):=R.changeO e hv (.lst r)
theorem Rel.ownL (R:Rel K F pr en σ H) {i:Nat}{ws:List W} (e:en[i]?=some (some (.lst ws,true))):∃(a:Addr) (vs:List V) (ws' : List W),W.lst ws=.lst ws'/\σ[i]?=some (some (V.ref a))/\H a=some (.lst vs)/\F a=none/\Reps K F ws' vs:=by
 refine aG fun _ qG=>?_;obtain ⟨a,o,w',e1,h2,h3,h4,h5⟩:=R.own i _ e;refine qG ?_;clear qG;subst e1;obtain ⟨vs,rfl,r⟩:=h5.list;exact ⟨a,vs,ws,rfl,h2,h3,h4,r⟩
end
end L2
namespace L2
open PySem PySem.Spec PyProof.Rows
noncomputable abbrev GE:=En->Option (En × (W × Bool))
noncomputable abbrev GA:=En->Option (En × (W ⊕ Nat))
noncomputable abbrev GT:=En->Option (En × Bool)
noncomputable abbrev GAs:=En->Option (En × List (W ⊕ Nat))
noncomputable abbrev GL:=En->Option (En × List W)
noncomputable def ArgR (K:PySem.W.Frag) (F:Hp) (σ:St):W ⊕ Nat->V->Prop
 | .inl w,v=>Rep K F w v
 | .inr i,v=>σ[i]?=some (some v)
inductive ArgRs (K:PySem.W.Frag) (F:Hp) (σ:St):List (W ⊕ Nat)->List V->Prop where
 | nil:ArgRs K F σ [] []
 | cons {x:W ⊕ Nat}{v:V}{xs:List (W ⊕ Nat)}{vs:List V} (h:ArgR K F σ x v) (r:ArgRs K F σ xs vs):ArgRs K F σ (x::xs) (v::vs)
noncomputable def resA (en:En):W ⊕ Nat->Option W
  | .inl w=>some w
  | .inr i=>match en[i]? with
    | some (some (w,_))=>some w
    | _=>none
section
variable {K:PySem.W.Frag}{F F' H:Hp}{pr:Prt}{en:En}{σ:St}
theorem ArgR.mono (s:Same F F') {x:W ⊕ Nat}{v:V} (h:ArgR K F σ x v):ArgR K F' σ x v:=by
 cases x with
 | inl w=>exact Rep.mono s h
 | inr i=>exact h
theorem ArgRs.mono (s:Same F F'):∀{xs:List (W ⊕ Nat)}{vs:List V},ArgRs K F σ xs vs->ArgRs K F' σ xs vs
 | _,_,.nil=>.nil
 | _,_,.cons h r=>.cons (h.mono s) (ArgRs.mono s r)
theorem ArgR.repB (R:Rel K F pr en σ H) {x:W ⊕ Nat}{v:V}{w:W} (h:ArgR K F σ x v) (e:resA en x=some w):RepB K F H w v:=by
  cases x with
  | inl u=>obtain rfl:=sI e;exact .inl h
  | inr i =>
    unfold resA at e;cases q:en[i]? with
    | none=>simp only [q] at e;exact noSome e
    | some o =>
      cases o with
      | none=>simp only [q] at e;exact noSome e
      | some p =>
        obtain ⟨u,fl⟩:=p;simp only [q] at e;obtain rfl:=sI e;exact R.repB q h
end
noncomputable def tE (K:PySem.W.Frag) (g:GE):TE:=fun σ H Q=>∃F pr en en' r,Rel K F pr en σ H/\g en=some (en',r)/\∀F' H' v,Same F F'->Rel K F' pr en' σ H'->Res K F' H' pr en' σ r v->Q v H'
noncomputable def tA (K:PySem.W.Frag) (g:GA):TE:=fun σ H Q=>∃F pr en en' x,Rel K F pr en σ H/\g en=some (en',x)/\∀F' H' v,Same F F'->Rel K F' pr en' σ H'->ArgR K F' σ x v->Q v H'
noncomputable def tT (K:PySem.W.Frag) (g:GT):TT:=fun σ H Q=>∃F pr en en' b,Rel K F pr en σ H/\g en=some (en',b)/\∀F' H',Same F F'->Rel K F' pr en' σ H'->Q b H'
noncomputable def tAs (K:PySem.W.Frag) (g:GAs):TA:=fun σ H Q=>∃F pr en en' xs,Rel K F pr en σ H/\g en=some (en',xs)/\∀F' H' vs,Same F F'->Rel K F' pr en' σ H'->ArgRs K F' σ xs vs->Q vs H'
theorem PE.wk {X:Cx}{e:Expr}{t t' : TE} (h:PE X e t) (i:∀σ H Q,t' σ H Q->t σ H Q):PE X e t':=fun pins s σ H Q I q=>h pins s σ H Q I (i σ H Q q)
theorem PT.wk {X:Cx}{e:Expr}{t t' : TT} (h:PT X e t) (i:∀σ H Q,t' σ H Q->t σ H Q):PT X e t':=fun pins s σ H Q I q=>h pins s σ H Q I (i σ H Q q)
theorem PW.wk {X:Cx}{e:Expr}{t t' : TT} (h:PW X e t) (i:∀σ H Q,t' σ H Q->t σ H Q):PW X e t':=fun wh pins s σ H Q I q=>h wh pins s σ H Q I (i σ H Q q)
theorem PA.wk {X:Cx}{es:List Expr}{t t' : TA} (h:PA X es t) (i:∀σ H Q,t' σ H Q->t σ H Q):PA X es t':=fun pos pins s σ H Q I q=>h pos pins s σ H Q I (i σ H Q q)
theorem PS.wk {X:Cx}{st:Stmt}{t t' : TS} (h:PS X st t) (i:∀D σ H,t' D σ H->t D σ H):PS X st t':=fun pins s σ H D I q=>h pins s σ H D I (i D σ H q)
theorem PSs.wk {X:Cx}{st:List Stmt}{t t' : TS} (h:PSs X st t) (i:∀D σ H,t' D σ H->t D σ H):PSs X st t':=fun pins s σ H D I q=>h pins s σ H D I (i D σ H q)
theorem PI.wk {X:Cx}{tg e:Expr}{t t' : TI} (h:PI X tg e t) (i:∀σ H R,t' σ H R->t σ H R):PI X tg e t':=fun pins s σ H R I q=>h pins s σ H R I (i σ H R q)
theorem PG.wk {X:Cx}{tg:Expr}{t t' : TG} (h:PG X tg t) (i:∀v σ H Q,t' v σ H Q->t v σ H Q):PG X tg t':=fun pins s σ H v u Q I r q=>h pins s σ H v u Q I r (i v σ H Q q)
noncomputable def gVar (i:Nat):GE:=fun en=>match en[i]? with
 | some (some (w,_))=>some (en.set i (some (w,false)),(w,false))
 | _=>none
noncomputable def zaa (i:Nat):GA:=fun en=>match en[i]? with
 | some (some (w,true))=>some (en,.inr i)
 | some (some (w,false))=>some (en,.inl w)
 | _=>none
noncomputable def gC (w:W):GE:=fun en=>some (en,(w,false))
noncomputable def gArg (g:GE):GA:=fun en=>(g en).bind fun p=>some (p.1,.inl p.2.1)
noncomputable def gA0:GAs:=fun en=>some (en,[])
noncomputable def gCns (a:GA) (as:GAs):GAs:=fun en=>(a en).bind fun p=>(as p.1).bind fun q=>some (q.1,p.2::q.2)
noncomputable def gOp1 (o:W->Option (W × Bool)) (a:GA):GE:=fun en=>(a en).bind fun p=>(resA p.1 p.2).bind fun w=>(o w).bind fun r=>some (p.1,r)
noncomputable def gOp2 (o:W->W->Option (W × Bool)) (a b:GA):GE:=fun en=>(a en).bind fun p=>(b p.1).bind fun q=>(resA q.1 p.2).bind fun w=>(resA q.1 q.2).bind fun u=>(o w u).bind fun r=>some (q.1,r)
noncomputable def zas (en:En):List (W ⊕ Nat)->Option (List W)
 | []=>some []
 | x::xs=>(resA en x).bind fun w=>(zas en xs).bind fun ws=>some (w::ws)
noncomputable def gOpN (o:List W->Option (W × Bool)) (as:GAs):GE:=fun en=>(as en).bind fun p=>(zas p.1 p.2).bind fun ws=>(o ws).bind fun r=>some (p.1,r)
noncomputable def zal (g:GE):GT:=fun en=>match g en with
 | some (en',(.bl b,_))=>some (en',b)
 | _=>none
noncomputable def gAnd (a b:GE):GE:=fun en=>match a en with
 | some (en',(.bl true,_))=>b en'
 | some (en',(.bl false,_))=>some (en',(.bl false,false))
 | _=>none
noncomputable def gOr (a b:GE):GE:=fun en=>match a en with
 | some (en',(.bl true,_))=>some (en',(.bl true,false))
 | some (en',(.bl false,_))=>b en'
 | _=>none
noncomputable def gNot (a:GE):GE:=fun en=>match a en with
 | some (en',(.bl b,_))=>some (en',(.bl (!b),false))
 | _=>none
noncomputable def zga (a b:GT):GT:=fun en=>match a en with
 | some (en',true)=>b en'
 | some (en',false)=>some (en',false)
 | none=>none
noncomputable def gOrT (a b:GT):GT:=fun en=>match a en with
 | some (en',true)=>some (en',true)
 | some (en',false)=>b en'
 | none=>none
noncomputable def zec (a:GT):GT:=fun en=>match a en with
 | some (en',b)=>some (en',!b)
 | none=>none
noncomputable def gIf (c:GT) (a b:GE):GE:=fun en=>match c en with
 | some (en',true)=>a en'
 | some (en',false)=>b en'
 | none=>none
section
variable {K:PySem.W.Frag}{σ:St}{H:Hp}
theorem ztb {i:Nat}{Q:VK} (h:tE K (gVar i) σ H Q):tVar i σ H Q:=by
  obtain ⟨F,pr,en,en',r,R,h,q⟩:=h;unfold gVar at h;cases e:en[i]? with
  | none=>simp only [e] at h;exact noSome h
  | some o =>
    cases o with
    | none=>simp only [e] at h;exact noSome h
    | some p =>
      obtain ⟨w,fl⟩:=p;simp only [e] at h;cases h;obtain ⟨v,hv⟩:=R.has e;obtain ⟨F',s,R',z⟩:=R.freeze e hv;exact ⟨v,hv,q F' H v s R' z⟩
theorem zpi {i:Nat}{Q:VK} (h:tA K (zaa i) σ H Q):tVar i σ H Q:=by
  obtain ⟨F,pr,en,en',r,R,h,q⟩:=h;unfold zaa at h;cases e:en[i]? with
  | none=>simp only [e] at h;exact noSome h
  | some o =>
    cases o with
    | none=>simp only [e] at h;exact noSome h
    | some p =>
      obtain ⟨w,fl⟩:=p;cases fl with
      | true =>
        simp only [e] at h;cases h;obtain ⟨v,hv⟩:=R.has e;exact ⟨v,hv,q F H v (.refl F) R hv⟩
      | false =>
        simp only [e] at h;cases h;obtain ⟨v,hv,z⟩:=R.val i w e;exact ⟨v,hv,q F H v (.refl F) R z⟩
theorem zdk {w:W}{v:V}{Q:VK} (hr:∀F,Rep K F w v) (h:tE K (gC w) σ H Q):tC v σ H Q:=by
 obtain ⟨F,pr,en,en',r,R,h,q⟩:=h;cases h;exact q F H v (.refl F) R (hr F)
theorem zhj {g:GE}{Q:VK} (h:tA K (gArg g) σ H Q):tE K g σ H Q:=by
 obtain ⟨F,pr,en,en',x,R,h,q⟩:=h;obtain ⟨⟨e1,r⟩,h1,h⟩:=bS h;cases h;refine ⟨F,pr,en,e1,r,R,h1,fun F1 H1 v s1 R1 z=>?_⟩;obtain ⟨F2,s2,R2,y⟩:=z.freeze R1;exact q F2 H1 v (s1.trans s2) R2 y
theorem zlw {Q:List V->Hp->Prop} (h:tAs K gA0 σ H Q):tNil σ H Q:=by
 obtain ⟨F,pr,en,en',x,R,h,q⟩:=h;cases h;exact q F H [] (.refl F) R .nil
theorem zms {a:GA}{as:GAs}{Q:List V->Hp->Prop} (h:tAs K (gCns a as) σ H Q):tA K a σ H fun x H1=>tAs K as σ H1 fun xs H2=>Q (x::xs) H2:=by
 refine aG fun _ qG=>?_;obtain ⟨F,pr,en,en',x,R,h,q⟩:=h;obtain ⟨⟨e1,y⟩,h1,h⟩:=bS h;obtain ⟨⟨e2,ys⟩,h2,h⟩:=bS h;refine qG ?_;clear qG;cases h;exact ⟨F,pr,en,e1,y,R,h1,fun F1 H1 v s1 R1 a1=>⟨F1,pr,e1,e2,ys,R1,h2,fun F2 H2 vs s2 R2 a2=>q F2 H2 (v::vs) (s1.trans s2) R2 (.cons (a1.mono s2) a2)⟩⟩
noncomputable def OpS (K:PySem.W.Frag) (r:R2) (o:W->W->Option (W × Bool)):Prop:=∀F H w1 w2 v1 v2 rv Q,Same F H->RepB K F H w1 v1->RepB K F H w2 v2->o w1 w2=some rv->(∀v H',Out K F H rv v H'->Q v H')->r v1 v2 H Q
theorem zer {r:R2}{o:W->W->Option (W × Bool)}{a b:GA}{Q:VK} (ho:OpS K r o) (h:tE K (gOp2 o a b) σ H Q):tOp r (tA K a) (tA K b) σ H Q:=by
 refine aG fun _ qG=>?_;obtain ⟨F,pr,en,en',rv,R,h,q⟩:=h;obtain ⟨⟨e1,x1⟩,h1,h⟩:=bS h;obtain ⟨⟨e2,x2⟩,h2,h⟩:=bS h;obtain ⟨w1,hw1,h⟩:=bS h;obtain ⟨w2,hw2,h⟩:=bS h;obtain ⟨r',hr,h⟩:=bS h;refine qG ?_;clear qG;cases h;refine ⟨F,pr,en,e1,x1,R,h1,fun F1 H1 v1 s1 R1 a1=>⟨F1,pr,e1,e2,x2,R1,h2,fun F2 H2 v2 s2 R2 a2=>?_⟩⟩;refine ho F2 H2 w1 w2 v1 v2 rv Q R2.sub ((a1.mono s2).repB R2 hw1) (a2.repB R2 hw2) hr fun v H' z=>?_;refine aG fun _ qG=>?_;obtain ⟨F3,s3,R3,y⟩:=z.close R2;refine qG ?_;clear qG;exact q F3 H' v (s1.trans (s2.trans s3)) R3 y
noncomputable def OpS1 (K:PySem.W.Frag) (r:V->Hp->VK->Prop) (o:W->Option (W × Bool)):Prop:=∀F H w v rv Q,Same F H->RepB K F H w v->o w=some rv->(∀u H',Out K F H rv u H'->Q u H')->r v H Q
theorem zs1 {r:V->Hp->VK->Prop}{o:W->Option (W × Bool)}{a:GA}{Q:VK} (ho:OpS1 K r o) (h:tE K (gOp1 o a) σ H Q):tUn r (tA K a) σ H Q:=by
 refine aG fun _ qG=>?_;obtain ⟨F,pr,en,en',rv,R,h,q⟩:=h;obtain ⟨⟨e1,x1⟩,h1,h⟩:=bS h;obtain ⟨w1,hw1,h⟩:=bS h;obtain ⟨r',hr,h⟩:=bS h;refine qG ?_;clear qG;cases h;refine ⟨F,pr,en,e1,x1,R,h1,fun F1 H1 v1 s1 R1 a1=>?_⟩;refine ho F1 H1 w1 v1 rv Q R1.sub (a1.repB R1 hw1) hr fun v H' z=>?_;refine aG fun _ qG=>?_;obtain ⟨F3,s3,R3,y⟩:=z.close R1;refine qG ?_;clear qG;exact q F3 H' v (s1.trans s3) R3 y
inductive RepBs (K:PySem.W.Frag) (F H:Hp):List W->List V->Prop where
 | nil:RepBs K F H [] []
 | cons {w:W}{v:V}{ws:List W}{vs:List V} (h:RepB K F H w v) (r:RepBs K F H ws vs):RepBs K F H (w::ws) (v::vs)
theorem ArgRs.repBs {F:Hp}{pr:Prt}{en:En} (R:Rel K F pr en σ H):∀{xs:List (W ⊕ Nat)}{vs:List V}{ws:List W},ArgRs K F σ xs vs->zas en xs=some ws->RepBs K F H ws vs
  | _,_,_,.nil,e=>by obtain rfl:=sI e;exact .nil
  | _,_,_,.cons h r,e=>by
    obtain ⟨w,hw,e⟩:=bS e;obtain ⟨ws,hws,e⟩:=bS e;obtain rfl:=sI e;exact .cons (h.repB R hw) (ArgRs.repBs R r hws)
noncomputable def OpSN (K:PySem.W.Frag) (r:List V->Hp->VK->Prop) (o:List W->Option (W × Bool)):Prop:=∀F H ws vs rv Q,Same F H->RepBs K F H ws vs->o ws=some rv->(∀u H',Out K F H rv u H'->Q u H')->r vs H Q
theorem ztt {r:List V->Hp->VK->Prop}{o:List W->Option (W × Bool)}{as:GAs}{Q:VK} (ho:OpSN K r o) (h:tE K (gOpN o as) σ H Q):tCB r (tAs K as) σ H Q:=by
 refine aG fun _ qG=>?_;obtain ⟨F,pr,en,en',rv,R,h,q⟩:=h;obtain ⟨⟨e1,x1⟩,h1,h⟩:=bS h;obtain ⟨w1,hw1,h⟩:=bS h;obtain ⟨r',hr,h⟩:=bS h;refine qG ?_;clear qG;cases h;refine ⟨F,pr,en,e1,x1,R,h1,fun F1 H1 v1 s1 R1 a1=>?_⟩;refine ho F1 H1 w1 v1 rv Q R1.sub (a1.repBs R1 hw1) hr fun v H' z=>?_;refine aG fun _ qG=>?_;obtain ⟨F3,s3,R3,y⟩:=z.close R1;refine qG ?_;clear qG;exact q F3 H' v (s1.trans s3) R3 y
theorem Res.isBl {F H:Hp}{pr:Prt}{en:En}{σ:St}{b fl:Bool}{v:V} (h:Res K F H pr en σ (.bl b,fl) v):v=.bl b:=by
 cases fl with
 | false=>cases (show Rep K F (.bl b) v from h);rfl
 | true=>obtain ⟨_,_,_,e,_,_,_,q,_⟩:=h;subst e;cases q
theorem ze3 {g:GE}{t:TE}{Q:Bool->Hp->Prop} (ht:∀σ H Q,tE K g σ H Q->t σ H Q) (h:tT K (zal g) σ H Q):zyf t σ H Q:=by
  obtain ⟨F,pr,en,en',b,R,h,q⟩:=h;unfold zal at h;refine ht σ H _ ?_;cases e:g en with
  | none=>simp only [e] at h;exact noSome h
  | some p =>
    obtain ⟨e1,w,fl⟩:=p;cases w with
    | bl c=>simp only [e] at h;cases h;exact ⟨F,pr,en,_,_,R,e,fun F' H' v s' R' z=>⟨b,z.isBl,q F' H' s' R'⟩⟩
    | _=>simp only [e] at h;exact noSome h
theorem zt5 {a b:GE}{Q:VK} (h:tE K (gAnd a b) σ H Q):z1w (tE K a) (tE K b) σ H Q:=by
  refine aG fun _ qG=>?_;obtain ⟨F,pr,en,en',r,R,h,q⟩:=h;refine qG ?_;clear qG;unfold gAnd at h;cases e:a en with
  | none=>simp only [e] at h;exact noSome h
  | some p =>
    obtain ⟨e1,w,fl⟩:=p;cases w with
    | bl c =>
      refine ⟨F,pr,en,_,_,R,e,fun F1 H1 v s1 R1 z=>⟨c,z.isBl,?_⟩⟩;cases c with
      | true =>
        simp only [e] at h;exact iteT ⟨F1,pr,e1,en',r,R1,h,fun F2 H2 v s2 R2 z2=>q F2 H2 v (s1.trans s2) R2 z2⟩
      | false =>
        simp only [e] at h;cases h;exact iteF (q F1 H1 _ s1 R1 (.bl false))
    | _=>simp only [e] at h;exact noSome h
theorem zsr {a:GE}{Q:VK} (h:tE K (gNot a) σ H Q):z12 (tE K a) σ H Q:=by
  obtain ⟨F,pr,en,en',r,R,h,q⟩:=h;unfold gNot at h;cases e:a en with
  | none=>simp only [e] at h;exact noSome h
  | some p =>
    obtain ⟨e1,w,fl⟩:=p;cases w with
    | bl c =>
      simp only [e] at h;cases h;exact ⟨F,pr,en,_,_,R,e,fun F1 H1 v s1 R1 z=>⟨c,z.isBl,q F1 H1 _ s1 R1 (.bl _)⟩⟩
    | _=>simp only [e] at h;exact noSome h
theorem zoe {a b:GT}{Q:Bool->Hp->Prop} (h:tT K (zga a b) σ H Q):tAnd (tT K a) (tT K b) σ H Q:=by
  refine aG fun _ qG=>?_;obtain ⟨F,pr,en,en',r,R,h,q⟩:=h;refine qG ?_;clear qG;unfold zga at h;cases e:a en with
  | none=>simp only [e] at h;exact noSome h
  | some p =>
    obtain ⟨e1,c⟩:=p;refine ⟨F,pr,en,_,_,R,e,fun F1 H1 s1 R1=>?_⟩;cases c with
    | true=>simp only [e] at h;exact iteT ⟨F1,pr,e1,en',r,R1,h,fun F2 H2 s2 R2=>q F2 H2 (s1.trans s2) R2⟩
    | false=>simp only [e] at h;cases h;exact iteF (q F1 H1 s1 R1)
theorem zsp {a b:GT}{Q:Bool->Hp->Prop} (h:tT K (gOrT a b) σ H Q):tOr (tT K a) (tT K b) σ H Q:=by
  refine aG fun _ qG=>?_;obtain ⟨F,pr,en,en',r,R,h,q⟩:=h;refine qG ?_;clear qG;unfold gOrT at h;cases e:a en with
  | none=>simp only [e] at h;exact noSome h
  | some p =>
    obtain ⟨e1,c⟩:=p;refine ⟨F,pr,en,_,_,R,e,fun F1 H1 s1 R1=>?_⟩;cases c with
    | false=>simp only [e] at h;exact iteF ⟨F1,pr,e1,en',r,R1,h,fun F2 H2 s2 R2=>q F2 H2 (s1.trans s2) R2⟩
    | true=>simp only [e] at h;cases h;exact iteT (q F1 H1 s1 R1)
theorem zrm {a:GT}{Q:Bool->Hp->Prop} (h:tT K (zec a) σ H Q):tNot (tT K a) σ H Q:=by
  obtain ⟨F,pr,en,en',r,R,h,q⟩:=h;unfold zec at h;cases e:a en with
  | none=>simp only [e] at h;exact noSome h
  | some p =>
    obtain ⟨e1,c⟩:=p;simp only [e] at h;cases h;exact ⟨F,pr,en,_,_,R,e,fun F1 H1 s1 R1=>q F1 H1 s1 R1⟩
theorem zyv {c:GT}{a b:GE}{Q:VK} (h:tE K (gIf c a b) σ H Q):tIf (tT K c) (tE K a) (tE K b) σ H Q:=by
  refine aG fun _ qG=>?_;obtain ⟨F,pr,en,en',r,R,h,q⟩:=h;refine qG ?_;clear qG;unfold gIf at h;cases e:c en with
  | none=>simp only [e] at h;exact noSome h
  | some p =>
    obtain ⟨e1,d⟩:=p;refine ⟨F,pr,en,_,_,R,e,fun F1 H1 s1 R1=>?_⟩;cases d with
    | true=>simp only [e] at h;exact iteT ⟨F1,pr,e1,en',r,R1,h,fun F2 H2 v s2 R2 z=>q F2 H2 v (s1.trans s2) R2 z⟩
    | false=>simp only [e] at h;exact iteF ⟨F1,pr,e1,en',r,R1,h,fun F2 H2 v s2 R2 z=>q F2 H2 v (s1.trans s2) R2 z⟩
end
noncomputable def za3:List (W ⊕ Nat)->Option (List W)
 | []=>some []
 | .inl w::xs=>(za3 xs).bind fun ws=>some (w::ws)
 | .inr _::_=>none
theorem ArgRs.reps {K:PySem.W.Frag}{F:Hp}{σ:St}:∀{xs:List (W ⊕ Nat)}{vs:List V}{ws:List W},ArgRs K F σ xs vs->za3 xs=some ws->Reps K F ws vs
  | _,_,_,.nil,e=>by obtain rfl:=sI e;exact .nil
  | .inl w::xs,_,_,.cons h r,e=>by
    obtain ⟨ws,hws,e⟩:=bS (show (za3 xs).bind _=_ from e);obtain rfl:=sI e;exact .cons h (ArgRs.reps r hws)
  | .inr i::xs,_,_,.cons h r,e=>by exact noSome e
noncomputable def zba (as:GAs):GE:=fun en=>(as en).bind fun p=>(za3 p.2).bind fun ws=>if ws.length<=sizeLine then some (p.1,(.tup ws,false)) else none
noncomputable def zcl (as:GAs):GE:=fun en=>(as en).bind fun p=>(za3 p.2).bind fun ws=>if ws.length<=sizeLine then some (p.1,(.lst ws,true)) else none
section
variable {K:PySem.W.Frag}{σ:St}{H:Hp}
theorem zu3 {as:GAs}{Q:VK} (h:tE K (zba as) σ H Q):tTup (tAs K as) σ H Q:=by
 obtain ⟨F,pr,en,en',r,R,h,q⟩:=h;obtain ⟨⟨e1,xs⟩,h1,h⟩:=bS h;obtain ⟨ws,h2,h⟩:=bS h;split at h
 ·rename_i hz;cases h;refine ⟨F,pr,en,e1,xs,R,h1,fun F1 H1 vs s1 R1 a1=>?_⟩;have rr:=a1.reps h2;refine ⟨by rw [<-rr.length];exact hz,fun p hp=>?_⟩;obtain ⟨F2,s2,R2,z⟩:=(Out.tup (K:=K) hp rr).close R1;exact q F2 _ _ (s1.trans s2) R2 z
 ·exact noSome h
theorem zt3 {as:GAs}{Q:VK} (h:tE K (zcl as) σ H Q):tLst (tAs K as) σ H Q:=by
 refine aG fun _ qG=>?_;obtain ⟨F,pr,en,en',r,R,h,q⟩:=h;obtain ⟨⟨e1,xs⟩,h1,h⟩:=bS h;obtain ⟨ws,h2,h⟩:=bS h;refine qG ?_;clear qG;split at h
 ·rename_i hz;cases h;refine ⟨F,pr,en,e1,xs,R,h1,fun F1 H1 vs s1 R1 a1=>?_⟩;have rr:=a1.reps h2;refine ⟨by rw [<-rr.length];exact hz,fun p hp=>?_⟩;refine aG fun _ qG=>?_;obtain ⟨F2,s2,R2,z⟩:=(Out.lst (K:=K) hp rr).close R1;refine qG ?_;clear qG;exact q F2 _ _ (s1.trans s2) R2 z
 ·exact noSome h
noncomputable def zln (o o' : W->W->Option (W × Bool)) (a b c:GA):GE:=fun en=>(a en).bind fun p=>(b p.1).bind fun q=>(resA q.1 p.2).bind fun w=>(resA q.1 q.2).bind fun u=>match o w u with
 | some (.bl true,false)=>(c q.1).bind fun t=>(resA t.1 q.2).bind fun u'=>(resA t.1 t.2).bind fun z=>(o' u' z).bind fun r=>some (t.1,r)
 | some (.bl false,false)=>some (q.1,(.bl false,false))
 | _=>none
theorem zgk {r r' : R2}{o o' : W->W->Option (W × Bool)}{a b c:GA}{Q:VK} (ho:OpS K r o) (ho' : OpS K r' o') (h:tE K (zln o o' a b c) σ H Q):zql r r' (tA K a) (tA K b) (tA K c) σ H Q:=by
  refine aG fun _ qG=>?_;obtain ⟨F,pr,en,en',rv,R,h,q⟩:=h;obtain ⟨⟨e1,x1⟩,h1,h⟩:=bS h;obtain ⟨⟨e2,x2⟩,h2,h⟩:=bS h;obtain ⟨w1,hw1,h⟩:=bS h;obtain ⟨w2,hw2,h⟩:=bS h;refine qG ?_;clear qG;refine ⟨F,pr,en,e1,x1,R,h1,fun F1 H1 v1 s1 R1 a1=>⟨F1,pr,e1,e2,x2,R1,h2,fun F2 H2 v2 s2 R2 a2=>?_⟩⟩;cases e:o w1 w2 with
  | none=>simp only [e] at h;exact noSome h
  | some p =>
    obtain ⟨w,fl⟩:=p;cases w with
    | bl k =>
      cases fl with
      | true=>simp only [e] at h;cases k<;>exact noSome h
      | false =>
        refine ho F2 H2 w1 w2 v1 v2 _ _ R2.sub ((a1.mono s2).repB R2 hw1) (a2.repB R2 hw2) e fun v H' z=>?_;cases z with
        | val z =>
          cases z;refine ⟨k,rfl,?_⟩;cases k with
          | false =>
            simp only [e] at h;cases h;exact iteF (q F2 H2 _ (s1.trans s2) R2 (.bl false))
          | true =>
            simp only [e] at h;refine aG fun _ qG=>?_;obtain ⟨⟨e3,x3⟩,h3,h⟩:=bS h;obtain ⟨w2',hw2',h⟩:=bS h;obtain ⟨w3,hw3,h⟩:=bS h;obtain ⟨r3,hr3,h⟩:=bS h;refine qG ?_;clear qG;cases h;refine iteT ⟨F2,pr,e2,e3,x3,R2,h3,fun F3 H3 v3 s3 R3 a3=>?_⟩;refine ho' F3 H3 w2' w3 v2 v3 _ _ R3.sub ((a2.mono s3).repB R3 hw2') (a3.repB R3 hw3) hr3 fun v H' z=>?_;refine aG fun _ qG=>?_;obtain ⟨F4,s4,R4,y⟩:=z.close R3;refine qG ?_;clear qG;exact q F4 H' v (s1.trans (s2.trans (s3.trans s4))) R4 y
    | _=>simp only [e] at h;exact noSome h
end
end L2
namespace L2
open PySem PySem.Spec PyProof.Rows
section
variable {K:PySem.W.Frag}{F H:Hp}{v:V}
theorem RepB.int {i:Int} (h:RepB K F H (.int i) v):v=.int i:=by
 rcases h with h | ⟨_,_,_,e,_,_,q⟩
 ·cases h;rfl
 ·subst e;cases q
theorem RepB.bl {b:Bool} (h:RepB K F H (.bl b) v):v=.bl b:=by
 rcases h with h | ⟨_,_,_,e,_,_,q⟩
 ·cases h;rfl
 ·subst e;cases q
theorem RepB.str {x:Str} (h:RepB K F H (.str x) v):v=.str x:=by
 rcases h with h | ⟨_,_,_,e,_,_,q⟩
 ·cases h;rfl
 ·subst e;cases q
theorem RepB.non (h:RepB K F H .non v):v=.non:=by
 rcases h with h | ⟨_,_,_,e,_,_,q⟩
 ·cases h;rfl
 ·subst e;cases q
theorem RepB.lst {ws:List W} (s:Same F H) (h:RepB K F H (.lst ws) v):∃a vs,v=.ref a/\H a=some (.lst vs)/\Reps K F ws vs:=by
 rcases h with h | ⟨a,o,ws',e,e2,h,r⟩
 ·cases h with
  | lst h r=>exact ⟨_,_,rfl,s _ _ h,r⟩
 ·subst e;obtain ⟨vs,rfl,r'⟩:=r.list;exact ⟨a,vs,e2,h,r'⟩
theorem RepB.tup {ws:List W} (s:Same F H) (h:RepB K F H (.tup ws) v):∃a vs,v=.ref a/\H a=some (.tup vs)/\F a=some (.tup vs)/\Reps K F ws vs:=by
 rcases h with h | ⟨_,_,_,e,_,_,q⟩
 ·cases h with
  | tup h r=>exact ⟨_,_,rfl,s _ _ h,h,r⟩
 ·subst e;cases q
theorem RepB.frl {ws:List W} (s:Same F H) (h:RepB K F H (.frl ws) v):∃a vs,v=.ref a/\SqL K H a vs/\Reps K F ws vs:=by
 rcases h with h | ⟨_,_,_,e,_,_,q⟩
 ·cases h with
  | frl h r=>exact ⟨_,_,rfl,s.seq h,r⟩
 ·subst e;cases q
noncomputable def seqL:W->Option (List W)
 | .lst ws=>some ws
 | .frl ws=>some ws
 | _=>none
noncomputable def seqW:W->Option (List W)
 | .lst ws=>some ws
 | .frl ws=>some ws
 | .tup ws=>some ws
 | _=>none
theorem RepB.seqL {w:W}{ws:List W} (s:Same F H) (h:RepB K F H w v) (e:L2.seqL w=some ws):∃a vs,v=.ref a/\SqL K H a vs/\Reps K F ws vs:=by
 cases w with
 | lst xs=>obtain rfl:=sI e;obtain ⟨a,vs,e,h,r⟩:=h.lst s;exact ⟨a,vs,e,SqL.of' h,r⟩
 | frl xs=>obtain rfl:=sI e;exact h.frl s
 | _=>exact noSome e
theorem RepB.seqW {w:W}{ws:List W} (s:Same F H) (h:RepB K F H w v) (e:L2.seqW w=some ws):∃a vs,v=.ref a/\(SqL K H a vs\/SqT K H a vs)/\Reps K F ws vs:=by
 cases w with
 | lst xs=>obtain rfl:=sI e;obtain ⟨a,vs,e,h,r⟩:=h.lst s;exact ⟨a,vs,e,.inl (SqL.of' h),r⟩
 | frl xs=>obtain rfl:=sI e;obtain ⟨a,vs,e,h,r⟩:=h.frl s;exact ⟨a,vs,e,.inl h,r⟩
 | tup xs=>obtain rfl:=sI e;obtain ⟨a,vs,e,h,_,r⟩:=h.tup s;exact ⟨a,vs,e,.inr (.inl (.inl h)),r⟩
 | _=>exact noSome e
end
noncomputable abbrev O2:=W->W->Option (W × Bool)
noncomputable def oI (c:Int->Int->Bool) (g:Int->Int->W):O2
 | .int i,.int j=>if c i j then some (g i j,false) else none
 | _,_=>none
section
variable {K:PySem.W.Frag}
theorem zko {c:Int->Int->Bool}{C:Int->Int->Prop}{g:Int->Int->W}{g' : Int->Int->V} (hc:∀i j,c i j=true->C i j) (hg:∀F i j,Rep K F (g i j) (g' i j)):OpS K (rI C g') (oI c g):=fun F H w1 w2 v1 v2 rv Q s r1 r2 e q=>by
  cases w1 with
  | int i =>
    cases w2 with
    | int j =>
      unfold oI at e;simp only at e;split at e
      · rename_i z
        obtain rfl:=sI e;exact ⟨i,j,r1.int,r2.int,hc i j z,q _ _ (.val (hg F i j))⟩
      · exact noSome e
    | _=>exact noSome e
  | _=>exact noSome e
theorem zd0 {g:Int->Int->W}{g' : Int->Int->V} (hg:∀F i j,Rep K F (g i j) (g' i j)):OpS K (rI0 g') (oI (fun _ _=>true) g):=fun F H w1 w2 v1 v2 rv Q s r1 r2 e q=>by
  cases w1 with
  | int i =>
    cases w2 with
    | int j=>obtain rfl:=sI e;exact ⟨i,j,r1.int,r2.int,q _ _ (.val (hg F i j))⟩
    | _=>exact noSome e
  | _=>exact noSome e
theorem OpS.or {r r' : R2}{o o' : O2} (h:OpS K r o) (h' : OpS K r' o'):OpS K (fun x y H Q=>r x y H Q\/r' x y H Q) (fun a b=>match o a b with | some p=>some p | none=>o' a b):=fun F H w1 w2 v1 v2 rv Q s r1 r2 e q=>by
 cases z:o w1 w2 with
 | some p=>simp only [z] at e;obtain rfl:=sI e;exact .inl (h F H w1 w2 v1 v2 _ Q s r1 r2 z q)
 | none=>simp only [z] at e;exact .inr (h' F H w1 w2 v1 v2 _ Q s r1 r2 e q)
end
noncomputable def oOr (o o' : O2):O2:=fun a b=>match o a b with | some p=>some p | none=>o' a b
noncomputable def oCat:O2
 | .lst xs,.lst ys=>if xs.length+ys.length<=sizeLine then some (.lst (xs++ys),true) else none
 | _,_=>none
noncomputable def zul:O2
 | .tup (x::xs),.tup ys=>if (x::xs).length+ys.length<=sizeLine then some (.tup (x::xs++ys),false) else none
 | _,_=>none
noncomputable def zxc:O2
 | .tup [],.tup ys=>some (.tup ys,false)
 | _,_=>none
noncomputable def zs7:O2
 | .str x,.str y=>if x.length+y.length<=sizeLine then some (.str (x++y),false) else none
 | _,_=>none
noncomputable def oRep:O2
 | .lst xs,.int k=>if -(2 ^ 63)<=k/\k < 2 ^ 63/\xs.length * k.toNat<=sizeLine then some (.lst (List.replicate k.toNat xs).flatten,true) else none
 | _,_=>none
section
variable {K:PySem.W.Frag}
theorem zxv:OpS K rCat oCat:=fun F H w1 w2 v1 v2 rv Q s r1 r2 e q=>by
  cases w1 with
  | lst xs =>
    cases w2 with
    | lst ys =>
      unfold oCat at e;simp only at e;split at e
      · rename_i z
        obtain rfl:=sI e;refine aG fun _ qG=>?_;obtain ⟨a,vs,e1,h1,p1⟩:=r1.lst s;obtain ⟨b,us,e2,h2,p2⟩:=r2.lst s;refine qG ?_;clear qG;exact ⟨a,b,vs,us,e1,e2,h1,h2,by rw [<-p1.length,<-p2.length];exact z,fun p hp=>q _ _ (.lst hp (p1.append p2))⟩
      · exact noSome e
    | _=>exact noSome e
  | _=>exact noSome e
theorem zw1:OpS K rRep oRep:=fun F H w1 w2 v1 v2 rv Q s r1 r2 e q=>by
  cases w1 with
  | lst xs =>
    cases w2 with
    | int k =>
      unfold oRep at e;simp only at e;split at e
      · rename_i z
        obtain rfl:=sI e;obtain ⟨a,vs,e1,h1,p1⟩:=r1.lst s;exact ⟨a,k,vs,e1,r2.int,h1,z.1,z.2.1,by rw [<-p1.length];exact z.2.2,fun p hp=>q _ _ (.lst hp (p1.rep _))⟩
      · exact noSome e
    | _=>exact noSome e
  | _=>exact noSome e
theorem zuc:OpS K (zz9 K) zul:=fun F H w1 w2 v1 v2 rv Q s r1 r2 e q=>by
  cases w1 with
  | tup xs =>
    cases xs with
    | nil=>cases w2<;>exact noSome e
    | cons x xs =>
      cases w2 with
      | tup ys =>
        unfold zul at e;simp only at e;split at e
        · rename_i z
          obtain rfl:=sI e;refine aG fun _ qG=>?_;obtain ⟨a,vs,e1,h1,f1,p1⟩:=r1.tup s;obtain ⟨b,us,e2,h2,f2,p2⟩:=r2.tup s;refine qG ?_;clear qG;refine ⟨a,b,vs,us,e1,e2,.inl (.inl h1),.inl (.inl h2),?_,by rw [<-p1.length,<-p2.length];exact z,fun hu=>?_,fun _ p hp=>q _ _ (.tup hp (p1.append p2))⟩
          · intro e;subst e;cases p1
          · subst hu
            cases p2;rw [List.append_nil] at q;exact q _ _ (.val (.tup f1 p1))
        · exact noSome e
      | _=>exact noSome e
  | _=>exact noSome e
mutual
inductive DV (H:Hp):V->PyData->Prop where
 | non:DV H .non .none
 | bl (b:Bool):DV H (.bl b) (.bool b)
 | int (i:Int):DV H (.int i) (.int i)
 | str (x:Str):DV H (.str x) (.str x)
 | tup {a:Addr}{vs:List V}{ds:List PyData} (h:H a=some (.tup vs)) (r:DVs H vs ds):DV H (.ref a) (.tuple ds)
 | lst {a:Addr}{vs:List V}{ds:List PyData} (h:H a=some (.lst vs)) (r:DVs H vs ds):DV H (.ref a) (.list ds)
inductive DVs (H:Hp):List V->List PyData->Prop where
 | nil:DVs H [] []
 | cons {v:V}{d:PyData}{vs:List V}{ds:List PyData} (h:DV H v d) (r:DVs H vs ds):DVs H (v::vs) (d::ds)
end
section
variable {X:Cx}{pins:List (Addr × Obj)}{σ:St}{H:Hp}{s:Shared}
mutual
theorem DV.reads (I:Inv X pins σ H s):∀{v:V}{d:PyData}{u:Value},DV H v d->RelV v u->∃as,Reads s.heap u d as
  | _,_,_,.non,r=>by cases (show _=Value.none from r);exact ⟨_,.none⟩
  | _,_,_,.bl b,r=>by cases (show _=Value.bool b from r);exact ⟨_,.bool b⟩
  | _,_,_,.int i,r=>by obtain ⟨t,e⟩:=(show ∃t,_=Value.int i t from r);subst e;exact ⟨_,.int i t⟩
  | _,_,_,.str x,r=>by obtain ⟨t,e⟩:=(show ∃t,_=Value.str x t from r);subst e;exact ⟨_,.str x t⟩
  | _,_,_,.tup h q,r=>by
    cases r;obtain ⟨its,rv,⟨o,e,c,n,dt⟩,_⟩:=I.tuple (.inl (.inl h));obtain ⟨as,ra⟩:=DVs.reads I q rv;exact ⟨as,.tuple e c dt (by simpa using ra)⟩
  | _,_,_,.lst h q,r=>by
    cases r;obtain ⟨its,rv,⟨o,n,e,c,_,dt⟩,_⟩:=I.list (SqL.of' h);obtain ⟨as,ra⟩:=DVs.reads I q rv;exact ⟨_,.list e c dt (by simpa using ra)⟩
theorem DVs.reads (I:Inv X pins σ H s):∀{vs:List V}{ds:List PyData}{us:List Value},DVs H vs ds->Vals vs us->∃as,ReadsAll s.heap us ds as
  | _,_,_,.nil,r=>by cases r;exact ⟨_,.nil⟩
  | _,_,_,.cons h q,r=>by
    cases r with
    | cons r1 r2 =>
      obtain ⟨as,a⟩:=DV.reads I h r1;obtain ⟨bs,b⟩:=DVs.reads I q r2;exact ⟨_,.cons a b⟩
end
end
mutual
noncomputable def dW:W->Option PyData
 | .non=>some .none
 | .bl b=>some (.bool b)
 | .int i=>some (.int i)
 | .str x=>some (.str x)
 | .tup ws=>(dWs ws).bind fun ds=>some (.tuple ds)
 | .lst ws=>(dWs ws).bind fun ds=>some (.list ds)
 | _=>none
noncomputable def dWs:List W->Option (List PyData)
 | []=>some []
 | w::ws=>(dW w).bind fun d=>(dWs ws).bind fun ds=>some (d::ds)
end
section
variable {K:PySem.W.Frag}{F H:Hp}
mutual
theorem zv5 (s:Same F H):∀{w:W}{v:V}{d:PyData},Rep K F w v->dW w=some d->DV H v d
  | _,_,_,.non,e=>by obtain rfl:=sI e;exact .non
  | _,_,_,.bl b,e=>by obtain rfl:=sI e;exact .bl b
  | _,_,_,.int i,e=>by obtain rfl:=sI e;exact .int i
  | _,_,_,.str x,e=>by obtain rfl:=sI e;exact .str x
  | _,_,_,.tup h r,e=>by
    rw [dW] at e;obtain ⟨ds,e1,e2⟩:=bS e;obtain rfl:=sI e2;exact .tup (s _ _ h) (zhp s r e1)
  | _,_,_,.lst h r,e=>by
    rw [dW] at e;obtain ⟨ds,e1,e2⟩:=bS e;obtain rfl:=sI e2;exact .lst (s _ _ h) (zhp s r e1)
  | _,_,_,.frl _ _,e=>by exact noSome e
  | _,_,_,.dic _,e=>by exact noSome e
theorem zhp (s:Same F H):∀{ws:List W}{vs:List V}{ds:List PyData},Reps K F ws vs->dWs ws=some ds->DVs H vs ds
  | _,_,_,.nil,e=>by cases e;exact .nil
  | _,_,_,.cons h r,e=>by
    rw [dWs] at e;obtain ⟨d,e1,e⟩:=bS e;obtain ⟨ds,e2,e3⟩:=bS e;cases e3;exact .cons (zv5 s h e1) (zhp s r e2)
end
theorem zob {w:W}{v:V}{d:PyData} (s:Same F H) (r:RepB K F H w v) (hd:dW w=some d):DV H v d:=by
  rcases r with r | ⟨a,o,us,z,rfl,h,q⟩
  · exact zv5 s r hd
  · subst z
    cases q with
    | dct hl q=>exact noSome hd
    | dctT hl q=>exact noSome hd
    | lst q =>
      rw [dW] at hd;obtain ⟨ds,e1,e2⟩:=bS hd;obtain rfl:=sI e2;exact .lst h (zhp s q e1)
end
noncomputable def rEqD (g:Bool->Bool):R2:=fun x y H Q=>∃d d',DV H x d/\DV H y d'/\d.canLay0=true/\d'.canLay0=true/\d.depth<=100/\Q (.bl (g (PyData.eqv d d'))) H
theorem z2q {X:Cx}{k:Nat} (hr:Room k X.A):OpR X (compareOp .Eq) (rEqD id):=by
 intro pins s σ H x y v u Q I rx ry h;refine aG fun _ qG=>?_;obtain ⟨d,d',d1,d2,h1,h2,h3,q⟩:=h;obtain ⟨as,ra⟩:=d1.reads I rx;obtain ⟨bs,rb⟩:=d2.reads I ry;refine qG ?_;clear qG;exact SeqAt.compareEq_reads ra rb h1 h2 (by have:=hr.un;omega) ⟨.bl _,H,I,rfl,q⟩
theorem zz7 {X:Cx}{k:Nat} (hr:Room k X.A):OpR X (compareOp .NotEq) (rEqD not):=by
 intro pins s σ H x y v u Q I rx ry h;refine aG fun _ qG=>?_;obtain ⟨d,d',d1,d2,h1,h2,h3,q⟩:=h;obtain ⟨as,ra⟩:=d1.reads I rx;obtain ⟨bs,rb⟩:=d2.reads I ry;refine qG ?_;clear qG;exact SeqAt.neOverData X.prog X.w X.A X.xe s v u d d' as bs _ ra rb h1 h2 (by have:=hr.un;omega) ⟨.bl _,H,I,rfl,q⟩
noncomputable def eqD (a b:W):Option Bool:=(dW a).bind fun d=>(dW b).bind fun d'=>if d.canLay0 && d'.canLay0 && decide (d.depth<=100) then some (PyData.eqv d d') else none
theorem zvg {K:PySem.W.Frag}{F H:Hp}{w1 w2:W}{v1 v2:V}{k:Bool} (s:Same F H) (r1:RepB K F H w1 v1) (r2:RepB K F H w2 v2) (e:eqD w1 w2=some k):∃d d',DV H v1 d/\DV H v2 d'/\d.canLay0=true/\d'.canLay0=true/\d.depth<=100/\k=PyData.eqv d d':=by
 refine aG fun _ qG=>?_;obtain ⟨d,h1,e⟩:=bS e;obtain ⟨d',h2,e⟩:=bS e;refine qG ?_;clear qG;split at e
 ·rename_i z;rw [Bool.and_eq_true,Bool.and_eq_true] at z;obtain rfl:=sI e;exact ⟨d,d',zob s r1 h1,zob s r2 h2,z.1.1,z.1.2,of_decide_eq_true z.2,rfl⟩
 ·exact noSome e
noncomputable def zwq:W->W->Option Bool
 | .non,.non=>some true | .non,.int _=>some false | .int _,.non=>some false | .non,.bl _=>some false | .bl _,.non=>some false | .non,.str _=>some false | .str _,.non=>some false
 | .int i,.int j=>some (decide (i=j)) | .bl i,.bl j=>some (decide (i=j)) | .str i,.str j=>some (decide (i=j))
 | .int _,.str _=>some false | .str _,.int _=>some false | .bl _,.str _=>some false | .str _,.bl _=>some false
 | _,_=>none
noncomputable def oEq:O2:=fun a b=>match zwq a b with
 | some k=>some (.bl k,false)
 | none=>(eqD a b).bind fun k=>some (.bl k,false)
noncomputable def oNe:O2:=fun a b=>match zwq a b with
 | some k=>some (.bl (!k),false)
 | none=>(eqD a b).bind fun k=>some (.bl (!k),false)
theorem zlj {F H:Hp}{w1 w2:W}{v1 v2:V}{k:Bool} (r1:RepB K F H w1 v1) (r2:RepB K F H w2 v2) (e:zwq w1 w2=some k):scal v1 v2=true/\decide (v1=v2)=k:=by
  cases w1 with
  | non =>
    have:=r1.non;subst this;cases w2 with
    | non=>have:=r2.non;subst this;obtain rfl:=sI e;exact ⟨rfl,by decide⟩
    | int j=>have:=r2.int;subst this;obtain rfl:=sI e;exact ⟨rfl,by simp⟩
    | bl j=>have:=r2.bl;subst this;obtain rfl:=sI e;exact ⟨rfl,by simp⟩
    | str j=>have:=r2.str;subst this;obtain rfl:=sI e;exact ⟨rfl,by simp⟩
    | _=>exact noSome e
  | int i =>
    have:=r1.int;subst this;cases w2 with
    | non=>have:=r2.non;subst this;obtain rfl:=sI e;exact ⟨rfl,by simp⟩
    | int j=>have:=r2.int;subst this;obtain rfl:=sI e;exact ⟨rfl,by simp⟩
    | str j=>have:=r2.str;subst this;obtain rfl:=sI e;exact ⟨rfl,by simp⟩
    | _=>exact noSome e
  | bl i =>
    have:=r1.bl;subst this;cases w2 with
    | non=>have:=r2.non;subst this;obtain rfl:=sI e;exact ⟨rfl,by simp⟩
    | bl j=>have:=r2.bl;subst this;obtain rfl:=sI e;exact ⟨rfl,by simp⟩
    | str j=>have:=r2.str;subst this;obtain rfl:=sI e;exact ⟨rfl,by simp⟩
    | _=>exact noSome e
  | str i =>
    have:=r1.str;subst this;cases w2 with
    | non=>have:=r2.non;subst this;obtain rfl:=sI e;exact ⟨rfl,by simp⟩
    | int j=>have:=r2.int;subst this;obtain rfl:=sI e;exact ⟨rfl,by simp⟩
    | bl j=>have:=r2.bl;subst this;obtain rfl:=sI e;exact ⟨rfl,by simp⟩
    | str j=>have:=r2.str;subst this;obtain rfl:=sI e;exact ⟨rfl,by simp⟩
    | _=>exact noSome e
  | _=>cases w2<;>exact noSome e
theorem z1n:OpS K (fun x y H Q=>rEq x y H Q\/rEqD id x y H Q) oEq:=fun F H w1 w2 v1 v2 rv Q s r1 r2 e q=>by
 unfold oEq at e;split at e
 ·rename_i k hk;obtain rfl:=sI e;obtain ⟨h1,h2⟩:=zlj r1 r2 hk;refine .inl ⟨h1,?_⟩;rw [h2];exact q _ _ (.val (.bl k))
 ·obtain ⟨k, hk, e⟩ := bS e;obtain rfl:=sI e;refine aG fun _ qG=>?_;obtain ⟨d,d',d1,d2,h1,h2,h3,rfl⟩:=zvg s r1 r2 hk;refine qG ?_;clear qG;exact .inr ⟨d,d',d1,d2,h1,h2,h3,q _ _ (.val (.bl _))⟩
theorem z0r:OpS K (fun x y H Q=>rNe x y H Q\/rEqD not x y H Q) oNe:=fun F H w1 w2 v1 v2 rv Q s r1 r2 e q=>by
 unfold oNe at e;split at e
 ·rename_i k hk;obtain rfl:=sI e;obtain ⟨h1,h2⟩:=zlj r1 r2 hk;refine .inl ⟨h1,?_⟩;rw [h2];exact q _ _ (.val (.bl _))
 ·obtain ⟨k, hk, e⟩ := bS e;obtain rfl:=sI e;refine aG fun _ qG=>?_;obtain ⟨d,d',d1,d2,h1,h2,h3,rfl⟩:=zvg s r1 r2 hk;refine qG ?_;clear qG;exact .inr ⟨d,d',d1,d2,h1,h2,h3,q _ _ (.val (.bl _))⟩
noncomputable def isW:W->W->Option Bool
 | .non,.non=>some true
 | _,.non=>some false
 | .bl a,.bl b=>some (decide (a=b))
 | _,.bl _=>some false
 | _,_=>none
noncomputable def rIs:R2:=fun x y H Q=>(y=.non/\Q (.bl (decide (x=.non))) H)\/(∃b,y=.bl b/\Q (.bl (decide (x=.bl b))) H)
noncomputable def z09:R2:=fun x y H Q=>(y=.non/\Q (.bl (!decide (x=.non))) H)\/(∃b,y=.bl b/\Q (.bl (!decide (x=.bl b))) H)
noncomputable def oIs:O2:=fun a b=>(isW a b).bind fun k=>some (.bl k,false)
noncomputable def zmn:O2:=fun a b=>(isW a b).bind fun k=>some (.bl (!k),false)
theorem RepB.noBl {F H:Hp}{w:W}{v:V} (r:RepB K F H w v) (h:∀b,w≠.bl b) (b:Bool):v≠.bl b:=fun e=>by
 subst e;rcases r with r | ⟨_,_,_,_,e,_⟩
 ·cases r;exact h b rfl
 ·cases e
theorem RepB.noNon {F H:Hp}{w:W}{v:V} (r:RepB K F H w v) (h:w≠.non):v≠.non:=fun e=>by
 subst e;rcases r with r | ⟨_,_,_,_,e,_⟩
 ·cases r;exact h rfl
 ·cases e
theorem zvq {F H:Hp}{w1 w2:W}{v1 v2:V}{k:Bool} (r1:RepB K F H w1 v1) (r2:RepB K F H w2 v2) (e:isW w1 w2=some k):(v2=.non/\decide (v1=.non)=k)\/(∃b,v2=.bl b/\decide (v1=.bl b)=k):=by
  cases w2 with
  | non =>
    refine .inl ⟨r2.non,?_⟩;cases w1 with
    | non=>obtain rfl:=sI e;rw [r1.non];rfl
    | _=>obtain rfl:=sI e;exact decide_eq_false (r1.noNon (by simp))
  | bl b =>
    refine .inr ⟨b,r2.bl,?_⟩;cases w1 with
    | bl a=>obtain rfl:=sI e;rw [r1.bl];simp
    | _=>obtain rfl:=sI e;exact decide_eq_false (r1.noBl (by simp) b)
  | _=>cases w1<;>exact noSome e
theorem z0s:OpS K rIs oIs:=fun F H w1 w2 v1 v2 rv Q s r1 r2 e q=>by
 obtain ⟨k,hk,e⟩:=bS e;obtain rfl:=sI e;rcases zvq r1 r2 hk with ⟨h1,h2⟩ | ⟨b,h1,h2⟩
 ·exact .inl ⟨h1,by rw [h2];exact q _ _ (.val (.bl k))⟩
 ·exact .inr ⟨b,h1,by rw [h2];exact q _ _ (.val (.bl k))⟩
theorem zoc:OpS K z09 zmn:=fun F H w1 w2 v1 v2 rv Q s r1 r2 e q=>by
 obtain ⟨k,hk,e⟩:=bS e;obtain rfl:=sI e;rcases zvq r1 r2 hk with ⟨h1,h2⟩ | ⟨b,h1,h2⟩
 ·exact .inl ⟨h1,by rw [h2];exact q _ _ (.val (.bl _))⟩
 ·exact .inr ⟨b,h1,by rw [h2];exact q _ _ (.val (.bl _))⟩
noncomputable def zje:W->Bool
 | .non=>true
 | .bl _=>true
 | .int _=>true
 | .str _=>true
 | _=>false
noncomputable def eqF:W->W->Bool
 | .non,.non=>true
 | .bl a,.bl b=>a == b
 | .bl a,.int b=>(if a then 1 else 0) == b
 | .int a,.bl b=>a == (if b then 1 else 0)
 | .int a,.int b=>a == b
 | .str a,.str b=>a == b
 | _,_=>false
theorem Rep.flat {F:Hp}{w:W}{v:V} (h:Rep K F w v) (f:zje w=true):zf7 v=true:=by
 cases h<;>first | rfl | (cases f)
theorem Reps.flat {F:Hp}:∀{ws:List W}{vs:List V},Reps K F ws vs->ws.all zje=true->vs.all zf7=true
  | _,_,.nil,_=>rfl
  | _,_,.cons h r,f=>by
    rw [List.all_cons,Bool.and_eq_true] at f ⊢;exact ⟨h.flat f.1,r.flat f.2⟩
theorem z2i {F F' : Hp}{w u:W}{v z:V} (h1:Rep K F w v) (h2:Rep K F' u z) (f1:zje w=true) (f2:zje u=true):eqV v z=eqF w u:=by
 cases h1<;>first | (cases f1;done) | (cases h2<;>first | rfl | (cases f2))
theorem zv8 {F F' : Hp}{u:W}{z:V} (h2:Rep K F' u z) (f2:zje u=true):∀{ws:List W}{vs:List V},Reps K F ws vs->ws.all zje=true->inV z vs=ws.any fun y=>eqF y u
  | _,_,.nil,_=>rfl
  | _,_,.cons h r,f=>by
    rw [List.all_cons,Bool.and_eq_true] at f;have ih:=zv8 h2 f2 r f.2;unfold inV at ih ⊢;rw [List.any_cons,List.any_cons,ih,z2i h h2 f.1 f2]
noncomputable def oIn (neg:Bool):O2:=fun a b=>(seqW b).bind fun ws=>if zje a && ws.all zje then some (.bl (if neg then !(ws.any fun y=>eqF y a) else ws.any fun y=>eqF y a),false) else none
theorem zvn (neg:Bool):OpS K (rIn K neg) (oIn neg):=fun F H w1 w2 v1 v2 rv Q s r1 r2 e q=>by
 obtain ⟨ws,hs,e⟩:=bS e;split at e
 ·rename_i z;rw [Bool.and_eq_true] at z;obtain rfl:=sI e;obtain ⟨a,vs,e2,hq,p⟩:=r2.seqW s hs;have r1' : Rep K F w1 v1:=by
   rcases r1 with r | ⟨_,_,_,e,_,_,y⟩
   ·exact r
   ·subst e;cases y<;>cases z.1
  refine ⟨a,vs,e2,hq,r1'.flat z.1,p.flat z.2,?_⟩;rw [zv8 r1' z.1 p z.2];exact q _ _ (.val (.bl _))
 ·exact noSome e
noncomputable def oIx:O2
 | a,.int i=>(seqW a).bind fun ws=>(atI ws i).bind fun w=>some (w,false)
 | _,_=>none
theorem zt9 {F:Hp}{ws:List W}{vs:List V}{i:Int}{w:W} (r:Reps K F ws vs) (h:atI ws i=some w):∃v,atI vs i=some v/\Rep K F w v:=by
 unfold atI at h ⊢;rw [<-r.length];obtain ⟨j,h1,h2⟩:=bS h;obtain ⟨v,h3,h4⟩:=r.get h2;exact ⟨v,by rw [h1];exact h3,h4⟩
noncomputable def rIxB (K:PySem.W.Frag):R2:=fun x y H Q=>rIxL K x y H Q\/rIxT K x y H Q
theorem z2a:OpS K (rIxB K) oIx:=fun F H w1 w2 v1 v2 rv Q s r1 r2 e q=>by
  cases w2 with
  | int i =>
    obtain ⟨ws,hs,e⟩:=bS (show (seqW w1).bind _=_ from e);obtain ⟨w,hw,e⟩:=bS e;obtain rfl:=sI e;obtain ⟨a,vs,e1,hq,p⟩:=r1.seqW s hs;obtain ⟨v,hv,rv⟩:=zt9 p hw;rcases hq with hq | hq
    · exact .inl ⟨a,vs,i,v,e1,r2.int,hq,hv,q _ _ (.val rv)⟩
    · exact .inr ⟨a,vs,i,v,e1,r2.int,hq,hv,q _ _ (.val rv)⟩
  | _=>cases w1<;>exact noSome e
noncomputable def oNeg:W->Option (W × Bool)
 | .int i=>some (.int (-i),false)
 | _=>none
theorem zx5:OpS1 K (rU fun i=>.int (-i)) oNeg:=fun F H w v rv Q s r e q=>by
 cases w with
 | int i=>obtain rfl:=sI e;exact ⟨i,r.int,q _ _ (.val (.int _))⟩
 | _=>exact noSome e
end
end L2
namespace L2
open PySem PySem.Spec PyProof.Rows
theorem zge:∀(ns:List Int) (k:Nat),k<=ns.length->preSum (fun i=>ns.getD i 0) k=(ns.take k).sum
  | ns,0,_=>rfl
  | ns,k+1,h=>by
    have ih:=zge ns k (by omega);show preSum (fun i=>ns.getD i 0) k+ns.getD k 0=_;rw [ih,List.take_succ,List.sum_append];have hk:k < ns.length:=by omega
    rw [List.getElem?_eq_getElem hk,List.getD_eq_getElem?_getD,List.getElem?_eq_getElem hk];simp
section
variable {X:Cx}
theorem zj4 {ns:List Int}{its:List Value}{i:Nat}{v:Value} (r:Vals (ns.map V.int) its) (h:its[i]?=some v):∃t,v=.int (ns.getD i 0) t:=by
 have hl:=r.length;rw [List.length_map] at hl;have hi:i < ns.length:=by rw [hl];exact (List.getElem?_eq_some_iff.mp h).1
 obtain ⟨u,hu,ru⟩:=r.get (i:=i) (x:=.int ns[i]) (by rw [List.getElem?_map,List.getElem?_eq_getElem hi];rfl);rw [h] at hu;obtain rfl:=sI hu;obtain ⟨t,e⟩:=ru;exact ⟨t,by rw [e,List.getD_eq_getElem?_getD,List.getElem?_eq_getElem hi];rfl⟩
theorem zry (hc:X.calm=true):zdu X (.builtin "sum") (fun xs H Q=>∃(a:Addr) (ns:List Int),xs=[.ref a]/\SqL X.K H a (ns.map V.int)/\Q (.int ns.sum) H):=by
 intro pins s σ H xs us Q I r h;refine aG fun _ qG=>?_;obtain ⟨a,ns,rfl,hq,q⟩:=h;obtain ⟨u,rfl,rx⟩:=vals1 r;refine qG ?_;clear qG;cases rx;refine aG fun _ qG=>?_;obtain ⟨its,rv,p,hz⟩:=I.list hq;refine qG ?_;clear qG;have hl:=rv.length;rw [List.length_map] at hl;have ha:a < s.heap.objs.size:=by obtain ⟨o,e,_⟩:=p.isList;exact Heap.lt_size e
 refine call_sum_walkG (wpAny_pyIter_list p.isList ?_);refine ⟨s.heap.objs.size,_,[s.heap.objs.size],its.toArray.size,_,_,fun i=>ns.getD i 0,rfl,Walks.list (A:=X.A.in1) (show X.A.in1.handled=none from I.ok.hd hc) _ a (Nat.ne_of_lt ha) its.toArray,⟨⟨_,Heap.get?_push_size _ rfl,rfl,rfl⟩,p.isList.push _⟩,?_,fun i v hv=>zj4 rv (by simpa using hv),fun h' tk t' hk=>?_⟩
 ·intro b hb;have e0:∀o:Obj,(s.heap.push o).objs.size=s.heap.objs.size+1:=fun o=>Heap.size_push ..;have hb' : b=s.heap.objs.size\/b=a:=by simpa using hb
  show b < (s.heap.push _).objs.size;rw [e0];rcases hb' with rfl | rfl
  ·exact Nat.lt_succ_self _
  ·exact Nat.lt_succ_of_lt ha
 ·have e : its.toArray.size = ns.length := by simp; omega
  rw [e,zge ns ns.length (Nat.le_refl _),List.take_length];refine ⟨.int _,H,I.kept fun b o hb=>?_,⟨_,rfl⟩,q⟩;exact hk b o (by intro z;rw [List.mem_singleton] at z;subst z;exact absurd (Heap.lt_size hb) (Nat.lt_irrefl _)) (Heap.get?_push_of_some _ hb)
noncomputable def mx1 (n:Int) (r:List Int):Int:=r.foldl (fun b x=>if x > b then x else b) n
theorem zq9 (n:Int) (r:List Int):∀k,k<=r.length->(n::r).getD (argBest (fun i j=>decide ((n::r).getD i 0 > (n::r).getD j 0)) k) 0=mx1 n (r.take k)
  | 0,_=>rfl
  | k+1,h=>by
    have ih:=zq9 n r k (by omega);have hk:k < r.length:=by omega
    have g:(n::r).getD (k+1) 0=r[k]:=by rw [List.getD_cons_succ,List.getD_eq_getElem?_getD,List.getElem?_eq_getElem hk];rfl
    have t:mx1 n (r.take (k+1))=if r[k] > mx1 n (r.take k) then r[k] else mx1 n (r.take k):=by
      unfold mx1;rw [List.take_succ,List.getElem?_eq_getElem hk,List.foldl_append];rfl
    rw [t];show (n::r).getD (if decide ((n::r).getD (k+1) 0 > (n::r).getD (argBest (fun i j=>decide ((n::r).getD i 0 > (n::r).getD j 0)) k) 0)=true then k+1 else argBest _ k) 0=_;rw [ih,g];by_cases c:r[k] > mx1 n (r.take k)
    · rw [decide_eq_true c,if_pos rfl,if_pos c,g]
    · rw [decide_eq_false c,if_neg Bool.false_ne_true,if_neg c,ih]
theorem zqv (hc:X.calm=true):zdu X (.builtin "max") (fun xs H Q=>(∃i j,xs=[.int i,.int j]/\Q (.int (if j > i then j else i)) H)\/∃(a:Addr) (n:Int) (r:List Int),xs=[.ref a]/\SqL X.K H a ((n::r).map V.int)/\Q (.int (mx1 n r)) H):=by
 intro pins s σ H xs us Q I r h;rcases h with h | h
 ·exact zrq hc pins s σ H xs us Q I r h
 obtain ⟨a,n,ns,rfl,hq,q⟩:=h;obtain ⟨u,rfl,rx⟩:=vals1 r;cases rx;obtain ⟨its,rv,p,hz⟩:=I.list hq;have hl:=rv.length;rw [List.length_map] at hl;have ha:a < s.heap.objs.size:=by obtain ⟨o,e,_⟩:=p.isList;exact Heap.lt_size e
 have iv:∀(i:Nat) (v:Value),its.toArray[i]?=some v->∃t,v=Value.int ((n::ns).getD i 0) t:=fun i v e=>zj4 rv (by simpa using e);refine call_max_walk (wpAny_pyIter_list p.isList ?_);refine ⟨s.heap.objs.size,_,[s.heap.objs.size],its.toArray.size,_,_,_,rfl,Walks.list (A:=X.A.in1) (show X.A.in1.handled=none from I.ok.hd hc) _ a (Nat.ne_of_lt ha) its.toArray,⟨⟨_,Heap.get?_push_size _ rfl,rfl,rfl⟩,p.isList.push _⟩,fun b hb=>?_,by rw [List.size_toArray,<-hl];exact Nat.succ_pos _,CmpOf.ints_gt _ iv,fun v h' tk hv hk=>?_⟩
 ·rw [Heap.size_push];simp only [List.mem_cons,List.not_mem_nil,or_false] at hb;rcases hb with rfl | rfl
  ·exact Nat.lt_succ_self _
  ·exact Nat.lt_succ_of_lt ha
 ·obtain ⟨t, rfl⟩ := iv _ _ hv;have e:its.toArray.size - 1=ns.length:=by rw [List.size_toArray,<-hl];rfl
  refine ⟨.int _,H,I.kept fun b o hb=>hk b o (fun z=>by rw [List.mem_singleton] at z;subst z;exact absurd (Heap.lt_size hb) (Nat.lt_irrefl _)) (Heap.get?_push_of_some _ hb),⟨_,rfl⟩,?_⟩;rw [e,zq9 n ns ns.length (Nat.le_refl _),List.take_length];exact q
noncomputable def mn1 (n:Int) (r:List Int):Int:=r.foldl (fun b x=>if x < b then x else b) n
theorem zor (n:Int) (r:List Int):∀k,k<=r.length->(n::r).getD (argBest (fun i j=>decide ((n::r).getD i 0 < (n::r).getD j 0)) k) 0=mn1 n (r.take k)
  | 0,_=>rfl
  | k+1,h=>by
    have ih:=zor n r k (by omega);have hk:k < r.length:=by omega
    have g:(n::r).getD (k+1) 0=r[k]:=by rw [List.getD_cons_succ,List.getD_eq_getElem?_getD,List.getElem?_eq_getElem hk];rfl
    have t:mn1 n (r.take (k+1))=if r[k] < mn1 n (r.take k) then r[k] else mn1 n (r.take k):=by
      unfold mn1;rw [List.take_succ,List.getElem?_eq_getElem hk,List.foldl_append];rfl
    rw [t];show (n::r).getD (if decide ((n::r).getD (k+1) 0 < (n::r).getD (argBest (fun i j=>decide ((n::r).getD i 0 < (n::r).getD j 0)) k) 0)=true then k+1 else argBest _ k) 0=_;rw [ih,g];by_cases c:r[k] < mn1 n (r.take k)
    · rw [decide_eq_true c,if_pos rfl,if_pos c,g]
    · rw [decide_eq_false c,if_neg Bool.false_ne_true,if_neg c,ih]
theorem zog (hc:X.calm=true):zdu X (.builtin "min") (fun xs H Q=>(∃i j,xs=[.int i,.int j]/\Q (.int (if j < i then j else i)) H)\/∃(a:Addr) (n:Int) (r:List Int),xs=[.ref a]/\SqL X.K H a ((n::r).map V.int)/\Q (.int (mn1 n r)) H):=by
 intro pins s σ H xs us Q I r h;rcases h with h | h
 ·exact zpl hc pins s σ H xs us Q I r h
 obtain ⟨a,n,ns,rfl,hq,q⟩:=h;obtain ⟨u,rfl,rx⟩:=vals1 r;cases rx;obtain ⟨its,rv,p,hz⟩:=I.list hq;have hl:=rv.length;rw [List.length_map] at hl;have ha:a < s.heap.objs.size:=by obtain ⟨o,e,_⟩:=p.isList;exact Heap.lt_size e
 have iv:∀(i:Nat) (v:Value),its.toArray[i]?=some v->∃t,v=Value.int ((n::ns).getD i 0) t:=fun i v e=>zj4 rv (by simpa using e);refine call_min_walk (wpAny_pyIter_list p.isList ?_);refine ⟨s.heap.objs.size,_,[s.heap.objs.size],its.toArray.size,_,_,_,rfl,Walks.list (A:=X.A.in1) (show X.A.in1.handled=none from I.ok.hd hc) _ a (Nat.ne_of_lt ha) its.toArray,⟨⟨_,Heap.get?_push_size _ rfl,rfl,rfl⟩,p.isList.push _⟩,fun b hb=>?_,by rw [List.size_toArray,<-hl];exact Nat.succ_pos _,CmpOf.ints_lt _ iv,fun v h' tk hv hk=>?_⟩
 ·rw [Heap.size_push];simp only [List.mem_cons,List.not_mem_nil,or_false] at hb;rcases hb with rfl | rfl
  ·exact Nat.lt_succ_self _
  ·exact Nat.lt_succ_of_lt ha
 ·obtain ⟨t, rfl⟩ := iv _ _ hv;have e:its.toArray.size - 1=ns.length:=by rw [List.size_toArray,<-hl];rfl
  refine ⟨.int _,H,I.kept fun b o hb=>hk b o (fun z=>by rw [List.mem_singleton] at z;subst z;exact absurd (Heap.lt_size hb) (Nat.lt_irrefl _)) (Heap.get?_push_of_some _ hb),⟨_,rfl⟩,?_⟩;rw [e,zor n ns ns.length (Nat.le_refl _),List.take_length];exact q
theorem zxa:OpR X (binaryOp .Add) (fun x y H Q=>∃a b ys,x=.ref a/\y=.ref b/\SqT X.K H a []/\SqT X.K H b ys/\Q (.ref b) H):=by
 intro pins s σ H x y v u Q I rx ry h;refine aG fun _ qG=>?_;obtain ⟨a,b,ys,rfl,rfl,ha,hb,q⟩:=h;refine qG ?_;clear qG;cases rx;cases ry;refine aG fun _ qG=>?_;obtain ⟨its,r1,p1,_⟩:=I.tuple ha;obtain ⟨its2,r2,p2,_⟩:=I.tuple hb;obtain ⟨⟨c1,d1,t1,l1⟩,g1,k1,n1,q1⟩:=id p1;obtain ⟨⟨c2,d2,t2,l2⟩,g2,k2,n2,q2⟩:=id p2;refine qG ?_;clear qG;simp only at k1 q1 k2 q2;subst k1 q1 k2 q2;have e0:its=[]:=by cases r1;rfl
 subst e0;exact concat_meets (T := "tuple") ⟨_,g1,rfl⟩ ⟨_,g2,rfl⟩ noFill_tuple_add seq_tuple_add PySem.F.slot_tuple_add PySem.F.entry_tuple_add (PySem.F.args_tuple_add_2 _ _)
  (tuple_addW0 a b _ _ n1 n2 d1 d2 l1 l2 rfl) ⟨g1,g2,⟨.ref b,H,I.tok _,rfl,q⟩⟩
theorem zr5:OpR X (binaryOp .FloorDiv) (rI (fun _ j=>0 < j/\j.natAbs.log2 < 9000) fun i j=>.int (i / j)):=opI fun i j _ _ _ _ _ hc q=>by
 have h1:(0:Int) < j:=hc.1;exact floordiv_int (by omega) (by rw [Int.fdiv_eq_ediv_of_nonneg i (by omega)];exact q) (.inl (PyProof.noPylong_of_log2 hc.2))
end
section
variable {K:PySem.W.Frag}
noncomputable def z46 (K:PySem.W.Frag):R2:=fun x y H Q=>∃a b ys,x=.ref a/\y=.ref b/\SqT K H a []/\SqT K H b ys/\Q (.ref b) H
theorem zsn:OpS K (z46 K) zxc:=fun F H w1 w2 v1 v2 rv Q s r1 r2 e q=>by
  cases w1 with
  | tup xs =>
    cases xs with
    | cons _ _=>cases w2<;>exact noSome e
    | nil =>
      cases w2 with
      | tup ys =>
        obtain rfl:=sI e;refine aG fun _ qG=>?_;obtain ⟨a,vs,e1,h1,f1,p1⟩:=r1.tup s;obtain ⟨b,us,e2,h2,f2,p2⟩:=r2.tup s;refine qG ?_;clear qG;cases p1;subst e2;exact ⟨a,b,us,e1,rfl,.inl (.inl h1),.inl (.inl h2),q _ _ (.val (.tup f2 p2))⟩
      | _=>exact noSome e
  | _=>exact noSome e
noncomputable def z4s:R2:=fun x y H Q=>∃i j,x=.str i/\y=.str j/\i.length+j.length<=sizeLine/\Q (.str (i++j)) H
theorem zu7:OpS K z4s zs7:=fun F H w1 w2 v1 v2 rv Q s r1 r2 e q=>by
  cases w1 with
  | str x =>
    cases w2 with
    | str y =>
      unfold zs7 at e;simp only at e;split at e
      · rename_i z;obtain rfl:=sI e;exact ⟨x,y,r1.str,r2.str,z,q _ _ (.val (.str _))⟩
      · exact noSome e
    | _=>exact noSome e
  | _=>exact noSome e
noncomputable abbrev ON:=List W->Option (W × Bool)
noncomputable def oLen:ON
 | [w]=>(seqW w).bind fun ws=>some (.int ws.length,false)
 | _=>none
theorem zzg:OpSN K (fun xs H Q=>∃p ys,xs=[.ref p]/\(SqL K H p ys\/SqT K H p ys)/\Q (.int ys.length) H) oLen:=fun F H ws vs rv Q s r e q=>by
  cases r with
  | nil=>exact noSome e
  | cons h r =>
    cases r with
    | cons _ _=>exact noSome e
    | nil =>
      obtain ⟨ws,hs,e⟩:=bS (show (seqW _).bind _=_ from e);obtain rfl:=sI e;obtain ⟨a,vs,e1,hq,p⟩:=h.seqW s hs;subst e1;exact ⟨a,vs,rfl,hq,by rw [<-p.length];exact q _ _ (.val (.int _))⟩
noncomputable def oAbs:ON
 | [.int i]=>some (.int (if i < 0 then -i else i),false)
 | _=>none
theorem RepBs.one {F H:Hp}{w:W}{vs:List V} (r:RepBs K F H [w] vs):∃v,vs=[v]/\RepB K F H w v:=by
 cases r with
 | cons h r=>cases r;exact ⟨_,rfl,h⟩
theorem RepBs.two {F H:Hp}{w u:W}{vs:List V} (r:RepBs K F H [w,u] vs):∃v z,vs=[v,z]/\RepB K F H w v/\RepB K F H u z:=by
 cases r with
 | cons h r=>obtain ⟨z,e,h2⟩:=r.one;subst e;exact ⟨_,z,rfl,h,h2⟩
theorem zw9:OpSN K (fun xs H Q=>∃i,xs=[.int i]/\Q (.int (if i < 0 then -i else i)) H) oAbs:=fun F H ws vs rv Q s r e q=>by
  match ws,e with
  | [.int i],e =>
    obtain rfl:=sI e;obtain ⟨v,e1,h⟩:=r.one;subst e1;exact ⟨i,by rw [h.int],q _ _ (.val (.int _))⟩
noncomputable def oInt:ON
 | [.int i]=>some (.int i,false)
 | [.bl k]=>some (.int (if k then 1 else 0),false)
 | _=>none
theorem zx0:OpSN K (fun xs H Q=>(∃i,xs=[.int i]/\Q (.int i) H)\/∃k,xs=[.bl k]/\Q (.int (if k then 1 else 0)) H) oInt:=fun F H ws vs rv Q s r e q=>by
  match ws,e with
  | [.int i],e =>
    obtain rfl:=sI e;obtain ⟨v,e1,h⟩:=r.one;subst e1;exact .inl ⟨i,by rw [h.int],q _ _ (.val (.int _))⟩
  | [.bl k],e =>
    obtain rfl:=sI e;obtain ⟨v,e1,h⟩:=r.one;subst e1;exact .inr ⟨k,by rw [h.bl],q _ _ (.val (.int _))⟩
noncomputable def zee:ON
 | [.tup ws]=>some (.tup ws,false)
 | [w]=>(seqL w).bind fun ws=>some (.tup ws,false)
 | _=>none
theorem zpo:OpSN K (fun xs H Q=>∃p ys,xs=[.ref p]/\((SqL K H p ys/\∀l,H l=none->Q (.ref l) (upd H l (.tup ys)))\/(SqT K H p ys/\Q (.ref p) H))) zee:=fun F H ws vs rv Q s r e q=>by
  match ws,e with
  | [.tup ws],e =>
    obtain rfl:=sI e;refine aG fun _ qG=>?_;obtain ⟨v,e1,h⟩:=r.one;obtain ⟨a,us,e2,hq,f,p⟩:=h.tup s;refine qG ?_;clear qG;subst e1 e2;exact ⟨a,us,rfl,.inr ⟨.inl (.inl hq),q _ _ (.val (.tup f p))⟩⟩
  | [.lst ws],e =>
    obtain rfl:=sI e;refine aG fun _ qG=>?_;obtain ⟨v,e1,h⟩:=r.one;obtain ⟨a,us,e2,hq,p⟩:=h.lst s;refine qG ?_;clear qG;subst e1 e2;exact ⟨a,us,rfl,.inl ⟨SqL.of' hq,fun l hl=>q _ _ (.tup hl p)⟩⟩
  | [.frl ws],e =>
    obtain rfl:=sI e;refine aG fun _ qG=>?_;obtain ⟨v,e1,h⟩:=r.one;obtain ⟨a,us,e2,hq,p⟩:=h.frl s;refine qG ?_;clear qG;subst e1 e2;exact ⟨a,us,rfl,.inl ⟨hq,fun l hl=>q _ _ (.tup hl p)⟩⟩
  | [.non],e=>exact noSome e
  | [.bl _],e=>exact noSome e
  | [.int _],e=>exact noSome e
  | [.str _],e=>exact noSome e
  | [.dic],e=>exact noSome e
  | [.dct _ _],e=>exact noSome e
noncomputable def zj7:List W->Option (List Bool)
 | []=>some []
 | .bl b::ws=>(zj7 ws).bind fun bs=>some (b::bs)
 | _=>none
noncomputable def zbi:List W->Option (List Int)
 | []=>some []
 | .int b::ws=>(zbi ws).bind fun bs=>some (b::bs)
 | _=>none
theorem zl3:∀{ws:List W}{bs:List Bool},zj7 ws=some bs->ws=bs.map W.bl
  | [],_,e=>by obtain rfl:=sI e;rfl
  | .bl b::ws,_,e=>by
    obtain ⟨bs,h,e⟩:=bS (show (zj7 ws).bind _=_ from e);obtain rfl:=sI e;rw [zl3 h];rfl
  | .non::_,_,e=>by exact noSome e
  | .int _::_,_,e=>by exact noSome e
  | .str _::_,_,e=>by exact noSome e
  | .tup _::_,_,e=>by exact noSome e
  | .lst _::_,_,e=>by exact noSome e
  | .frl _::_,_,e=>by exact noSome e
theorem zdt:∀{ws:List W}{bs:List Int},zbi ws=some bs->ws=bs.map W.int
  | [],_,e=>by obtain rfl:=sI e;rfl
  | .int b::ws,_,e=>by
    obtain ⟨bs,h,e⟩:=bS (show (zbi ws).bind _=_ from e);obtain rfl:=sI e;rw [zdt h];rfl
  | .non::_,_,e=>by exact noSome e
  | .bl _::_,_,e=>by exact noSome e
  | .str _::_,_,e=>by exact noSome e
  | .tup _::_,_,e=>by exact noSome e
  | .lst _::_,_,e=>by exact noSome e
  | .frl _::_,_,e=>by exact noSome e
theorem zc9:∀(ns:List Int),zbi (ns.map W.int)=some ns
 | []=>rfl
 | n::ns=>by show (zbi (ns.map W.int)).bind _=_;rw [zc9 ns];rfl
theorem zh5:∀(ns:List Bool),zj7 (ns.map W.bl)=some ns
 | []=>rfl
 | n::ns=>by show (zj7 (ns.map W.bl)).bind _=_;rw [zh5 ns];rfl
noncomputable def oBl (f:List Bool->Bool):ON
 | [w]=>(seqL w).bind fun ws=>(zj7 ws).bind fun bs=>some (.bl (f bs),false)
 | _=>none
theorem zvi {f:List Bool->Bool}:OpSN K (fun xs H Q=>∃(a:Addr) (bs:List Bool),xs=[.ref a]/\SqL K H a (bs.map V.bl)/\Q (.bl (f bs)) H) (oBl f):=fun F H ws vs rv Q s r e q=>by
  match ws,e with
  | [w],e =>
    refine aG fun _ qG=>?_;obtain ⟨ws,hs,e⟩:=bS (show (seqL _).bind _=_ from e);obtain ⟨bs,hb,e⟩:=bS e;refine qG ?_;clear qG;obtain rfl:=sI e;refine aG fun _ qG=>?_;obtain ⟨v,e1,h⟩:=r.one;obtain ⟨a,us,e2,hq,p⟩:=h.seqL s hs;refine qG ?_;clear qG;subst e1 e2;rw [zl3 hb] at p;rw [p.bls] at hq;exact ⟨a,bs,rfl,hq,q _ _ (.val (.bl _))⟩
noncomputable def oSum:ON
 | [w]=>(seqL w).bind fun ws=>(zbi ws).bind fun ns=>some (.int ns.sum,false)
 | _=>none
theorem zx7:OpSN K (fun xs H Q=>∃(a:Addr) (ns:List Int),xs=[.ref a]/\SqL K H a (ns.map V.int)/\Q (.int ns.sum) H) oSum:=fun F H ws vs rv Q s r e q=>by
  match ws,e with
  | [w],e =>
    refine aG fun _ qG=>?_;obtain ⟨ws,hs,e⟩:=bS (show (seqL _).bind _=_ from e);obtain ⟨bs,hb,e⟩:=bS e;refine qG ?_;clear qG;obtain rfl:=sI e;refine aG fun _ qG=>?_;obtain ⟨v,e1,h⟩:=r.one;obtain ⟨a,us,e2,hq,p⟩:=h.seqL s hs;refine qG ?_;clear qG;subst e1 e2;rw [zdt hb] at p;rw [p.ints] at hq;exact ⟨a,bs,rfl,hq,q _ _ (.val (.int _))⟩
noncomputable def mnW (w:W):Option (W × Bool):=(seqL w).bind fun ws=>(zbi ws).bind fun ns=>match ns with
 | n::r=>some (.int (mn1 n r),false)
 | []=>none
noncomputable def oMin:ON
 | [.int i,.int j]=>some (.int (if j < i then j else i),false)
 | [w]=>mnW w
 | _=>none
noncomputable def mxW (w:W):Option (W × Bool):=(seqL w).bind fun ws=>(zbi ws).bind fun ns=>match ns with
 | n::r=>some (.int (mx1 n r),false)
 | []=>none
noncomputable def mx2:W->W->Option (W × Bool)
 | .int i,.int j=>some (.int (if j > i then j else i),false)
 | _,_=>none
noncomputable def oMax:ON
 | [w]=>mxW w
 | [a,b]=>mx2 a b
 | _=>none
theorem zw5:OpSN K (fun xs H Q=>(∃i j,xs=[.int i,.int j]/\Q (.int (if j < i then j else i)) H)\/∃(a:Addr) (n:Int) (r:List Int),xs=[.ref a]/\SqL K H a ((n::r).map V.int)/\Q (.int (mn1 n r)) H) oMin:=fun F H ws vs rv Q s r e q=>by
  unfold oMin at e;split at e
  · obtain rfl := sI e
    obtain ⟨v,z,e1,h1,h2⟩:=r.two;subst e1;exact .inl ⟨_,_,by rw [h1.int,h2.int],q _ _ (.val (.int _))⟩
  · rename_i w
    refine aG fun _ qG=>?_;obtain ⟨ws,hs,e⟩:=bS (show (seqL w).bind _=some rv from e);obtain ⟨ns,hb,e⟩:=bS e;obtain ⟨v,e1,h⟩:=r.one;obtain ⟨a,us,e2,hq,p⟩:=h.seqL s hs;refine qG ?_;clear qG;subst e1 e2;rw [zdt hb] at p;rw [p.ints] at hq;cases ns with
    | nil=>exact noSome e
    | cons n ns =>
      obtain rfl:=sI e;exact .inr ⟨a,n,ns,rfl,hq,q _ _ (.val (.int _))⟩
  · exact noSome e
theorem zxd:OpSN K (fun xs H Q=>(∃i j,xs=[.int i,.int j]/\Q (.int (if j > i then j else i)) H)\/∃(a:Addr) (n:Int) (r:List Int),xs=[.ref a]/\SqL K H a ((n::r).map V.int)/\Q (.int (mx1 n r)) H) oMax:=fun F H ws vs rv Q s r e q=>by
  match ws,e with
  | [x,y],e =>
    have e:mx2 x y=some rv:=e;unfold mx2 at e;split at e
    · obtain rfl := sI e
      refine aG fun _ qG=>?_;obtain ⟨v,z,e1,h1,h2⟩:=r.two;refine qG ?_;clear qG;subst e1;exact .inl ⟨_,_,by rw [h1.int,h2.int],q _ _ (.val (.int _))⟩
    · exact noSome e
  | [w],e =>
    refine aG fun _ qG=>?_;obtain ⟨ws,hs,e⟩:=bS (show (seqL w).bind _=some rv from e);obtain ⟨ns,hb,e⟩:=bS e;obtain ⟨v,e1,h⟩:=r.one;obtain ⟨a,us,e2,hq,p⟩:=h.seqL s hs;refine qG ?_;clear qG;subst e1 e2;rw [zdt hb] at p;rw [p.ints] at hq;cases ns with
    | nil=>exact noSome e
    | cons n ns =>
      obtain rfl:=sI e;exact .inr ⟨a,n,ns,rfl,hq,q _ _ (.val (.int _))⟩
inductive Kd where
 | int | bool | str | tuple | list
 deriving DecidableEq
noncomputable def Kd.nm:Kd->String
 | .int => "int" | .bool => "bool" | .str => "str" | .tuple => "tuple" | .list => "list"
noncomputable def isiW (k:Kd):W->Option Bool
 | .non=>some false
 | .bl _=>some (k == .bool || k == .int)
 | .int _=>some (k == .int)
 | .str _=>some (k == .str)
 | .tup _=>some (k == .tuple)
 | .lst _=>some (k == .list)
 | .frl _=>none
 | .dic=>some false
 | .dct _ _=>none
noncomputable def oIsi (k:Kd) (w:W):Option (W × Bool):=(isiW k w).bind fun b=>some (.bl b,false)
theorem zzj {F H:Hp}{w:W}{v:V}{k:Kd}{b:Bool} (s:Same F H) (r:RepB K F H w v) (e:isiW k w=some b):∃t,TyOf K H v t/\PySem.W.kitOne K t (.type k.nm)=some b:=by
  cases w with
  | non=>rw [r.non];obtain rfl:=sI e;exact ⟨_,.non,by cases k<;>(with_unfolding_all rfl)⟩
  | bl x=>rw [r.bl];obtain rfl:=sI e;exact ⟨_,.bl x,by cases k<;>(with_unfolding_all rfl)⟩
  | int x=>rw [r.int];obtain rfl:=sI e;exact ⟨_,.int x,by cases k<;>(with_unfolding_all rfl)⟩
  | str x=>rw [r.str];obtain rfl:=sI e;exact ⟨_,.str x,by cases k<;>(with_unfolding_all rfl)⟩
  | tup x=>obtain ⟨a,vs,e1,h,_⟩:=r.tup s;subst e1;obtain rfl:=sI e;exact ⟨_,.tup h,by cases k<;>(with_unfolding_all rfl)⟩
  | lst x=>obtain ⟨a,vs,e1,h,_⟩:=r.lst s;subst e1;obtain rfl:=sI e;exact ⟨_,.lst h,by cases k<;>(with_unfolding_all rfl)⟩
  | frl x=>exact noSome e
  | dic =>
    rcases r with r | ⟨_,_,_,z,_,_,q⟩
    · cases r with
      | dic h=>obtain rfl:=sI e;exact ⟨_,.dK (s _ _ h),by cases k<;>(with_unfolding_all rfl)⟩
    · subst z;cases q
  | dct ks ws=>exact noSome e
noncomputable def rIsi (K:PySem.W.Frag):List V->Hp->VK->Prop:=fun xs H Q=>∃x t c b,xs=[x,.ty c]/\TyOf K H x t/\PySem.W.kitOne K t (.type c)=some b/\Q (.bl b) H
theorem zus {k:Kd}{a:GA}{σ:St}{H:Hp}{Q:VK} (h:tE K (gOp1 (oIsi k) a) σ H Q):tCB (rIsi K) (zcr (tA K a) (zcr (tC (.ty k.nm)) tNil)) σ H Q:=by
 refine aG fun _ qG=>?_;obtain ⟨F,pr,en,en',rv,R,h,q⟩:=h;obtain ⟨⟨e1,x1⟩,h1,h⟩:=bS h;obtain ⟨w1,hw1,h⟩:=bS h;obtain ⟨r',hr,h⟩:=bS h;obtain ⟨b,hb,hr⟩:=bS hr;refine qG ?_;clear qG;obtain rfl:=sI hr;cases h;refine ⟨F,pr,en,e1,x1,R,h1,fun F1 H1 v1 s1 R1 a1=>?_⟩;obtain ⟨t,ty,ek⟩:=zzj R1.sub (a1.repB R1 hw1) hb;exact ⟨v1,t,_,b,rfl,ty,ek,q F1 H1 _ s1 R1 (.bl b)⟩
noncomputable abbrev GO:=En->Option (En × Option Int)
noncomputable def zb8:GO:=fun en=>some (en,none)
noncomputable def zew (g:GE):GO:=fun en=>match g en with
 | some (en',(.int i,_))=>some (en',some i)
 | _=>none
noncomputable def tO (K:PySem.W.Frag) (g:GO):TO:=fun σ H Q=>∃F pr en en' o,Rel K F pr en σ H/\g en=some (en',o)/\∀F' H',Same F F'->Rel K F' pr en' σ H'->Q o H'
theorem Res.isInt {F H:Hp}{pr:Prt}{en:En}{σ:St}{i:Int}{fl:Bool}{v:V} (h:Res K F H pr en σ (.int i,fl) v):v=.int i:=by
 cases fl with
 | false=>cases (show Rep K F (.int i) v from h);rfl
 | true=>obtain ⟨_,_,_,e,_,_,_,q,_⟩:=h;subst e;cases q
theorem zkl {σ:St}{H:Hp}{Q:Option Int->Hp->Prop} (h:tO K zb8 σ H Q):zqa σ H Q:=by
 obtain ⟨F,pr,en,en',o,R,h,q⟩:=h;cases h;exact q F H (.refl F) R
theorem zra {g:GE}{σ:St}{H:Hp}{Q:Option Int->Hp->Prop} (h:tO K (zew g) σ H Q):z10 (tE K g) σ H Q:=by
  refine aG fun _ qG=>?_;obtain ⟨F,pr,en,en',o,R,h,q⟩:=h;refine qG ?_;clear qG;unfold zew at h;cases e:g en with
  | none=>simp only [e] at h;exact noSome h
  | some p =>
    obtain ⟨e1,w,fl⟩:=p;cases w with
    | int c=>simp only [e] at h;cases h;exact ⟨F,pr,en,_,_,R,e,fun F' H' v s' R' z=>⟨c,z.isInt,q F' H' s' R'⟩⟩
    | _=>simp only [e] at h;exact noSome h
open HT in
theorem znz {prog:Program}{w:World}{A:Around}{E:Value->Shared->Prop}{s:Shared}{t sl:Addr}{items:Array Value}{vl vu:Value}{lo hi:Option Int}{Q:Value->Shared->Prop} (ht:IsTup s.heap t items) (hs:s.heap.IsSliceOf sl vl vu .none) (pl:IsPart vl lo) (pu:IsPart vu hi)
  (h0:sIx items.size 0 lo=0) (h1:sIx items.size items.size hi=items.size) (h:Q (.ref t) s):wpAny (model prog w) A (getItem (.ref t) (.ref sl)) Q E s:=by
 obtain ⟨os,g1,g2,_⟩:=id hs;have ty:s.TypeIs (.ref sl) "slice" := ⟨os,g1,g2⟩;unfold getItem
 try with_reducible refine wpAny_holding ?_
 first | refine wpAny_bind (wpAny_pure ?_) | skip
 refine wpAny_bind (wpAny_sequenceKey ht.typeIs (by decide) ?_);refine wpAny_bind (wpAny_callSpecial?_slot (name:=Str.ofString "__getitem__") ht.typeIs PyProof.Rows.slot_tuple_getitem (wpAny_call_entry PyProof.Rows.slot_tuple_getitem ht.typeIs entry_tuple_getitem ?_ (args_tuple_getitem _ _)));show wpAny _ _ (Builtin.Tuple.tupleItemsOf (.ref t) >>= _) _ _ s;refine wpAny_bind (tupleItemsOf_ ht ?_);refine wpAny_bind (wpAny_typeOf ty ?_);rw [if_pos (by decide)];refine wpAny_bind (zct hs pl pu ?_);rw [h0,h1];show wpAny _ _ (if ((((0:Nat):Int) == 0 && (1:Int) == 1 && (items.size - 0) == items.size)=true) then _ else _) _ _ s;rw [if_pos (by simp)];unfold Builtin.Tuple.tupleIsExact;refine wpAny_bind (wpAny_bind (wpAny_typeOf ht.typeIs (wpAny_pure ?_)));rw [if_pos (by decide)];refine wpAny_bind (wpAny_rule (wpAny_pure ⟨_,rfl,?_⟩));exact wpAny_pure h
noncomputable def rSlW (K:PySem.W.Frag):V->Option Int->Option Int->Hp->VK->Prop:=fun x lo hi H Q=>∃a xs,x=.ref a/\SqT K H a xs/\HT.sIx xs.length 0 lo=0/\HT.sIx xs.length xs.length hi=xs.length/\Q x H
theorem zzk {X:Cx}:SlR X (rSlW X.K):=by
 intro pins s σ H x v vl vu lo hi sl Q I rx hs pl pu h;refine aG fun _ qG=>?_;obtain ⟨a,xs,rfl,hx,h0,h1,q⟩:=h;refine qG ?_;clear qG;cases rx;refine aG fun _ qG=>?_;obtain ⟨its,r,ht,hz⟩:=I.tuple hx;refine qG ?_;clear qG;have hlen:its.toArray.size=xs.length:=by rw [List.size_toArray];exact r.length.symm
 exact ⟨"tuple",_,PyProof.Rows.slot_tuple_getitem.lookup,ht.typeIs,znz ht hs pl pu (by rw [hlen];exact h0) (by rw [hlen];exact h1) ⟨.ref a,H,I,rfl,q⟩⟩
noncomputable def cutW (xs:List W) (lo hi:Option Int):List W:=(xs.drop (HT.sIx xs.length 0 lo)).take (HT.sIx xs.length xs.length hi - HT.sIx xs.length 0 lo)
noncomputable def oSl (w:W) (lo hi:Option Int):Option (W × Bool):=match w with
 | .lst ws=>some (.lst (cutW ws lo hi),true)
 | .frl ws=>some (.lst (cutW ws lo hi),true)
 | .tup ws=>some (.tup (cutW ws lo hi),false)
 | _=>none
noncomputable def rSlB (K:PySem.W.Frag):V->Option Int->Option Int->Hp->VK->Prop:=fun x lo hi H Q=>(rSlL K x lo hi H Q\/rSlT K x lo hi H Q)\/rSlW K x lo hi H Q
theorem z2l {F H:Hp}{w:W}{v:V}{lo hi:Option Int}{rv:W × Bool}{Q:VK} (s:Same F H) (r:RepB K F H w v) (e:oSl w lo hi=some rv) (q:∀u H',Out K F H rv u H'->Q u H'):rSlB K v lo hi H Q:=by
  have cut:∀{ws:List W}{vs:List V},Reps K F ws vs->Reps K F (cutW ws lo hi) (cutV vs lo hi):=fun {ws vs} p=>by
    unfold cutW cutV;rw [<-p.length];exact (p.drop _).take _
  cases w with
  | lst ws=>obtain rfl:=sI e;obtain ⟨a,vs,e1,h,p⟩:=r.lst s;exact .inl (.inl ⟨a,vs,e1,SqL.of' h,fun l hl=>q _ _ (.lst hl (cut p))⟩)
  | frl ws=>obtain rfl:=sI e;obtain ⟨a,vs,e1,h,p⟩:=r.frl s;exact .inl (.inl ⟨a,vs,e1,h,fun l hl=>q _ _ (.lst hl (cut p))⟩)
  | tup ws =>
    obtain rfl:=sI e;obtain ⟨a,vs,e1,h,hf,p⟩:=r.tup s;by_cases y:HT.sIx vs.length 0 lo=0/\HT.sIx vs.length vs.length hi=vs.length
    · refine .inr ⟨a, vs, e1, .inl (.inl h), y.1, y.2, ?_⟩
      have ew:cutW ws lo hi=ws:=by
        unfold cutW;rw [p.length,y.1,y.2,List.drop_zero,Nat.sub_zero,<-p.length,List.take_length]
      rw [ew] at q;subst e1;exact q _ _ (.val (.tup hf p))
    · exact .inl (.inr ⟨a,vs,e1,.inl (.inl h),y,fun l hl=>q _ _ (.tup hl (cut p))⟩)
  | _=>exact noSome e
noncomputable def gSl (a:GA) (lo hi:GO):GE:=fun en=>(a en).bind fun p=>(lo p.1).bind fun l=>(hi l.1).bind fun h=>(resA h.1 p.2).bind fun w=>(oSl w l.2 h.2).bind fun r=>some (h.1,r)
theorem zwn {a:GA}{lo hi:GO}{σ:St}{H:Hp}{Q:VK} (h:tE K (gSl a lo hi) σ H Q):tSl (rSlB K) (tA K a) (tO K lo) (tO K hi) σ H Q:=by
 refine aG fun _ qG=>?_;obtain ⟨F,pr,en,en',rv,R,h,q⟩:=h;obtain ⟨⟨e1,x1⟩,h1,h⟩:=bS h;obtain ⟨⟨e2,l⟩,h2,h⟩:=bS h;obtain ⟨⟨e3,u⟩,h3,h⟩:=bS h;obtain ⟨w1,hw1,h⟩:=bS h;obtain ⟨r',hr,h⟩:=bS h;refine qG ?_;clear qG;cases h;refine ⟨F,pr,en,e1,x1,R,h1,fun F1 H1 v1 s1 R1 a1=>⟨F1,pr,e1,e2,l,R1,h2,fun F2 H2 s2 R2=>⟨F2,pr,e2,e3,u,R2,h3,fun F3 H3 s3 R3=>?_⟩⟩⟩;refine z2l R3.sub ((a1.mono (s2.trans s3)).repB R3 hw1) hr fun v H' z=>?_;refine aG fun _ qG=>?_;obtain ⟨F4,s4,R4,y⟩:=z.close R3;refine qG ?_;clear qG;exact q F4 H' v (s1.trans (s2.trans (s3.trans s4))) R4 y
end
end L2
namespace L2
open PySem PySem.Spec PyProof.Rows
structure ItOk (K:PySem.W.Frag) (F:Hp) (J:It) (ws:List W):Prop where
 go:∀i H,Same F H->i < ws.length->J.go i H
 stop:∀H,Same F H->J.stop ws.length H
 yld:∀i H x H',Same F H->i < ws.length->J.yld i H x H'->∃w,ws[i]?=some w/\Out K F H (w,false) x H'
theorem ItOk.mono {K:PySem.W.Frag}{F F' : Hp}{J:It}{ws:List W} (s:Same F F') (h:ItOk K F J ws):ItOk K F' J ws :=
 ⟨fun i H q=>h.go i H (s.trans q),fun H q=>h.stop H (s.trans q),fun i H x H' q hi y=>let ⟨w,e,o⟩:=h.yld i H x H' (s.trans q) hi y;⟨w,e,o.mono s⟩⟩
noncomputable def tI (K:PySem.W.Frag) (g:GL):TI:=fun σ H R=>∃F pr en en' ws,Rel K F pr en σ H/\g en=some (en',ws)/\∀F' H' J,Same F F'->Rel K F' pr en' σ H'->ItOk K F' J ws->R J H'
section
variable {K:PySem.W.Frag}{F H:Hp}
theorem zb2 {F F' : Hp}{a:Addr}{vs:List V} (s:Same F F') (h:SqT K F a vs):SqT K F' a vs:=by
 rcases h with (h | ⟨o,h⟩) | h
 ·exact .inl (.inl (s _ _ h))
 ·exact .inl (.inr ⟨o,s _ _ h⟩)
 ·exact .inr h
theorem zmq {a:Addr}{vs:List V}{ws:List W} (h:SqL K F a vs) (r:Reps K F ws vs):ItOk K F (Itl K a) ws where
 go:=fun i H s hi=>⟨vs,vs[i]'(by rw [<-r.length];exact hi),s.seq h,by rw [List.getElem?_eq_getElem]⟩
 stop:=fun H s=>⟨vs,s.seq h,by rw [r.length];exact Nat.le_refl _⟩
 yld:=fun i H x H' s hi y=>by
  obtain ⟨e,y⟩:=y;subst e;obtain ⟨w,e,q⟩:=r.getV (y vs (s.seq h));exact ⟨w,e,.val q⟩
theorem zzy {a:Addr}{vs:List V}{ws:List W} (h:SqT K F a vs) (r:Reps K F ws vs):ItOk K F (Itt K a) ws where
 go:=fun i H s hi=>⟨vs,vs[i]'(by rw [<-r.length];exact hi),zb2 s h,by rw [List.getElem?_eq_getElem]⟩
 stop:=fun H s=>⟨vs,zb2 s h,by rw [r.length];exact Nat.le_refl _⟩
 yld:=fun i H x H' s hi y=>by
  obtain ⟨e,y⟩:=y;subst e;obtain ⟨w,e,q⟩:=r.getV (y vs (zb2 s h));exact ⟨w,e,.val q⟩
noncomputable def rngW (lo:Int) (n:Nat):List W:=(List.range n).map fun k=>W.int (lo+(k:Nat))
theorem zlt (lo:Int) (n:Nat):ItOk K F (Itr lo n) (rngW lo n) where
 go:=fun i H s hi=>by unfold rngW at hi;rw [List.length_map,List.length_range] at hi;exact hi
 stop:=fun H s=>by unfold rngW;rw [List.length_map,List.length_range];exact Nat.le_refl n
 yld:=fun i H x H' s hi y=>by
  obtain ⟨e,y⟩:=y;subst e y;unfold rngW at hi ⊢;rw [List.length_map,List.length_range] at hi;exact ⟨_,by rw [List.getElem?_map,List.getElem?_range hi];rfl,.val (.int _)⟩
noncomputable def zd3 (ws:List W) (k:Nat):List W:=match ws with
 | []=>[]
 | w::ws=>.tup [.int k,w]::zd3 ws (k+1)
theorem zbj:∀(ws:List W) (k:Nat),(zd3 ws k).length=ws.length
 | [],_=>rfl
 | _::ws,k=>congrArg (· + 1) (zbj ws (k+1))
theorem zcy:∀{ws:List W}{k i:Nat}{w:W},ws[i]?=some w->(zd3 ws k)[i]?=some (.tup [.int (k+i:Nat),w])
  | [],_,_,_,e=>by simp at e
  | w::ws,k,0,_,e=>by simp at e;subst e;rfl
  | w::ws,k,i+1,u,e=>by
    have:=zcy (ws:=ws) (k:=k+1) (i:=i) (w:=u) (by simpa using e);show (zd3 ws (k+1))[i]?=_;rw [this];have:k+1+i=k+(i+1):=by omega
    rw [this]
theorem zys {a:Addr}{vs:List V}{ws:List W} (h:SqL K F a vs) (r:Reps K F ws vs):ItOk K F (Ite K a) (zd3 ws 0) where
 go:=fun i H s hi=>by rw [zbj] at hi;exact ⟨vs,vs[i]'(by rw [<-r.length];exact hi),s.seq h,by rw [List.getElem?_eq_getElem]⟩
 stop:=fun H s=>⟨vs,s.seq h,by rw [zbj,r.length];exact Nat.le_refl _⟩
 yld:=fun i H x H' s hi y=>by
  refine aG fun _ qG=>?_;obtain ⟨p,v,e,hp,e2,y⟩:=y;refine qG ?_;clear qG;subst e e2;obtain ⟨w,e,q⟩:=r.getV (y vs (s.seq h));refine ⟨_,zcy e,?_⟩;rw [Nat.zero_add];exact .tup hp (.cons (.int _) (.cons q .nil))
end
section
variable {X:Cx}{tg:Expr}
noncomputable def iSeq (K:PySem.W.Frag) (tl:TE):TI:=fun σ H R=>tl σ H fun x H1=>∃a,x=.ref a/\((∃xs,SqL K H1 a xs)/\R (Itl K a) H1\/(∃xs,SqT K H1 a xs)/\R (Itt K a) H1)
theorem zve {l:Expr}{tl:TE} (hl:PE X l tl):PI X tg l (iSeq X.K tl):=fun pins s σ H R I h =>
 thn (hl pins s σ H _ I h) fun v s1 ⟨x,H1,I1,r1,a,e,q1⟩=>by
  subst e;cases r1;have fp:∀b∈[s1.heap.objs.size],FpOk X pins H1 b:=fun b hb=>by
   rw [List.mem_singleton] at hb;subst hb;exact I1.fpOk (Nat.le_refl _) (I1.hok.fresh (Nat.le_refl _))
  rcases q1 with ⟨⟨xs,hq⟩,q⟩ | ⟨⟨xs,hq⟩,q⟩
  ·obtain ⟨its, _, p, _⟩ := I1.list hq;exact wpAny_pyIter_list p.isList ⟨_,_,_,_,H1,rfl,I1.kept (t':=s1.toks) fun b o e=>Heap.get?_push_of_some _ e,zri a _,⟨_,Heap.get?_push_size _ rfl,rfl,rfl⟩,fp,q⟩
  ·obtain ⟨its, _, p, _⟩ := I1.tuple hq;exact wpAny_pyIter_tuple (show s1.heap.IsTuple a its.toArray from p) ⟨_,_,_,_,H1,rfl,I1.kept (t':=s1.toks) fun b o e=>Heap.get?_push_of_some _ e,znd a _,⟨_,Heap.get?_push_size _ rfl,rfl,rfl⟩,fp,q⟩
end
noncomputable def zbw (g:GE):GL:=fun en=>(g en).bind fun p=>(seqW p.2.1).bind fun ws=>some (p.1,ws)
noncomputable def zcu (i:Int):Bool:=decide (-(2 ^ 62)<=i) && decide (i < 2 ^ 62)
noncomputable def zca (as:GAs):GL:=fun en=>(as en).bind fun p=>match zas p.1 p.2 with
 | some [.int j]=>if zcu j then some (p.1,rngW 0 j.toNat) else none
 | _=>none
noncomputable def zk3 (as:GAs):GL:=fun en=>(as en).bind fun p=>match zas p.1 p.2 with
 | some [.int i,.int j]=>if zcu i && zcu j then some (p.1,rngW i (j - i).toNat) else none
 | _=>none
noncomputable def gRev (g:GE):GL:=fun en=>(g en).bind fun p=>(seqL p.2.1).bind fun ws=>some (p.1,ws.reverse)
theorem zdf {i:Int} (h:zcu i=true):-(2 ^ 62)<=i/\i < 2 ^ 62:=by
 unfold zcu at h;rw [Bool.and_eq_true] at h;exact ⟨of_decide_eq_true h.1,of_decide_eq_true h.2⟩
section
variable {K:PySem.W.Frag}{σ:St}{H:Hp}
theorem zic {g:GE}{R:It->Hp->Prop} (h:tI K (zbw g) σ H R):iSeq K (tE K g) σ H R:=by
  refine aG fun _ qG=>?_;obtain ⟨F,pr,en,en',ws,Re,h,q⟩:=h;obtain ⟨⟨e1,rv⟩,h1,h⟩:=bS h;obtain ⟨us,hs,h⟩:=bS h;refine qG ?_;clear qG;cases h;refine ⟨F,pr,en,e1,rv,Re,h1,fun F1 H1 v s1 R1 z=>?_⟩;refine aG fun _ qG=>?_;obtain ⟨F2,s2,R2,y⟩:=z.freeze R1;obtain ⟨w,fl⟩:=rv;refine qG ?_;clear qG;cases w with
  | lst xs=>obtain rfl:=sI hs;cases y with
    | lst y r=>exact ⟨_,rfl,.inl ⟨⟨_,SqL.of' (R2.sub _ _ y)⟩,q F2 H1 _ (s1.trans s2) R2 (zmq (SqL.of' y) r)⟩⟩
  | frl xs=>obtain rfl:=sI hs;cases y with
    | frl y r=>exact ⟨_,rfl,.inl ⟨⟨_,R2.sub.seq y⟩,q F2 H1 _ (s1.trans s2) R2 (zmq y r)⟩⟩
  | tup xs=>obtain rfl:=sI hs;cases y with
    | tup y r=>exact ⟨_,rfl,.inr ⟨⟨_,.inl (.inl (R2.sub _ _ y))⟩,q F2 H1 _ (s1.trans s2) R2 (zzy (.inl (.inl y)) r)⟩⟩
  | _=>cases hs
theorem zof {as:GAs}{R:It->Hp->Prop} (h:tI K (zca as) σ H R):z2r (tAs K as) σ H R:=by
  refine aG fun _ qG=>?_;obtain ⟨F,pr,en,en',ws,Re,h,q⟩:=h;obtain ⟨⟨e1,xs⟩,h1,h⟩:=bS h;refine qG ?_;clear qG;refine ⟨F,pr,en,e1,xs,Re,h1,fun F1 H1 vs s1 R1 a1=>?_⟩;cases e:zas e1 xs with
  | none=>simp only [e] at h;exact noSome h
  | some us =>
    have rr:=a1.repBs R1 e
    match us,e,rr with
    | [.int j],e,rr =>
      simp only [e] at h;split at h
      · rename_i z
        cases h;obtain ⟨v,e1,hv⟩:=rr.one;subst e1;exact ⟨j,by rw [hv.int],(zdf z).1,(zdf z).2,q F1 H1 _ s1 R1 (zlt 0 j.toNat)⟩
      · exact noSome h
    | [],e,_=>simp only [e] at h;exact noSome h
    | .non::_,e,_=>simp only [e] at h;exact noSome h
    | .bl _::_,e,_=>simp only [e] at h;exact noSome h
    | .str _::_,e,_=>simp only [e] at h;exact noSome h
    | .tup _::_,e,_=>simp only [e] at h;exact noSome h
    | .lst _::_,e,_=>simp only [e] at h;exact noSome h
    | .frl _::_,e,_=>simp only [e] at h;exact noSome h
    | .dic::_,e,_=>simp only [e] at h;exact noSome h
    | .dct _ _::_,e,_=>simp only [e] at h;exact noSome h
    | .int _::_::_,e,_=>simp only [e] at h;exact noSome h
theorem zn7 {as:GAs}{R:It->Hp->Prop} (h:tI K (zk3 as) σ H R):z0g (tAs K as) σ H R:=by
  refine aG fun _ qG=>?_;obtain ⟨F,pr,en,en',ws,Re,h,q⟩:=h;obtain ⟨⟨e1,xs⟩,h1,h⟩:=bS h;refine qG ?_;clear qG;refine ⟨F,pr,en,e1,xs,Re,h1,fun F1 H1 vs s1 R1 a1=>?_⟩;cases e:zas e1 xs with
  | none=>simp only [e] at h;exact noSome h
  | some us =>
    have rr:=a1.repBs R1 e;simp only [e] at h;split at h
    · rename_i i j e2
      obtain rfl:=sI e2;split at h
      · rename_i z
        rw [Bool.and_eq_true] at z;cases h;refine aG fun _ qG=>?_;obtain ⟨v,v2,e1,hv,hv2⟩:=rr.two;refine qG ?_;clear qG;subst e1;exact ⟨i,j,by rw [hv.int,hv2.int],⟨(zdf z.1).1,(zdf z.1).2,(zdf z.2).1,(zdf z.2).2⟩,q F1 H1 _ s1 R1 (zlt i (j - i).toNat)⟩
      · exact noSome h
    · exact noSome h
end
inductive Tg where
 | nm (i:Nat)
 | tp (is:List Nat)
noncomputable def setAll (mp:List Nat):List Nat->List W->En->Option En
 | [],[],en=>some en
 | i::is,w::ws,en=>if mp.contains i || !decide (i < en.length) then none else setAll mp is ws (en.set i (some (w,false)))
 | _,_,_=>none
noncomputable def tgSet (mp:List Nat):Tg->W->En->Option En
 | .nm i,w,en=>if mp.contains i || !decide (i < en.length) then none else some (en.set i (some (w,false)))
 | .tp is,.tup ws,en=>setAll mp is ws en
 | .tp is,.lst ws,en=>setAll mp is ws en
 | _,_,_=>none
noncomputable def zma:List Nat->TGs
 | []=>gNil
 | i::is=>z2e (znk i) (zma is)
noncomputable def z15 (K:PySem.W.Frag) (n:Nat) (t:TGs):TG:=fun v σ H Q=>∃a xs,v=.ref a/\(SqT K H a xs\/SqL K H a xs)/\xs.length=n/\t xs σ H Q
theorem zpe {X:Cx}{es:List Expr}{k:Nat}{t:TGs}{n:Nat}{pos:Pos} (hc:X.calm=true) (h:PGs X es t) (hn:(assignEach es X.env).length=n) (hst:(assignEach es X.env).findIdx? (·.1)=none):PG X (.Tuple es k pos) (z15 X.K n t):=by
 intro pins s σ H v u Q I r hw;refine aG fun _ qG=>?_;obtain ⟨a,xs,e1,hq,hl,hw⟩:=hw;refine qG ?_;clear qG;rcases hq with hq | hq
 ·exact z16 hc h hn hst pins s σ H v u Q I r ⟨a,xs,e1,hq,hl,hw⟩
 ·subst e1;cases r;refine aG fun _ qG=>?_;obtain ⟨its,rv,⟨o,m,q1,q2,_,q3⟩,hz⟩:=I.list hq;refine qG ?_;clear qG;rw [assign_Tuple];refine wpAny_bind (wpAny_standAt ?_);unfold unpack;have hs:(assignEach es X.env).length=its.toArray.size:=by rw [List.size_toArray,hn,<-hl,rv.length]
  rw [hs,hst];refine wpAny_bind (wpAny_holding (PySem.W.kun_itemsOf (I.ok.hd hc) ⟨o,q1,q2,m,q3⟩ fun h' hx=>?_));have I1:Inv X pins σ H { s with heap:=h' }:=I.kept (t':=s.toks) fun b o e=>hx b o (Nat.ne_of_lt (Heap.lt_size e)) e;exact h pins _ σ H xs _ Q I1 (by simpa using rv) hw
noncomputable def TGof (K:PySem.W.Frag):Tg->TG
 | .nm i=>znk i
 | .tp is=>z15 K is.length (zma is)
noncomputable def Keep (mp:List Nat) (σ σ' : St):Prop:=∀i∈mp,σ'[i]?=σ[i]?
theorem Keep.refl (mp:List Nat) (σ:St):Keep mp σ σ:=fun _ _=>rfl
theorem Keep.trans {mp:List Nat}{σ σ1 σ2:St} (a:Keep mp σ σ1) (b:Keep mp σ1 σ2):Keep mp σ σ2:=fun i h=>(b i h).trans (a i h)
theorem Keep.set {mp:List Nat}{σ:St}{i:Nat} (h:mp.contains i=false) (v:Option V):Keep mp σ (σ.set i v):=fun j hj=>by
 have:i≠j:=fun e=>by subst e;rw [List.contains_iff_mem.mpr hj] at h;cases h
 exact List.getElem?_set_ne this
section
variable {K:PySem.W.Frag}{F H:Hp}{pr:Prt}
theorem zdp {mp:List Nat}{Q:St->Hp->Prop}:∀{is:List Nat}{ws:List W}{vs:List V}{en en' : En}{σ:St},Rel K F pr en σ H->Reps K F ws vs->setAll mp is ws en=some en'->(∀σ',Rel K F pr en' σ' H->Keep mp σ σ'->Q σ' H)->zma is vs σ H Q
  | [],[],_,en,en',σ,R,.nil,h,q=>by obtain rfl:=sI h;exact ⟨rfl,q σ R (.refl _ _)⟩
  | i::is,w::ws,_,en,en',σ,R,.cons (v:=v) (vs:=vs) h0 r,h,q=>by
    unfold setAll at h;split at h
    · exact noSome h
    · rename_i z
      rw [Bool.or_eq_true,not_or,Bool.not_eq_true,Bool.not_eq_true,Bool.not_eq_false'] at z;refine ⟨v,vs,rfl,?_⟩;exact zdp (R.store (r:=(w,false)) (i:=i) h0 (of_decide_eq_true z.2)) r h fun σ' R' k=>q σ' R' ((Keep.set z.1 _).trans k)
  | [],_::_,_,_,_,_,_,_,h,_=>by exact noSome h
  | _::_,[],_,_,_,_,_,_,h,_=>by exact noSome h
theorem zku {mp:List Nat}{T:Tg}{w:W}{v:V}{en en' : En}{σ:St}{Q:St->Hp->Prop} (R:Rel K F pr en σ H) (h0:Rep K F w v) (h:tgSet mp T w en=some en') (q:∀σ',Rel K F pr en' σ' H->Keep mp σ σ'->Q σ' H):TGof K T v σ H Q:=by
  cases T with
  | nm i =>
    unfold tgSet at h;simp only at h;split at h
    · exact noSome h
    · rename_i z
      rw [Bool.or_eq_true,not_or,Bool.not_eq_true,Bool.not_eq_true,Bool.not_eq_false'] at z;obtain rfl:=sI h;exact q _ (R.store (r:=(w,false)) h0 (of_decide_eq_true z.2)) (Keep.set z.1 _)
  | tp is =>
    have go:∀(is:List Nat) (ws:List W) (en en' : En),setAll mp is ws en=some en'->is.length=ws.length:=by
      intro is
      induction is with
      | nil=>intro ws en en' h;cases ws with
        | nil=>rfl
        | cons _ _=>exact noSome h
      | cons i is ih=>intro ws en en' h;cases ws with
        | nil=>exact noSome h
        | cons w ws =>
          unfold setAll at h;split at h
          · exact noSome h
          · exact congrArg (· + 1) (ih _ _ _ h)
    cases w with
    | tup ws =>
      cases h0 with
      | tup hf r =>
        exact ⟨_,_,rfl,.inl (.inl (.inl (R.sub _ _ hf))),by rw [go is ws en en' h,r.length],zdp R r h q⟩
    | lst ws =>
      cases h0 with
      | lst hf r =>
        exact ⟨_,_,rfl,.inr (SqL.of' (R.sub _ _ hf)),by rw [go is ws en en' h,r.length],zdp R r h q⟩
    | _=>exact noSome h
end
inductive Fl where
 | nx | ret (r:W × Bool) | brk | cnt
noncomputable abbrev GS:=En->Option (En × Fl)
noncomputable def zuh (K:PySem.W.Frag) (mp:List Nat) (F:Hp) (pr:Prt) (σ:St) (D:Ends) (en' : En):Fl->Prop
 | .nx=>∀F' σ' H',Same F F'->Rel K F' pr en' σ' H'->Keep mp σ σ'->D.nx σ' H'
 | .brk=>∀F' σ' H',Same F F'->Rel K F' pr en' σ' H'->Keep mp σ σ'->D.bk σ' H'
 | .cnt=>∀F' σ' H',Same F F'->Rel K F' pr en' σ' H'->Keep mp σ σ'->D.ct σ' H'
 | .ret r=>∀F' σ' H' v,Same F F'->Rel K F' pr en' σ' H'->Keep mp σ σ'->Res K F' H' pr en' σ' r v->D.rt v H'
noncomputable def tS (K:PySem.W.Frag) (mp:List Nat) (g:GS):TS:=fun D σ H=>∃F pr en en' fl,Rel K F pr en σ H/\g en=some (en',fl)/\zuh K mp F pr σ D en' fl
theorem zuh.step {K:PySem.W.Frag}{mp:List Nat}{F F1:Hp}{pr:Prt}{σ σ1:St}{D:Ends}{en' : En}{fl:Fl} (s:Same F F1) (k:Keep mp σ σ1) (h:zuh K mp F pr σ D en' fl):zuh K mp F1 pr σ1 D en' fl:=by
 cases fl with
 | nx=>exact fun F' σ' H' s' R' k'=>h F' σ' H' (s.trans s') R' (k.trans k')
 | brk=>exact fun F' σ' H' s' R' k'=>h F' σ' H' (s.trans s') R' (k.trans k')
 | cnt=>exact fun F' σ' H' s' R' k'=>h F' σ' H' (s.trans s') R' (k.trans k')
 | ret r=>exact fun F' σ' H' v s' R' k' z=>h F' σ' H' v (s.trans s') R' (k.trans k') z
noncomputable def zbk:GS:=fun en=>some (en,.nx)
noncomputable def gBrk:GS:=fun en=>some (en,.brk)
noncomputable def gCnt:GS:=fun en=>some (en,.cnt)
noncomputable def gSeq (a b:GS):GS:=fun en=>match a en with
 | some (en',.nx)=>b en'
 | some (en',f)=>some (en',f)
 | none=>none
noncomputable def gRet (g:GE):GS:=fun en=>(g en).bind fun p=>some (p.1,.ret p.2)
noncomputable def z4j:GS:=fun en=>some (en,.ret (.non,false))
noncomputable def gIfS (c:GT) (a b:GS):GS:=fun en=>match c en with
 | some (en',true)=>a en'
 | some (en',false)=>b en'
 | none=>none
noncomputable def zff (g:GE):GS:=fun en=>(g en).bind fun p=>some (p.1,.nx)
noncomputable def gSet (mp:List Nat) (i:Nat) (g:GE):GS:=fun en=>(g en).bind fun p=>if mp.contains i || !decide (i < p.1.length) then none else some (p.1.set i (some p.2),.nx)
noncomputable def gAsg (mp:List Nat) (T:Tg) (g:GE):GS:=fun en=>(g en).bind fun p=>(tgSet mp T p.2.1 p.1).bind fun e=>some (e,.nx)
section
variable {K:PySem.W.Frag}{mp:List Nat}{D:Ends}{σ:St}{H:Hp}
theorem ziv (h:tS K mp zbk D σ H):zxb D σ H:=by
 obtain ⟨F,pr,en,en',fl,R,h,q⟩:=h;cases h;exact q F σ H (.refl F) R (.refl _ _)
theorem ztz {a b:GS} (h:tS K mp (gSeq a b) D σ H):tSeq (tS K mp a) (tS K mp b) D σ H:=by
  refine aG fun _ qG=>?_;obtain ⟨F,pr,en,en',fl,R,h,q⟩:=h;refine qG ?_;clear qG;unfold gSeq at h;cases e:a en with
  | none=>simp only [e] at h;exact noSome h
  | some p =>
    obtain ⟨e1,f1⟩:=p;refine ⟨F,pr,en,e1,f1,R,e,?_⟩;cases f1 with
    | nx =>
      simp only [e] at h;exact fun F1 σ1 H1 s1 R1 k1=>⟨F1,pr,e1,en',fl,R1,h,q.step s1 k1⟩
    | brk=>simp only [e] at h;cases h;exact q
    | cnt=>simp only [e] at h;cases h;exact q
    | ret r=>simp only [e] at h;cases h;exact q
theorem zsi {g:GE} (h:tS K mp (gRet g) D σ H):tRet (tE K g) D σ H:=by
 refine aG fun _ qG=>?_;obtain ⟨F,pr,en,en',fl,R,h,q⟩:=h;obtain ⟨⟨e1,r⟩,h1,h⟩:=bS h;refine qG ?_;clear qG;cases h;exact ⟨F,pr,en,e1,r,R,h1,fun F' H' v s' R' z=>q F' σ H' v s' R' (.refl _ _) z⟩
theorem ztf {c:GT}{a b:GS} (h:tS K mp (gIfS c a b) D σ H):tIfS (tT K c) (tS K mp a) (tS K mp b) D σ H:=by
  refine aG fun _ qG=>?_;obtain ⟨F,pr,en,en',fl,R,h,q⟩:=h;refine qG ?_;clear qG;unfold gIfS at h;cases e:c en with
  | none=>simp only [e] at h;exact noSome h
  | some p =>
    obtain ⟨e1,d⟩:=p;refine ⟨F,pr,en,e1,d,R,e,fun F1 H1 s1 R1=>?_⟩;cases d with
    | true=>simp only [e] at h;exact iteT ⟨F1,pr,e1,en',fl,R1,h,q.step s1 (.refl _ _)⟩
    | false=>simp only [e] at h;exact iteF ⟨F1,pr,e1,en',fl,R1,h,q.step s1 (.refl _ _)⟩
theorem zru {g:GE} (h:tS K mp (zff g) D σ H):zzx (tE K g) D σ H:=by
 refine aG fun _ qG=>?_;obtain ⟨F,pr,en,en',fl,R,h,q⟩:=h;obtain ⟨⟨e1,r⟩,h1,h⟩:=bS h;refine qG ?_;clear qG;cases h;exact ⟨F,pr,en,e1,r,R,h1,fun F' H' v s' R' z=>q F' σ H' s' R' (.refl _ _)⟩
theorem zhf {i:Nat}{g:GE} (h:tS K mp (gSet mp i g) D σ H):tAsg (tE K g) (znk i) D σ H:=by
 refine aG fun _ qG=>?_;obtain ⟨F,pr,en,en',fl,R,h,q⟩:=h;obtain ⟨⟨e1,r⟩,h1,h⟩:=bS h;refine qG ?_;clear qG;split at h
 ·exact noSome h
 ·rename_i z;rw [Bool.or_eq_true,not_or,Bool.not_eq_true,Bool.not_eq_true,Bool.not_eq_false'] at z;cases h;exact ⟨F,pr,en,e1,r,R,h1,fun F' H' v s' R' y=>q F' _ H' s' (R'.store y (of_decide_eq_true z.2)) (Keep.set z.1 _)⟩
theorem zut {T:Tg}{g:GE} (h:tS K mp (gAsg mp T g) D σ H):tAsg (tE K g) (TGof K T) D σ H:=by
 refine aG fun _ qG=>?_;obtain ⟨F,pr,en,en',fl,R,h,q⟩:=h;obtain ⟨⟨e1,r⟩,h1,h⟩:=bS h;obtain ⟨e2,h2,h⟩:=bS h;refine qG ?_;clear qG;cases h;refine ⟨F,pr,en,e1,r,R,h1,fun F1 H1 v s1 R1 y=>?_⟩;refine aG fun _ qG=>?_;obtain ⟨F2,s2,R2,z⟩:=y.freeze R1;refine qG ?_;clear qG;exact zku R2 z h2 fun σ' R' k=>q F2 σ' H1 (s1.trans s2) R' k
noncomputable def gPar (mp:List Nat) (i j:Nat) (a b:GE):GS:=fun en=>(a en).bind fun p=>(b p.1).bind fun q=>if mp.contains i || mp.contains j || !decide (i < q.1.length) || !decide (j < q.1.length) then none else some ((q.1.set i (some (p.2.1,false))).set j (some q.2),.nx)
theorem ztv {i j:Nat}{a b:GE} (h:tS K mp (gPar mp i j a b) D σ H):tPar i j (zcr (tE K a) (zcr (tE K b) tNil)) D σ H:=by
  refine aG fun _ qG=>?_;obtain ⟨F,pr,en,en',fl,R,h,q⟩:=h;obtain ⟨⟨e1,r1⟩,h1,h⟩:=bS h;obtain ⟨⟨e2,r2⟩,h2,h⟩:=bS h;refine qG ?_;clear qG;split at h
  · exact noSome h
  · rename_i z
    simp only [Bool.or_eq_true,not_or,Bool.not_eq_true,Bool.not_eq_false',decide_eq_true_eq] at z;refine aG fun _ qG=>?_;obtain ⟨⟨⟨z1,z2⟩,z3⟩,z4⟩:=z;refine qG ?_;clear qG;cases h;refine ⟨F,pr,en,e1,r1,R,h1,fun F1 H1 v1 s1 R1 y1=>?_⟩;refine aG fun _ qG=>?_;obtain ⟨F2,s2,R2,x1⟩:=y1.freeze R1;refine qG ?_;clear qG;refine ⟨F2,pr,e1,e2,r2,R2,h2,fun F3 H3 v2 s3 R3 y2=>⟨v1,v2,rfl,?_⟩⟩;have Ra:Rel K F3 pr (e2.set i (some (r1.1,false))) (σ.set i (some v1)) H3:=R3.store (r:=(r1.1,false)) (x1.mono s3) z3;have y2' : Res K F3 H3 pr (e2.set i (some (r1.1,false))) (σ.set i (some v1)) r2 v2:=by
      obtain ⟨w2,fl2⟩:=r2;cases fl2 with
      | false=>exact y2
      | true =>
        refine aG fun _ qG=>?_;obtain ⟨a,vs,ws,q1,q2,q3,q4,q5,q6,q7⟩:=y2;refine qG ?_;clear qG;refine ⟨a,vs,ws,q1,q2,q3,q4,q5,fun k w' hk=>?_,q7⟩;rcases zc5 z3 hk with ⟨_,e⟩ | ⟨hne,e⟩
        · cases e
        · rw [List.getElem?_set_ne (Ne.symm hne)];exact q6 k w' e
    exact q F3 _ H3 (s1.trans (s2.trans s3)) (Ra.store y2' (by rw [List.length_set];exact z4)) ((Keep.set z1 _).trans (Keep.set z2 _))
noncomputable def zay (i:Nat) (k:GE) (g:GE):GS:=fun en=>(g en).bind fun p=>match p.1[i]? with
  | some (some _)=>(k p.1).bind fun q=>match q.2,q.1[i]? with
    | (.int n,_),some (some (.lst ws,true))=>(ixN ws.length n).bind fun j=>some (q.1.set i (some (.lst (ws.set j p.2.1),true)),.nx)
    | _,_=>none
  | _=>none
theorem znx {i:Nat}{k g:GE} (h:tS K mp (zay i k g) D σ H):tAsg (tE K g) (gSub (tVar i) (tE K k) zz4) D σ H:=by
 obtain ⟨F,pr,en,en',fl,R,h,q⟩:=h;obtain ⟨⟨e1,r1⟩,h1,h⟩:=bS h;refine ⟨F,pr,en,e1,r1,R,h1,fun F1 H1 v1 s1 R1 y1=>?_⟩;obtain ⟨F2,s2,R2,x1⟩:=y1.freeze R1;split at h
 ·rename_i x0 hx0;obtain ⟨⟨e2,r2⟩,h2,h⟩:=bS h;obtain ⟨w0,f0⟩:=x0;obtain ⟨v0,hv0⟩:=R2.has hx0;refine ⟨v0,hv0,F2,pr,e1,e2,r2,R2,h2,fun F3 H3 v2 s3 R3 y2=>?_⟩;split at h
  ·rename_i n fl2 ws eq1 eq2;simp only at eq1;subst eq1;obtain ⟨j,hj,h⟩:=bS h;cases h;obtain ⟨a,vs,ws',q1,q2,q3,q4,q5⟩:=R3.ownL eq2;cases q1;rw [hv0] at q2;cases q2;refine ⟨a,vs,n,j,rfl,y2.isInt,q3,by rw [<-q5.length];exact hj,?_⟩;exact q F3 σ _ (s1.trans (s2.trans s3)) (R3.change eq2 hv0 (q5.set (x1.mono s3) j)) (.refl _ _)
  ·exact noSome h
 ·exact noSome h
noncomputable def gApp (i:Nat) (g:GE):GE:=fun en=>match en[i]? with
  | some (some (.lst _,true))=>(g en).bind fun p=>match p.1[i]? with
    | some (some (.lst ws,true))=>if ws.length < sizeLine then some (p.1.set i (some (.lst (ws++[p.2.1]),true)),(.non,false)) else none
    | _=>none
  | _=>none
theorem zua {i:Nat}{g:GE}{Q:VK} (h:tE K (gApp i g) σ H Q):tBM K "list" zro (tVar i) (zcr (tE K g) tNil) σ H Q:=by
 refine aG fun _ qG=>?_;obtain ⟨F,pr,en,en',r,R,h,q⟩:=h;refine qG ?_;clear qG;unfold gApp at h;split at h
 ·rename_i w0 hx0;refine aG fun _ qG=>?_;obtain ⟨a,vs,ws0,q1,q2,q3,q4,q5⟩:=R.ownL hx0;obtain ⟨⟨e1,r1⟩,h1,h⟩:=bS h;refine qG ?_;clear qG;refine ⟨.ref a,q2,.inl ⟨rfl,vs,SqL.of' q3⟩,F,pr,en,e1,r1,R,h1,fun F1 H1 v1 s1 R1 y1=>?_⟩;refine aG fun _ qG=>?_;obtain ⟨F2,s2,R2,x1⟩:=y1.freeze R1;refine qG ?_;clear qG;split at h
  ·rename_i ws hx1;split at h
   ·rename_i hz;cases h;refine aG fun _ qG=>?_;obtain ⟨a',vs',ws',p1,p2,p3,p4,p5⟩:=R2.ownL hx1;refine qG ?_;clear qG;cases p1;rw [q2] at p2;cases p2;refine ⟨a,vs',v1,rfl,rfl,p3,by rw [<-p5.length];exact hz,?_⟩;exact q F2 _ _ (s1.trans s2) (R2.change hx1 q2 (p5.append (.cons x1 .nil))) .non
   ·exact noSome h
  ·exact noSome h
 ·exact noSome h
noncomputable def gExt (i:Nat) (g:GE):GE:=fun en=>match en[i]? with
  | some (some (.lst _,true))=>(g en).bind fun p=>match p.2.1,p.1[i]? with
    | .lst us,some (some (.lst ws,true))=>if ws.length+us.length<=sizeLine then some (p.1.set i (some (.lst (ws++us),true)),(.non,false)) else none
    | _,_=>none
  | _=>none
theorem zs9 {i:Nat}{g:GE}{Q:VK} (h:tE K (gExt i g) σ H Q):tBM K "list" zq5 (tVar i) (zcr (tE K g) tNil) σ H Q:=by
  refine aG fun _ qG=>?_;obtain ⟨F,pr,en,en',r,R,h,q⟩:=h;refine qG ?_;clear qG;unfold gExt at h;split at h
  · rename_i w0 hx0
    refine aG fun _ qG=>?_;obtain ⟨a,vs,ws0,q1,q2,q3,q4,q5⟩:=R.ownL hx0;obtain ⟨⟨e1,w1,f1⟩,h1,h⟩:=bS h;refine qG ?_;clear qG;refine ⟨.ref a,q2,.inl ⟨rfl,vs,SqL.of' q3⟩,F,pr,en,e1,(w1,f1),R,h1,fun F1 H1 v1 s1 R1 y1=>?_⟩;refine aG fun _ qG=>?_;obtain ⟨F2,s2,R2,x1⟩:=y1.freeze R1;refine qG ?_;clear qG;split at h
    · rename_i us ws eq1 hx1
      simp only at eq1 x1;subst eq1;split at h
      · rename_i hz
        cases h;refine aG fun _ qG=>?_;obtain ⟨a',vs',ws',p1,p2,p3,p4,p5⟩:=R2.ownL hx1;refine qG ?_;clear qG;cases p1;rw [q2] at p2;cases p2;cases x1 with
        | lst hb rb =>
          refine ⟨a,_,vs',_,rfl,rfl,p3,R2.sub _ _ hb,by rw [<-p5.length,<-rb.length];exact hz,?_⟩;exact q F2 _ _ (s1.trans s2) (R2.change hx1 q2 (p5.append rb)) .non
      · exact noSome h
    · exact noSome h
  · exact noSome h
noncomputable def gAug (mp:List Nat) (o:O2) (i:Nat) (g:GA):GS:=fun en=>match en[i]? with
 | some (some (w,false))=>(g en).bind fun p=>(resA p.1 p.2).bind fun u=>(o w u).bind fun r=>if mp.contains i || !decide (i < p.1.length) then none else some (p.1.set i (some r),.nx)
 | _=>none
noncomputable def zim (mp:List Nat) (T:Tg) (body:GS):List W->En->Option (En × Fl)
  | [],en=>some (en,.nx)
  | w::ws,en=>(tgSet mp T w en).bind fun e1=>match body e1 with
    | some (e2,.nx)=>zim mp T body ws e2
    | some (e2,.cnt)=>zim mp T body ws e2
    | some (e2,.brk)=>some (e2,.nx)
    | some (e2,.ret r)=>some (e2,.ret r)
    | none=>none
noncomputable def gFor (mp:List Nat) (T:Tg) (it:GL) (body:GS):GS:=fun en=>(it en).bind fun p=>zim mp T body p.2 p.1
theorem zu1 {T:Tg}{it:GL}{body:GS} (h:tS K mp (gFor mp T it body) D σ H):tFor (tI K it) (TGof K T) (tS K mp body) D σ H:=by
  refine aG fun _ qG=>?_;obtain ⟨F,pr,en,en',fl,R,h,q⟩:=h;obtain ⟨⟨e1,ws⟩,h1,h⟩:=bS h;refine qG ?_;clear qG;refine ⟨F,pr,en,e1,ws,R,h1,fun F1 H1 J s1 R1 ok=>?_⟩;refine ⟨fun i m σ' H'=>m=ws.length - i/\i<=ws.length/\∃F' e',Same F1 F'/\Rel K F' pr e' σ' H'/\Keep mp σ σ'/\zim mp T body (ws.drop i) e'=some (en',fl),⟨_,rfl,Nat.zero_le _,F1,e1,.refl _,R1,.refl _ _,by simpa using h⟩,?_⟩;rintro i m σ' H' ⟨rfl,hi,F',e',s',R',k',hl⟩;by_cases hlt:i < ws.length
  · refine .inr ⟨ok.go i H' (s'.trans R'.sub) hlt, ?_⟩
    have hd:ws.drop i=ws[i]::ws.drop (i+1):=(List.drop_eq_getElem_cons hlt);rw [hd] at hl;obtain ⟨e2,h2,hl⟩:=bS (show (tgSet mp T ws[i] e').bind _=_ from hl);refine ⟨fun σ2 H2=>∃F2 e3,Same F1 F2/\Rel K F2 pr e3 σ2 H2/\Keep mp σ σ2/\zim mp T body (ws.drop (i+1)) e3=some (en',fl),?_,?_⟩
    · rintro σ2 H2 ⟨F2, e3, s2, R2, k2, hl2⟩
      exact ⟨ws.length - (i+1),by omega,rfl,hlt,F2,e3,s2,R2,k2,hl2⟩
    · intro x H2 y
      obtain ⟨w,ew,out⟩:=ok.yld i H' x H2 (s'.trans R'.sub) hlt y;rw [List.getElem?_eq_getElem hlt] at ew;obtain rfl:=sI ew;refine aG fun _ qG=>?_;obtain ⟨F3,s3,R3,z⟩:=(out.mono s').close R';refine qG ?_;clear qG;refine zku (w:=ws[i]) R3 z h2 fun σ3 R4 k4=>?_;cases eb:body e2 with
      | none=>simp only [eb] at hl;exact noSome hl
      | some p =>
        obtain ⟨e5,f5⟩:=p;refine ⟨F3,pr,e2,e5,f5,R4,eb,?_⟩;have sF:Same F1 F3:=s'.trans s3;cases f5 with
        | nx =>
          simp only [eb] at hl;exact fun F6 σ6 H6 s6 R6 k6=>⟨F6,e5,sF.trans s6,R6,(k'.trans k4).trans k6,hl⟩
        | cnt =>
          simp only [eb] at hl;exact fun F6 σ6 H6 s6 R6 k6=>⟨F6,e5,sF.trans s6,R6,(k'.trans k4).trans k6,hl⟩
        | brk =>
          simp only [eb] at hl;cases hl;exact fun F6 σ6 H6 s6 R6 k6=>q F6 σ6 H6 (s1.trans (sF.trans s6)) R6 ((k'.trans k4).trans k6)
        | ret r =>
          simp only [eb] at hl;cases hl;exact fun F6 σ6 H6 v s6 R6 k6 z=>q F6 σ6 H6 v (s1.trans (sF.trans s6)) R6 ((k'.trans k4).trans k6) z
  · have e : i = ws.length := by omega
    subst e;rw [List.drop_length] at hl;cases hl;exact .inl ⟨ok.stop H' (s'.trans R'.sub),q F' σ' H' (s1.trans s') R' k'⟩
end
section
variable {X:Cx}
noncomputable def zpw:V->List V->Hp->VK->Prop:=fun x vs H Q=>∃(l:Addr) (xs:List V) (k:Nat) (y:V),x=.ref l/\vs=[.int k,y]/\H l=some (.lst xs)/\k<=xs.length/\xs.length < sizeLine/\Q .non (upd H l (.lst (xs.take k++y::xs.drop k)))
theorem zy8 (its:List Value) (k:Nat) (y:Value) (hk:k<=its.length) :
  (fun xs:Array Value=>have k:=if (k:Int) < 0 then ((k:Int)+((xs.size:Nat):Int)).toNat else min (k:Int).toNat xs.size;(xs.extract 0 k).push y++xs.extract k) its.toArray=(its.take k++y::its.drop k).toArray:=by
 have e:(if (k:Int) < 0 then ((k:Int)+((its.toArray.size:Nat):Int)).toNat else min (k:Int).toNat its.toArray.size)=k:=by
  rw [if_neg (by omega),List.size_toArray,Int.toNat_natCast,Nat.min_eq_left hk]
 show (its.toArray.extract 0 (if (k:Int) < 0 then ((k:Int)+((its.toArray.size:Nat):Int)).toNat else min (k:Int).toNat its.toArray.size)).push y++its.toArray.extract (if (k:Int) < 0 then ((k:Int)+((its.toArray.size:Nat):Int)).toNat else min (k:Int).toNat its.toArray.size)=_;rw [e];simp;exact List.take_of_length_le (by rw [List.length_drop];exact Nat.le_refl _)
theorem zok:MtM X "list.insert" zpw:=by
  intro pins s σ H x vs v us Q I rx rv h;refine aG fun _ qG=>?_;obtain ⟨l,xs,k,y,rfl,rfl,hH,hk,hz,q⟩:=h;refine qG ?_;clear qG;cases rx;cases rv with
  | @cons _ u1 _ _ r1 rr =>
    cases rr with
    | @cons _ u2 _ _ r2 rr2 =>
      cases rr2;refine aG fun _ qG=>?_;obtain ⟨t,rfl⟩:=(show ∃t,u1=Value.int k t from r1);obtain ⟨z,its,n,r,hl,e⟩:=I.lstM hH;refine qG ?_;clear qG;have ln:=r.length;have line:sizeLine=16777216:=sizeLine_eq;have fits:Builtin.List.listFitsIndex (k:Int)=true:=by
        unfold Builtin.List.listFitsIndex;rw [Bool.and_eq_true];exact ⟨decide_eq_true (by omega),decide_eq_true (by omega)⟩
      have sz:its.toArray.size<=sizeLine:=Nat.le_of_lt (by rw [List.size_toArray,<-ln];exact hz);have fz:¬(!Builtin.List.listFitsIndex (k:Int))=true:=fun z=>by rw [fits] at z;cases z
      have mm:=@PySem.AutoListH.list_insert_list_int_val_1 l its.toArray n (k:Int) t u2 fz sz;clear fits fz sz;generalize hkk:(k:Int)=kk at mm ⊢;refine call_meets F.slot_list_insert ⟨_,e,rfl⟩ F.entry_list_insert (F.args_list_insert_3 (.ref l) (.int kk t) u2) mm (And.intro e ?_);subst hkk;refine ⟨.non,_,I.lset (its':=its.take k++u2::its.drop k) hH e (zy8 its k u2 (by omega)) ?_ ?_,rfl,q⟩
      · exact (r.take k).append (.cons r2 (r.drop k))
      · rw [List.length_append, List.length_cons, List.length_take, List.length_drop]
        omega
end
section
variable {K:PySem.W.Frag}{σ:St}{H:Hp}
noncomputable def intW:W->Option Int
 | .int k=>some k
 | _=>none
noncomputable def gIns (i:Nat) (g g' : GE):GE:=fun en=>match en[i]? with
  | some (some (.lst _,true))=>(g en).bind fun p=>(g' p.1).bind fun q=>(intW p.2.1).bind fun k=>match q.1[i]? with
    | some (some (.lst ws,true))=>if 0<=k/\k.toNat<=ws.length/\ws.length < sizeLine then some (q.1.set i (some (.lst (ws.take k.toNat++q.2.1::ws.drop k.toNat),true)),(.non,false)) else none
    | _=>none
  | _=>none
theorem zsl {i:Nat}{g g' : GE}{Q:VK} (h:tE K (gIns i g g') σ H Q):tBM K "list" zpw (tVar i) (zcr (tE K g) (zcr (tE K g') tNil)) σ H Q:=by
 refine aG fun _ qG=>?_;obtain ⟨F,pr,en,en',r,R,h,q⟩:=h;refine qG ?_;clear qG;unfold gIns at h;split at h
 ·rename_i w0 hx0;refine aG fun _ qG=>?_;obtain ⟨a,vs,ws0,q1,q2,q3,q4,q5⟩:=R.ownL hx0;obtain ⟨⟨e1,w1,f1⟩,h1,ha⟩:=bS h;obtain ⟨⟨e2,r2⟩,h2,hb⟩:=bS ha;obtain ⟨k,hk,hc⟩:=bS hb;refine qG ?_;clear qG;clear ha hb h;refine ⟨.ref a,q2,.inl ⟨rfl,vs,SqL.of' q3⟩,F,pr,en,e1,(w1,f1),R,h1,fun F1 H1 v1 s1 R1 y1=>⟨F1,pr,e1,e2,r2,R1,h2,fun F2 H2 v2 s2 R2 y2=>?_⟩⟩;refine aG fun _ qG=>?_;obtain ⟨F3,s3,R3,x2⟩:=y2.freeze R2;refine qG ?_;clear qG;split at hc
  ·rename_i ws hx1;have ew:w1=.int k:=by
    cases w1 with
    | int j=>obtain rfl:=sI hk;rfl
    | _=>exact noSome hk
   subst ew;have ek:=y1.isInt;subst ek;by_cases hz:0<=k/\k.toNat<=ws.length/\ws.length < sizeLine
   ·rw [if_pos hz] at hc;cases hc;refine aG fun _ qG=>?_;obtain ⟨a',vs',ws',p1,p2,p3,p4,p5⟩:=R3.ownL hx1;refine qG ?_;clear qG;cases p1;rw [q2] at p2;cases p2;have kc:(k.toNat:Int)=k:=Int.toNat_of_nonneg hz.1;refine ⟨a,vs',k.toNat,v2,rfl,by rw [kc],p3,by rw [<-p5.length];exact hz.2.1,by rw [<-p5.length];exact hz.2.2,?_⟩;exact q F3 _ _ (s1.trans (s2.trans s3)) (R3.change hx1 q2 ((p5.take _).append (.cons x2 (p5.drop _)))) .non
   ·rw [if_neg hz] at hc;exact noSome hc
  ·exact noSome hc
 ·exact noSome h
end
end L2
namespace L2
open PySem PySem.Spec PyProof.Rows
noncomputable abbrev Cap:=List (Option Nat)
noncomputable def zeh (cap:Cap) (en:En):En:=cap.map fun o=>match o with
 | some i=>(en[i]?).getD none
 | none=>none
noncomputable def zar (cap:Cap) (i:Nat):Option Nat:=cap.findIdx? (· == some i)
noncomputable def zb5 (cap:Cap):Bool:=(List.range cap.length).all fun j=>match cap[j]? with
 | some (some i)=>zar cap i == some j
 | _=>true
noncomputable def capKeep (cap:Cap):List Nat:=(List.range cap.length).filter fun j=>match cap[j]? with
 | some (some _)=>true
 | _=>false
noncomputable def za1 (cap:Cap) (en ce:En):En:=en.mapIdx fun i x=>match zar cap i with
 | some j=>(ce[j]?).getD none
 | none=>x
theorem zbb {cap:Cap}{i j:Nat} (h:zar cap i=some j):cap[j]?=some (some i):=by
 unfold zar at h;obtain ⟨hl,h1,_⟩:=List.findIdx?_eq_some_iff_getElem.mp h;rw [List.getElem?_eq_getElem hl];have:cap[j]=some i:=by simpa using h1
 rw [this]
theorem zcs {cap:Cap}{i:Nat} (h:zar cap i=none) (j:Nat):cap[j]?≠some (some i):=fun e=>by
 unfold zar at h;have:=List.findIdx?_eq_none_iff.mp h (some i) (List.mem_of_getElem? e);simp at this
theorem zeq {cap:Cap} (h:zb5 cap=true) {i j:Nat} (e:cap[j]?=some (some i)):zar cap i=some j:=by
 unfold zb5 at h;have hj:j < cap.length:=(List.getElem?_eq_some_iff.mp e).1;have:=List.all_eq_true.mp h j (List.mem_range.mpr hj);simp only [e] at this;simpa using this
theorem zj2 {cap:Cap}{i j:Nat} (e:cap[j]?=some (some i)):j∈capKeep cap:=by
 unfold capKeep;exact List.mem_filter.mpr ⟨List.mem_range.mpr (List.getElem?_eq_some_iff.mp e).1,by simp only [e]⟩
theorem zcx {cap:Cap}{en:En}{j:Nat}{x:W × Bool} (h:(zeh cap en)[j]?=some (some x)):∃i,cap[j]?=some (some i)/\en[i]?=some (some x):=by
  unfold zeh at h;rw [List.getElem?_map] at h;cases e:cap[j]? with
  | none=>rw [e] at h;exact noSome h
  | some o =>
    rw [e] at h;cases o with
    | none=>cases h
    | some i =>
      refine ⟨i,rfl,?_⟩;have h' : (en[i]?).getD none=some x:=sI h;cases e2:en[i]? with
      | none=>rw [e2] at h';exact noSome h'
      | some z=>rw [e2] at h';exact congrArg some h'
theorem zlp {cap:Cap}{σ:St}{i j:Nat} (h:cap[j]?=some (some i)):(capSt cap σ)[j]?=some ((σ[i]?).getD none):=by
 unfold capSt;rw [List.getElem?_map,h]
 rfl
theorem zd5 {cap:Cap}{σ:St}{i j:Nat}{v:V} (h:cap[j]?=some (some i)) (hv:σ[i]?=some (some v)):(capSt cap σ)[j]?=some (some v):=by
 rw [zlp h,hv];rfl
theorem backEn_get {cap:Cap}{en ce:En}{i:Nat}{x:W × Bool} (h:(za1 cap en ce)[i]?=some (some x)):(∃j,zar cap i=some j/\ce[j]?=some (some x))\/(zar cap i=none/\en[i]?=some (some x)):=by
  unfold za1 at h;rw [List.getElem?_mapIdx] at h;cases e:en[i]? with
  | none=>rw [e] at h;exact noSome h
  | some o =>
    rw [e] at h;cases c:zar cap i with
    | none=>simp only [c,Option.map_some] at h;exact .inr ⟨rfl,h⟩
    | some j =>
      simp only [c,Option.map_some] at h;have h' : (ce[j]?).getD none=some x:=sI h;refine .inl ⟨j,rfl,?_⟩;cases e2:ce[j]? with
      | none=>rw [e2] at h';exact noSome h'
      | some z=>rw [e2] at h';exact congrArg some h'
noncomputable def zb4 (pr:Prt) (cap:Cap) (en:En) (σ:St) (H:Hp):Prt:=fun b o=>pr b o\/∃(j:Nat) (w:W),en[j]?=some (some (w,true))/\zar cap j=none/\σ[j]?=some (some (V.ref b))/\H b=some o
noncomputable def zfz (pb:Prt) (acc:Addr) (vs:List V):Prt:=fun b o=>pb b o\/(b=acc/\o=.lst vs)
section
variable {K:PySem.W.Frag}{F H:Hp}{pr pb:Prt}{en:En}{σ:St}
theorem Rel.ownT (R:Rel K F pr en σ H) {j:Nat}{w:W}{b:Addr}{ps:Array Value} (e:en[j]?=some (some (w,true))) (s:σ[j]?=some (some (V.ref b))):H b≠some (.tbl ps):=fun z=>by
 obtain ⟨a,o,w',_,h2,h3,_,h5⟩:=R.own j w e;rw [s] at h2;cases h2;rw [z] at h3;obtain rfl:=sI h3;cases h5
theorem zgi {cap:Cap}{b:Addr}{ps:Array Value} (R:Rel K F pr en σ H) (e:H b=some (.tbl ps)) (hh:∀o,¬ pr b o):∀o,¬ zb4 pr cap en σ H b o:=fun o z=>by
 rcases z with z | ⟨j,w,q1,_,q2,_⟩
 ·exact hh o z
 ·exact R.ownT q1 q2 e
theorem Rel.accUpd {acc:Addr}{vs us:List V} (R:Rel K F (zfz pb acc vs) en σ H) (hb:∀b o,pb b o->b≠acc):Rel K F (zfz pb acc us) en σ (upd H acc (.lst us)):=by
 obtain ⟨a1,a2,a3⟩:=R.prt acc (.lst vs) (.inr ⟨rfl,rfl⟩);have nt:∀b ps,H b=some (.tbl ps)->b≠acc:=fun b ps e z=>by subst z;rw [a1] at e;cases e
 have nx:∀b φ,H b=some (.ext φ)->b≠acc:=fun b φ e z=>by subst z;rw [a1] at e;cases e
 refine ⟨R.len,fun b o e=>?_,R.val,fun i w e=>?_,R.inj,fun b o q=>?_,R.tb.go (fun b ps e f=>⟨by rw [upd_ne (nt b ps e)];exact e,f⟩) (.refl F) fun b ps e hh o z=>z.elim (fun z=>hh o (.inl z)) fun z=>nt b ps e z.1⟩
 ·have : b ≠ acc := fun z => by subst z; rw [a2] at e; exact noSome e
  rw [upd_ne this];exact R.sub _ _ e
 ·refine aG fun Gg qG => ?_;obtain ⟨a,vs',ws,h1,h2,h3,h4,h5⟩:=R.own i w e;refine qG ?_;clear qG;have:a≠acc:=fun z=>by subst z;exact a3 i w e h2
  exact ⟨a,vs',ws,h1,h2,by rw [upd_ne this];exact h3,h4,h5⟩
 ·rcases q with q | ⟨rfl, rfl⟩
  ·obtain ⟨b1, b2, b3⟩ := R.prt b o (.inl q);exact ⟨by rw [upd_ne (hb b o q)];exact b1,b2,b3⟩
  ·exact ⟨upd_same,a2,a3⟩
theorem zo2 {cap:Cap}{acc:Addr} (R:Rel K F pr en σ H) (hn:H acc=none):∀b o,zb4 pr cap en σ H b o->b≠acc:=fun b o q=>by
 rcases q with q | ⟨j,w,_,_,_,q⟩
 ·exact zad (R.prt b o q).1 hn
 ·exact zad q hn
theorem Rel.block {cap:Cap}{acc:Addr} (R:Rel K F pr en σ H) (hn:H acc=none) (nd:zb5 cap=true):Rel K F (zfz (zb4 pr cap en σ H) acc []) (zeh cap en) (capSt cap σ) (upd H acc (.lst [])):=by
 have fa:F acc=none:=R.sub.free hn;have R2:=R.lay hn (.lst []);refine ⟨by unfold zeh capSt;rw [List.length_map,List.length_map],R2.sub,fun j w e=>?_,fun j w e=>?_,fun j l a w w' e1 e2 q1 q2=>?_,fun b o q=>?_,R.tb.go (fun b ps e f=>⟨by rw [upd_ne (zad e hn)];exact e,f⟩) (.refl F) fun b ps e hh o z=>z.elim (zgi R e hh o) fun z=>zad e hn z.1⟩
 ·refine aG fun Gg qG => ?_;obtain ⟨i,c,e⟩:=zcx e;obtain ⟨v,h1,h2⟩:=R.val i w e;refine qG ?_;clear qG;exact ⟨v,zd5 c h1,h2⟩
 ·refine aG fun Gg qG => ?_;obtain ⟨i,c,e⟩:=zcx e;obtain ⟨a,vs,ws,h1,h2,h3,h4,h5⟩:=R2.own i w e;refine qG ?_;clear qG;exact ⟨a,vs,ws,h1,zd5 c h2,h3,h4,h5⟩
 ·refine aG fun Gg qG => ?_;obtain ⟨i,c1,e1⟩:=zcx e1;obtain ⟨k,c2,e2⟩:=zcx e2;obtain ⟨i',c1',q1⟩:=capSt_get q1;obtain ⟨k',c2',q2⟩:=capSt_get q2;refine qG ?_;clear qG;rw [c1] at c1';cases c1';rw [c2] at c2';cases c2';have:=R.inj i k a _ _ e1 e2 q1 q2;subst this;have x:=zeq nd c1;rw [zeq nd c2] at x;exact (sI x).symm
 ·have own2:∀(j:Nat) (w:W),(zeh cap en)[j]?=some (some (w,true))->∃(i:Nat) (a:Addr),cap[j]?=some (some i)/\en[i]?=some (some (w,true))/\σ[i]?=some (some (V.ref a))/\(capSt cap σ)[j]?=some (some (V.ref a))/\∃o,H a=some o:=fun j w e=>by
   refine aG fun _ qG=>?_;obtain ⟨i,c,e⟩:=zcx e;obtain ⟨a,vs,ws,h1,h2,h3,h4,h5⟩:=R.own i w e;refine qG ?_;clear qG;exact ⟨i,a,c,e,h2,zd5 c h2,_,h3⟩
  rcases q with (q | ⟨j0,w0,e0,c0,s0,h0⟩) | ⟨rfl,rfl⟩
  ·obtain ⟨b1, b2, b3⟩ := R2.prt b o q;refine ⟨b1,b2,fun j w e=>?_⟩;refine aG fun _ qG=>?_;obtain ⟨i,a,_,e,h2,h3,_⟩:=own2 j w e;refine qG ?_;clear qG;rw [h3];intro z;cases z;exact b3 i w e h2
  ·refine aG fun Gg qG => ?_;obtain ⟨a,vs,ws,h1,h2,h3,h4,h5⟩:=R.own j0 w0 e0;refine qG ?_;clear qG;rw [s0] at h2;cases h2;refine ⟨by rw [upd_ne (zad h0 hn)];exact h0,h4,fun j w e=>?_⟩;refine aG fun _ qG=>?_;obtain ⟨i,a,c,e,h2,h3,_⟩:=own2 j w e;refine qG ?_;clear qG;rw [h3];intro z;cases z;have:=R.inj i j0 _ _ _ e e0 h2 s0;subst this;exact zcs c0 j c
  ·refine ⟨upd_same, fa, fun j w e => ?_⟩;refine aG fun _ qG=>?_;obtain ⟨i,a,c,e,h2,h3,o,h4⟩:=own2 j w e;refine qG ?_;clear qG;rw [h3];intro z;cases z;rw [hn] at h4;exact noSome h4
theorem Rel.unblock {cap:Cap}{acc:Addr}{F' H' : Hp}{ce:En}{σc:St}{vs:List V}{ws:List W} (R:Rel K F pr en σ H) (hn:H acc=none) (s:Same F F') (Rc:Rel K F' (zfz (zb4 pr cap en σ H) acc vs) ce σc H') (kp:Keep (capKeep cap) (capSt cap σ) σc) (rs:Reps K F' ws vs) :
  Rel K F' pr (za1 cap en ce) σ H'/\Res K F' H' pr (za1 cap en ce) σ (.lst ws,true) (.ref acc):=by
 have slot:∀(i j:Nat) (v:V),zar cap i=some j->σc[j]?=some (some v)->σ[i]?=some (some v):=fun i j v c e=>by
  have c':=zbb c;rw [kp j (zj2 c'),zlp c'] at e;have e' : (σ[i]?).getD none=some v:=sI e;cases q:σ[i]? with
  | none=>rw [q] at e';exact noSome e'
  | some z=>rw [q] at e';exact congrArg some e'
 obtain ⟨a1,a2,a3⟩:=Rc.prt acc (.lst vs) (.inr ⟨rfl,rfl⟩);have un:∀(i:Nat) (w:W),zar cap i=none->en[i]?=some (some (w,true))->∃(a:Addr) (vs:HO) (ws:W),w=ws/\σ[i]?=some (some (V.ref a))/\H a=some vs/\H' a=some vs/\F' a=none/\OwnR K F ws vs/\∀(j:Nat) (w' : W),ce[j]?=some (some (w',true))->σc[j]?≠some (some (V.ref a)):=fun i w c e=>by
  refine aG fun _ qG=>?_;obtain ⟨a,vs,ws,h1,h2,h3,h4,h5⟩:=R.own i w e;obtain ⟨b1,b2,b3⟩:=Rc.prt a vs (.inl (.inr ⟨i,w,e,c,h2,h3⟩));refine qG ?_;clear qG;exact ⟨a,vs,ws,h1,h2,h3,b1,b2,h5,b3⟩
 have capt:∀(i j:Nat) (w:W),zar cap i=some j->ce[j]?=some (some (w,true))->∃(a:Addr) (vs:HO) (ws:W),w=ws/\σ[i]?=some (some (V.ref a))/\σc[j]?=some (some (V.ref a))/\H' a=some vs/\F' a=none/\OwnR K F' ws vs:=fun i j w c e=>by
  refine aG fun _ qG=>?_;obtain ⟨a,vs,ws,h1,h2,h3,h4,h5⟩:=Rc.own j w e;refine qG ?_;clear qG;exact ⟨a,vs,ws,h1,slot i j _ c h2,h2,h3,h4,h5⟩
 refine ⟨⟨by unfold za1;rw [List.length_mapIdx];exact R.len,Rc.sub,fun i w e=>?_,fun i w e=>?_,fun i k a w w' e1 e2 q1 q2=>?_,fun b o q=>?_,Rc.tb.go (fun b ps e f=>⟨e,f⟩) (.refl F') fun b ps e hh o z=>hh o (.inl (.inl z))⟩,acc,_,_,rfl,rfl,a1,a2,.lst rs,fun i w e=>?_,fun b o q=>zad (R.prt b o q).1 hn⟩
 ·rcases backEn_get e with ⟨j, c, e⟩ | ⟨c, e⟩
  ·obtain ⟨v, h1, h2⟩ := Rc.val j w e;exact ⟨v,slot i j v c h1,h2⟩
  ·obtain ⟨v, h1, h2⟩ := R.val i w e;exact ⟨v,h1,h2.mono s⟩
 ·rcases backEn_get e with ⟨j, c, e⟩ | ⟨c, e⟩
  ·refine aG fun Gg qG => ?_;obtain ⟨a,vs,ws,h1,h2,_,h3,h4,h5⟩:=capt i j w c e;refine qG ?_;clear qG;exact ⟨a,vs,ws,h1,h2,h3,h4,h5⟩
  ·refine aG fun Gg qG => ?_;obtain ⟨a,vs,ws,h1,h2,_,h3,h4,h5,_⟩:=un i w c e;refine qG ?_;clear qG;exact ⟨a,vs,ws,h1,h2,h3,h4,h5.mono s⟩
 ·rcases backEn_get e1 with ⟨j, c, e1⟩ | ⟨c, e1⟩
  ·refine aG fun Gg qG => ?_;obtain ⟨a',_,_,_,h2,h3,_⟩:=capt i j w c e1;refine qG ?_;clear qG;rw [q1] at h2;cases h2;rcases backEn_get e2 with ⟨l,c2,e2⟩ | ⟨c2,e2⟩
   ·refine aG fun Gg qG => ?_;obtain ⟨a',_,_,_,g2,g3,_⟩:=capt k l w' c2 e2;refine qG ?_;clear qG;rw [q2] at g2;cases g2;have:=Rc.inj j l a _ _ e1 e2 h3 g3;subst this;have x:=zbb c;rw [zbb c2] at x;cases x;rfl
   ·refine aG fun Gg qG => ?_;obtain ⟨a',_,_,_,g2,_,_,_,_,g3⟩:=un k w' c2 e2;refine qG ?_;clear qG;rw [q2] at g2;cases g2;exact absurd h3 (g3 j w e1)
  ·refine aG fun Gg qG => ?_;obtain ⟨a',_,_,_,h2,_,_,_,_,h3⟩:=un i w c e1;refine qG ?_;clear qG;rw [q1] at h2;cases h2;rcases backEn_get e2 with ⟨l,c2,e2⟩ | ⟨c2,e2⟩
   ·refine aG fun Gg qG => ?_;obtain ⟨a',_,_,_,g2,g3,_⟩:=capt k l w' c2 e2;refine qG ?_;clear qG;rw [q2] at g2;cases g2;exact absurd g3 (h3 l w' e2)
   ·exact R.inj i k a _ _ e1 e2 q1 q2
 ·obtain ⟨b1, b2, b3⟩ := Rc.prt b o (.inl (.inl q));refine ⟨b1,b2,fun i w e=>?_⟩;rcases backEn_get e with ⟨j,c,e⟩ | ⟨c,e⟩
  ·refine aG fun Gg qG => ?_;obtain ⟨a,_,_,_,h2,h3,_⟩:=capt i j w c e;refine qG ?_;clear qG;rw [h2];intro z;cases z;exact b3 j w e h3
  ·exact (R.prt b o q).2.2 i w e
 ·rcases backEn_get e with ⟨j, c, e⟩ | ⟨c, e⟩
  ·refine aG fun Gg qG => ?_;obtain ⟨a,_,_,_,h2,h3,_⟩:=capt i j w c e;refine qG ?_;clear qG;rw [h2];intro z;cases z;exact a3 j w e h3
  ·refine aG fun Gg qG => ?_;obtain ⟨a,_,_,_,h2,h3,_⟩:=un i w c e;refine qG ?_;clear qG;rw [h2];intro z;cases z;rw [hn] at h3;exact noSome h3
end
noncomputable def ze2 (mp:List Nat) (T:Tg) (tc:GT) (te:GE):List W->En->Option (En × List W)
  | [],ce=>some (ce,[])
  | w::ws,ce=>(tgSet mp T w ce).bind fun c1=>match tc c1 with
    | some (c2,true)=>(te c2).bind fun p=>(ze2 mp T tc te ws p.1).bind fun q=>some (q.1,p.2.1::q.2)
    | some (c2,false)=>ze2 mp T tc te ws c2
    | none=>none
noncomputable def zcq (cap:Cap) (T:Tg) (it:GL) (tc:GT) (te:GE):GE:=fun en=>(it en).bind fun p=>if zb5 cap && decide (p.2.length<=sizeLine) then (ze2 (capKeep cap) T tc te p.2 (zeh cap p.1)).bind fun q=>some (za1 cap p.1 q.1,(.lst q.2,true)) else none
noncomputable def gYes:GT:=fun en=>some (en,true)
noncomputable def zea (mp:List Nat) (T:Tg) (tc:GT) (em:GL):List W->En->Option (En × List W)
  | [],ce=>some (ce,[])
  | w::ws,ce=>(tgSet mp T w ce).bind fun c1=>match tc c1 with
    | some (c2,true)=>(em c2).bind fun p=>(zea mp T tc em ws p.1).bind fun q=>some (q.1,p.2++q.2)
    | some (c2,false)=>zea mp T tc em ws c2
    | none=>none
noncomputable def gOne (te:GE):GL:=fun en=>(te en).bind fun p=>some (p.1,[p.2.1])
noncomputable def zvp (cap:Cap) (T:Tg) (it:GL) (tc:GT) (em:GL):GE:=fun en=>(it en).bind fun p=>if zb5 cap then (zea (capKeep cap) T tc em p.2 (zeh cap p.1)).bind fun q=>if q.2.length<=sizeLine then some (za1 cap p.1 q.1,(.lst q.2,true)) else none else none
theorem zfd {mp:List Nat}{T:Tg}{tc:GT}{te:GE}:∀{ws:List W}{ce ce' : En}{out:List W},ze2 mp T tc te ws ce=some (ce',out)->zea mp T tc (gOne te) ws ce=some (ce',out)/\out.length<=ws.length
  | [],_,_,_,h=>by cases h;exact ⟨rfl,Nat.le_refl _⟩
  | w::ws,ce,ce',out,h=>by
    obtain ⟨c1,h1,h⟩:=bS (show (tgSet mp T w ce).bind _=_ from h);have e:zea mp T tc (gOne te) (w::ws) ce=match tc c1 with
      | some (c2,true)=>(gOne te c2).bind fun p=>(zea mp T tc (gOne te) ws p.1).bind fun q=>some (q.1,p.2++q.2)
      | some (c2,false)=>zea mp T tc (gOne te) ws c2
      | none=>none:=by rw [zea,h1];rfl
    rw [e];cases et:tc c1 with
    | none=>simp only [et] at h;exact noSome h
    | some p =>
      obtain ⟨c2,b⟩:=p;cases b with
      | false=>simp only [et] at h;exact ⟨(zfd h).1,Nat.le_succ_of_le (zfd h).2⟩
      | true =>
        simp only [et] at h;obtain ⟨⟨c3,rv⟩,h5,h⟩:=bS h;obtain ⟨⟨c4,rest⟩,h6,h⟩:=bS h;cases h;refine ⟨?_,Nat.succ_le_succ (zfd h6).2⟩;show (gOne te c2).bind _=_;rw [gOne,h5];show (zea mp T tc (gOne te) ws c3).bind _=_;rw [(zfd h6).1]
        rfl
noncomputable def MOk (K:PySem.W.Frag) (mp:List Nat) (pb:Prt) (acc:Addr) (em:GL) (tm:TM):Prop:=∀(F:Hp) (ce:En) (σ:St) (H:Hp) (vs:List V) (ce' : En) (out:List W) (N:St->Hp->Prop),Rel K F (zfz pb acc vs) ce σ H->em ce=some (ce',out)->vs.length+out.length<=sizeLine ->
 (∀F' σ' H' us,Same F F'->Rel K F' (zfz pb acc (vs++us)) ce' σ' H'->Keep mp σ σ'->Reps K F' out us->N σ' H')->tm σ H N
section
variable {K:PySem.W.Frag}{mp:List Nat}{pb:Prt}{acc:Addr}
theorem z3m {te:GE} (hb:∀b o,pb b o->b≠acc):MOk K mp pb acc (gOne te) (ztq acc (tE K te)):=by
 intro F ce σ H vs ce' out N R h hz q;refine aG fun _ qG=>?_;obtain ⟨⟨c3,rv⟩,h5,h⟩:=bS h;refine qG ?_;clear qG;cases h;refine ⟨F,_,ce,c3,rv,R,h5,fun F6 H6 v s6 R6 y6=>?_⟩;refine aG fun _ qG=>?_;obtain ⟨F7,s7,R7,y7⟩:=y6.freeze R6;obtain ⟨a1,_,_⟩:=R7.prt acc (.lst vs) (.inr ⟨rfl,rfl⟩);refine qG ?_;clear qG;exact ⟨vs,a1,hz,q F7 σ _ [v] (s6.trans s7) (R7.accUpd hb) (.refl _ _) (.cons y7 .nil)⟩
theorem zyg {em:GL}{tm:TM}{T:Tg}{tc:GT}{F1:Hp}{vs0:List V}{ce0 ce' : En}{σ0:St}{H0:Hp}{J:It}{ws out:List W}{N0:St->Hp->Prop} (M:MOk K mp pb acc em tm) (R:Rel K F1 (zfz pb acc vs0) ce0 σ0 H0) (ok:ItOk K F1 J ws) (h:zea mp T tc em ws ce0=some (ce',out)) (hz:vs0.length+out.length<=sizeLine)
    (q:∀F' σ' H' us,Same F1 F'->Rel K F' (zfz pb acc (vs0++us)) ce' σ' H'->Keep mp σ0 σ'->Reps K F' out us->N0 σ' H'):zlv J (TGof K T) (tT K tc) tm σ0 H0 N0:=by
  refine ⟨fun i m σc Hc=>m=ws.length - i/\i<=ws.length/\∃F' ce dn us rest,Same F1 F'/\Rel K F' (zfz pb acc (vs0++us)) ce σc Hc/\Keep mp σ0 σc/\Reps K F' dn us/\zea mp T tc em (ws.drop i) ce=some (ce',rest)/\dn++rest=out,
    ⟨_,rfl,Nat.zero_le _,F1,ce0,[],[],out,.refl _,by rw [List.append_nil];exact R,.refl _ _,.nil,h,rfl⟩,?_⟩
  rintro i m σc Hc ⟨rfl,hi,F',ce,dn,us,rest,s',R',k',rd,hl,ho⟩;by_cases hlt:i < ws.length
  · refine .inr ⟨ok.go i Hc (s'.trans R'.sub) hlt, ?_⟩
    have hd:ws.drop i=ws[i]::ws.drop (i+1):=(List.drop_eq_getElem_cons hlt);rw [hd] at hl;obtain ⟨c1,h3,hl⟩:=bS (show (tgSet mp T ws[i] ce).bind _=_ from hl);refine ⟨fun σ2 H2=>∃F' ce dn us rest,Same F1 F'/\Rel K F' (zfz pb acc (vs0++us)) ce σ2 H2/\Keep mp σ0 σ2/\Reps K F' dn us/\zea mp T tc em (ws.drop (i+1)) ce=some (ce',rest)/\dn++rest=out,fun σ2 H2 z=>⟨ws.length - (i+1),by omega,rfl,hlt,z⟩,?_⟩;intro x H2 y;obtain ⟨w,ew,o⟩:=ok.yld i Hc x H2 (s'.trans R'.sub) hlt y;rw [List.getElem?_eq_getElem hlt] at ew;obtain rfl:=sI ew;refine aG fun _ qG=>?_;obtain ⟨F3,s3,R3,z3⟩:=(o.mono s').close R';refine qG ?_;clear qG;refine zku (w:=ws[i]) R3 z3 h3 fun σ3 R4 k4=>?_;cases et:tc c1 with
    | none=>simp only [et] at hl;exact noSome hl
    | some p =>
      obtain ⟨c2,b⟩:=p;refine ⟨F3,_,c1,c2,b,R4,et,fun F5 H5 s5 R5=>?_⟩;cases b with
      | false =>
        simp only [et] at hl;exact iteF ⟨F5,c2,dn,us,rest,s'.trans (s3.trans s5),R5,k'.trans k4,rd.mono (s3.trans s5),hl,ho⟩
      | true =>
        simp only [et] at hl;refine aG fun _ qG=>?_;obtain ⟨⟨c3,o1⟩,h5,hl⟩:=bS hl;obtain ⟨⟨c4,rest'⟩,h6,hl⟩:=bS hl;refine qG ?_;clear qG;cases hl;refine iteT (M F5 c2 σ3 H5 (vs0++us) c3 o1 _ R5 h5 ?_ fun F6 σ6 H6 us2 s6 R6 k6 r6=>?_)
        · dsimp only at ho
          rw [<-ho,List.length_append,List.length_append,rd.length] at hz;rw [List.length_append];omega
        · have sAll : Same F' F6 := s3.trans (s5.trans s6)
          exact ⟨F6,c3,dn++o1,us++us2,rest',s'.trans sAll,by rw [<-List.append_assoc];exact R6,k'.trans (k4.trans k6),(rd.mono sAll).append r6,h6,by rw [List.append_assoc];exact ho⟩
  · have e : i = ws.length := by omega
    subst e;rw [List.drop_length] at hl;cases hl;rw [List.append_nil] at ho;subst ho;exact .inl ⟨ok.stop Hc (s'.trans R'.sub),q F' σc Hc us s' R' k' rd⟩
end
theorem zm5 {K:PySem.W.Frag}{cap:Cap}{T:Tg}{it:GL}{tc:GT}{em:GL}{tm:Addr->TM}{σ:St}{H:Hp}{Q:VK} (M:∀(pb:Prt) (acc:Addr),(∀b o,pb b o->b≠acc)->MOk K (capKeep cap) pb acc em (tm acc)) (h:tE K (zvp cap T it tc em) σ H Q):zq3 (tI K it) cap (TGof K T) (tT K tc) tm σ H Q:=by
 refine aG fun _ qG=>?_;obtain ⟨F,pr,en,en',r,R,h,q⟩:=h;obtain ⟨⟨e1,ws⟩,h1,h⟩:=bS h;refine qG ?_;clear qG;refine ⟨F,pr,en,e1,ws,R,h1,fun F1 H1 J s1 R1 ok acc hacc=>?_⟩;split at h
 ·rename_i nd;refine aG fun _ qG=>?_;obtain ⟨⟨ce',out⟩,h2,h⟩:=bS h;refine qG ?_;clear qG;split at h
  ·rename_i hz;cases h;refine zyg (M _ acc (zo2 (cap:=cap) R1 hacc)) (R1.block hacc nd) ok h2 (by rw [List.length_nil,Nat.zero_add];exact hz) fun F' σ' H' us s' R' k' rd=>?_;obtain ⟨Ro,rz⟩:=R1.unblock hacc s' R' k' rd;exact q F' H' _ (s1.trans s') Ro rz
  ·exact noSome h
 ·exact noSome h
theorem zre {K:PySem.W.Frag}{cap:Cap}{T:Tg}{it:GL}{tc:GT}{te:GE}{σ:St}{H:Hp}{Q:VK} (h:tE K (zcq cap T it tc te) σ H Q):zq3 (tI K it) cap (TGof K T) (tT K tc) (fun acc=>ztq acc (tE K te)) σ H Q:=by
 refine zm5 (fun pb acc hb=>z3m hb) ?_;obtain ⟨F,pr,en,en',r,R,h,q⟩:=h;refine ⟨F,pr,en,en',r,R,?_,q⟩;refine aG fun _ qG=>?_;obtain ⟨⟨e1,ws⟩,h1,h⟩:=bS h;refine qG ?_;clear qG;split at h
 ·rename_i z;rw [Bool.and_eq_true] at z;refine aG fun _ qG=>?_;obtain ⟨⟨ce',out⟩,h2,h⟩:=bS h;refine qG ?_;clear qG;obtain ⟨h3,h4⟩:=zfd h2;rw [zvp,h1];show (if zb5 cap=true then (zea (capKeep cap) T tc (gOne te) ws (zeh cap e1)).bind _ else none)=_;rw [if_pos z.1,h3];show (if out.length<=sizeLine then _ else none)=_;rw [if_pos (Nat.le_trans h4 (of_decide_eq_true z.2))];exact h
 ·exact noSome h
noncomputable def z4x:GE:=fun en=>some (en,(.dic,false))
noncomputable def keyW:W->Bool
 | .int _=>true
 | .str _=>true
 | _=>false
noncomputable def z4b (k v:GE):GE:=fun en=>(k en).bind fun p=>if keyW p.2.1 then (v p.1).bind fun q=>some (q.1,(.dic,false)) else none
end L2
namespace L2
open PySem PySem.Spec PyProof.Rows
noncomputable def Src (h:Heap) (it l:Addr) (k:Nat) (xs:Array Value):Prop:=(h.IsListIter it l k/\h.IsList l xs)\/(h.IsTupleIter it l k/\h.IsTuple l xs)
theorem Src.at {h h' : Heap}{it l:Addr}{k:Nat}{xs:Array Value} (c:Src h it l k xs) (a:∀o,h.get? it=some o->h'.get? it=some o) (b:∀o,h.get? l=some o->h'.get? l=some o):Src h' it l k xs:=by
 rcases c with ⟨p,q⟩ | ⟨p,q⟩
 ·exact .inl ⟨p.at a,q.at b⟩
 ·obtain ⟨o, e, r⟩ := q;exact .inr ⟨p.at a,o,b o e,r⟩
theorem Src.iter {h:Heap}{it l:Addr}{k:Nat}{xs:Array Value} (c:Src h it l k xs):∃o,h.get? it=some o/\∀v,o.data≠.cell v:=by
 rcases c with ⟨⟨o,e,_,d⟩,_⟩ | ⟨⟨o,e,_,d⟩,_⟩
 ·exact ⟨o,e,fun v z=>by rw [d] at z;cases z⟩
 ·exact ⟨o,e,fun v z=>by rw [d] at z;cases z⟩
theorem Src.src {h:Heap}{it l:Addr}{k:Nat}{xs:Array Value} (c:Src h it l k xs):∃o,h.get? l=some o:=by
 rcases c with ⟨_,⟨o,e,_⟩⟩ | ⟨_,⟨o,e,_⟩⟩<;>exact ⟨o,e⟩
section
variable {prog:Program}{w:World}{A:Around}{E:Value->Shared->Prop}{s:Shared}
theorem zep {it l:Addr}{k:Nat}{xs:Array Value}{x:Value}{Q:Value->Shared->Prop} (c:Src s.heap it l k xs) (hx:xs[k]?=some x) (ne:l≠it)
  (q:∀h',Src h' it l (k+1) xs->Heap.SameBut it s.heap h'->Q x { s with heap:=h' }):wpAny (model prog w) A (Builtin.SmallTypes.nextOf (.ref it)) Q E s:=by
 rcases c with ⟨c1,c2⟩ | ⟨c1,c2⟩
 ·exact wpAny_nextOf_list_item c1 c2 hx fun h' a b=>q h' (.inl ⟨a,c2.at fun o e=>(b.2 l ne).trans e⟩) b
 ·refine aG fun Gg qG => ?_;obtain ⟨oi,ei,ci,di⟩:=id c1;obtain ⟨os,es,cs,ns,ds⟩:=id c2;refine qG ?_;clear qG;unfold Builtin.SmallTypes.nextOf;refine wpAny_bind (wpAny_callSpecial?_slot (name:=Str.ofString "__next__") c1.typeIs F.slot_tuple_iterator_next (wpAny_call_entry F.slot_tuple_iterator_next c1.typeIs F.entry_tuple_iterator_next ?_ (F.args_tuple_iterator_next_1 _)));refine (show wpAny _ _ (field (.ref it) 0 >>= _) _ _ s from wpAny_bind (wpAny_field ei di (x:=.ref l) rfl ?_));refine (show wpAny _ _ (if (Value.ref l == Value.none)=true then _ else _) _ _ s from ?_);rw [if_neg (by intro z;cases z)];refine (show wpAny _ _ (field (.ref it) 1 >>= _) _ _ s from wpAny_bind (wpAny_field ei di (x:=.int k 0) rfl ?_));refine (show wpAny _ _ (seqItems? (.ref l) >>= _) _ _ s from wpAny_bind (wpAny_seqItems es ds ?_));simp only [Int.toNat_natCast,hx];refine wpAny_bind (wpAny_setField ei di (by simp) (wpAny_pure ⟨x,rfl,wpAny_pure ?_⟩));refine q _ (.inr ⟨⟨_,Heap.get?_update_self _ ei (Obj.isFreed_of_fields (Obj.data_mapFields di _)),(Obj.cls_mapFields ..).trans ci,by rw [Obj.data_mapFields di];simp [rawInt]⟩,os,?_,cs,ns,ds⟩) (Heap.SameBut.update ..);exact ((Heap.SameBut.update ..).2 l ne).trans es
theorem zgy {it l:Addr}{k:Nat}{xs:Array Value}{Q:Value->Shared->Prop} (hn:A.handled=none) (c:Src s.heap it l k xs) (hx:xs[k]?=none)
  (q:∀h' e,Heap.ExtBut it s.heap h'->(∃o,h'.get? e=some o/\o.cls=.type "StopIteration")->E (.ref e) { s with heap:=h' }):wpAny (model prog w) A (Builtin.SmallTypes.nextOf (.ref it)) Q E s:=by
 rcases c with ⟨c1,c2⟩ | ⟨c1,c2⟩
 ·exact wpAny_nextOf_list_end hn c1 c2 hx q
 ·obtain ⟨oi, ei, ci, di⟩ := id c1;obtain ⟨os,es,cs,ns,ds⟩:=id c2;unfold Builtin.SmallTypes.nextOf;refine wpAny_bind (wpAny_callSpecial?_slot (name:=Str.ofString "__next__") c1.typeIs F.slot_tuple_iterator_next (wpAny_call_entry F.slot_tuple_iterator_next c1.typeIs F.entry_tuple_iterator_next ?_ (F.args_tuple_iterator_next_1 _)));refine (show wpAny _ _ (field (.ref it) 0 >>= _) _ _ s from wpAny_bind (wpAny_field ei di (x:=.ref l) rfl ?_));refine (show wpAny _ _ (if (Value.ref l == Value.none)=true then _ else _) _ _ s from ?_);rw [if_neg (by intro z;cases z)];refine (show wpAny _ _ (field (.ref it) 1 >>= _) _ _ s from wpAny_bind (wpAny_field ei di (x:=.int k 0) rfl ?_));refine (show wpAny _ _ (seqItems? (.ref l) >>= _) _ _ s from wpAny_bind (wpAny_seqItems es ds ?_));simp only [Int.toNat_natCast,hx];refine wpAny_bind (wpAny_rule (wpAny_bind (wpAny_setField ei di (by simp) (show wpAny _ _ (newExc (.type "StopIteration") [] >>= _) _ _ _ from wpAny_bind ?_))));simp only [newExc,newTuple];refine wpAny_bind (wpAny_newObj_type (wpAny_bind (m:=firstArgMember _ _) (wpAny_of_eq (a:=Value.none) (by first | rfl | (simp only [firstArgMember];rfl)) (wpAny_newObj_type ?_ (by size_fits)))) (by size_fits));simp only [raiseNew];refine wpAny_bind (wpAny_handled ?_);rw [show A.in1.handled=none from hn];exact wpAny_bind (wpAny_pure (wpAny_throw (q _ _ (((Heap.SameBut.update ..).extBut.push _).push _) ⟨_,Heap.get?_push_size _ rfl,rfl⟩)))
theorem zxx {z TI TO i1 i2 l1 l2:Addr}{k1 k2:Nat}{xs ys:Array Value}{x y a b:Value}{Q:Value->Shared->Prop} (D:ZipApart z TI TO i1 i2 l1 l2) (gz:IsZip s.heap z TI TO .none) (gi:IsPair s.heap TI (.ref i1) (.ref i2)) (go:IsPair s.heap TO a b)
  (c1:Src s.heap i1 l1 k1 xs) (c2:Src s.heap i2 l2 k2 ys) (ex:xs[k1]?=some x) (ey:ys[k2]?=some y)
  (q:∀h',IsZip h' z TI TO (rawInt s.heap.objs.size)->IsPair h' TO x y->Src h' i1 l1 (k1+1) xs->Src h' i2 l2 (k2+1) ys->IsPair h' s.heap.objs.size x y ->
   (∀c o,c≠z->c≠TO->c≠i1->c≠i2->s.heap.get? c=some o->h'.get? c=some o)->Q (.ref s.heap.objs.size) { s with heap:=h' }) :
  wpAny (model prog w) A (Builtin.«zip.__next__» ⟨[.ref z],[]⟩) (fun fin s'=>∃v,fin=.done (.ret v)/\Q v s') E s:=by
 refine (show wpAny _ _ (field (.ref z) 2 >>= _) _ _ _ from wpAny_bind (wpAny_field gz rfl (x:=.bool false) rfl ?_));refine (show wpAny _ _ (field (.ref z) 3 >>= _) _ _ _ from wpAny_bind (wpAny_field gz rfl (x:=.ref TI) rfl (wpAny_bind (wpAny_seqItems gi rfl ?_))));refine (show wpAny _ _ (Builtin.SmallTypes.ownedTupleIsFree (.ref z) >>= _) _ _ _ from wpAny_bind ?_);unfold Builtin.SmallTypes.ownedTupleIsFree;refine wpAny_bind (wpAny_field gz rfl (x:=.none) rfl (wpAny_pure ?_));simp only [if_true];refine wpAny_bind (wpAny_rule (wpAny_bind (wpAny_field gz rfl (x:=.ref TO) rfl (wpAny_bind (wpAny_setField_rec gz (by simp) fun g1 z1 u1=>?_)))));have z1' : IsZip g1 z TI TO .ellipsis:=z1;refine wpAny_bind ?_;simp only [List.zipIdx_cons,List.zipIdx_nil,List.forIn_cons,List.forIn_nil];have k1' : ∀c o,c≠z->s.heap.get? c=some o->g1.get? c=some o:=fun c o n e=>u1.extBut _ _ n e;refine wpAny_bind (wpAny_bind (wpAny_onRaise (show wpAny _ _ (Builtin.SmallTypes.nextOf (.ref i1) >>= _) _ _ _ from wpAny_bind (zep (c1.at (fun o=>k1' _ o D.i1z) fun o=>k1' _ o D.l1z) ex D.l1i1 fun g2 d2 u2=>wpAny_pure ?_))));have k2' : ∀c o,c≠z->c≠i1->s.heap.get? c=some o->g2.get? c=some o:=fun c o n m e=>u2.extBut _ _ m (k1' c o n e);refine wpAny_bind (wpAny_seqItems (k2' _ _ D.TOz D.TOi1 go) rfl (wpAny_bind (wpAny_updateSeq_pair (k2' _ _ D.TOz D.TOi1 go) fun g3 t3 u3=>wpAny_bind (wpAny_letGo (wpAny_pure ?_)))));have t3' : IsPair g3 TO x b:=t3;have k3' : ∀c o,c≠z->c≠i1->c≠TO->s.heap.get? c=some o->g3.get? c=some o:=fun c o n m r e=>u3.extBut _ _ r (k2' c o n m e);refine wpAny_bind (wpAny_bind (wpAny_onRaise (show wpAny _ _ (Builtin.SmallTypes.nextOf (.ref i2) >>= _) _ _ _ from wpAny_bind (zep (c2.at (fun o=>k3' _ o D.i2z D.i12.symm D.TOi2.symm) fun o=>k3' _ o D.l2z D.l2i1 D.l2TO) ey D.l2i2 fun g4 d4 u4=>wpAny_pure ?_))));have t4:IsPair g4 TO x b:=u4.extBut _ _ D.TOi2 t3';refine wpAny_bind (wpAny_seqItems t4 rfl (wpAny_bind (wpAny_updateSeq_pair t4 fun g5 t5 u5=>wpAny_bind (wpAny_letGo (wpAny_pure (wpAny_pure ?_))))));have t5' : IsPair g5 TO x y:=t5;refine wpAny_bind (wpAny_seqItems t5' rfl (wpAny_bind (wpAny_newTuple ?_)));have n5:g5.objs.size=s.heap.objs.size:=by rw [u5.1,u4.1,u3.1,u2.1,u1.1]
 have z5:IsZip g5 z TI TO .ellipsis:=u5.extBut _ _ D.TOz.symm (u4.extBut _ _ D.i2z.symm (u3.extBut _ _ D.TOz.symm (u2.extBut _ _ D.i1z.symm z1')));have k5:∀c o,c≠z->c≠TO->c≠i1->c≠i2->s.heap.get? c=some o->g5.get? c=some o:=fun c o n r m p e=>u5.extBut _ _ r (u4.extBut _ _ p (k3' c o n m r e));have d2' : Src g5 i1 l1 (k1+1) xs:=d2.at (fun o e=>u5.extBut _ _ D.TOi1.symm (u4.extBut _ _ D.i12 (u3.extBut _ _ D.TOi1.symm e))) fun o e=>u5.extBut _ _ D.l1TO (u4.extBut _ _ D.l1i2 (u3.extBut _ _ D.l1TO e));have d4' : Src g5 i2 l2 (k2+1) ys:=d4.at (fun o e=>u5.extBut _ _ D.TOi2.symm e) fun o e=>u5.extBut _ _ D.l2TO e;refine (show wpAny _ _ (Builtin.SmallTypes.ownedTupleHandOut (.ref z) (.ref g5.objs.size) >>= _) _ _ _ from wpAny_bind ?_);unfold Builtin.SmallTypes.ownedTupleHandOut;have z6:IsZip (g5.push { cls:=.type "tuple",data:=.seq #[x,y] }) z TI TO .ellipsis:=Heap.get?_push_of_some _ z5;refine wpAny_bind (wpAny_setField_rec z6 (by simp) fun g7 z7 u7=>wpAny_setField_rec (show IsZip g7 z TI TO (rawInt g5.objs.size) from z7) (by simp) fun g8 z8 u8=>wpAny_pure ⟨_,rfl,?_⟩);have up:∀c o,c≠z->g5.get? c=some o->g8.get? c=some o:=fun c o n e=>u8.extBut _ _ n (u7.extBut _ _ n (Heap.get?_push_of_some _ e));have lz:g5.objs.size≠z:=Nat.ne_of_gt (Heap.lt_size z5);have t8:IsPair g8 g5.objs.size x y:=u8.extBut _ _ lz (u7.extBut _ _ lz (Heap.get?_push_size _ rfl));have z8' : IsZip g8 z TI TO (rawInt g5.objs.size):=z8;rw [n5] at t8 z8';show Q (.ref g5.objs.size) _;rw [n5];exact q g8 z8' (up _ _ D.TOz t5') (d2'.at (fun o=>up _ o D.i1z) fun o=>up _ o D.l1z) (d4'.at (fun o=>up _ o D.i2z) fun o=>up _ o D.l2z) t8 fun c o n r m p e=>up c o n (k5 c o n r m p e)
theorem z14 {z TI TO i1 i2 l1 l2:Addr}{k1 k2:Nat}{xs ys:Array Value}{a b:Value}{Q:Fin->Shared->Prop} (hn:A.handled=none) (D:ZipApart z TI TO i1 i2 l1 l2) (gz:IsZip s.heap z TI TO .none) (gi:IsPair s.heap TI (.ref i1) (.ref i2)) (go:IsPair s.heap TO a b)
    (c1:Src s.heap i1 l1 k1 xs) (c2:Src s.heap i2 l2 k2 ys) (he:xs[k1]?=none\/ys[k2]?=none)
    (q:∀h' e,(∀c o,c≠z->c≠TO->c≠i1->c≠i2->s.heap.get? c=some o->h'.get? c=some o)->(∃o,h'.get? e=some o/\o.cls=.type "StopIteration")->E (.ref e) { s with heap:=h' }) :
    wpAny (model prog w) A (Builtin.«zip.__next__» ⟨[.ref z],[]⟩) Q E s:=by
  refine (show wpAny _ _ (field (.ref z) 2 >>= _) _ _ _ from wpAny_bind (wpAny_field gz rfl (x:=.bool false) rfl ?_));refine (show wpAny _ _ (field (.ref z) 3 >>= _) _ _ _ from wpAny_bind (wpAny_field gz rfl (x:=.ref TI) rfl (wpAny_bind (wpAny_seqItems gi rfl ?_))));refine (show wpAny _ _ (Builtin.SmallTypes.ownedTupleIsFree (.ref z) >>= _) _ _ _ from wpAny_bind ?_);unfold Builtin.SmallTypes.ownedTupleIsFree;refine wpAny_bind (wpAny_field gz rfl (x:=.none) rfl (wpAny_pure ?_));simp only [if_true];refine wpAny_bind (wpAny_rule (wpAny_bind (wpAny_field gz rfl (x:=.ref TO) rfl (wpAny_bind (wpAny_setField_rec gz (by simp) fun g1 z1 u1=>?_)))));have z1' : IsZip g1 z TI TO .ellipsis:=z1;refine wpAny_bind ?_;simp only [List.zipIdx_cons,List.zipIdx_nil,List.forIn_cons,List.forIn_nil];have k1' : ∀c o,c≠z->s.heap.get? c=some o->g1.get? c=some o:=fun c o n e=>u1.extBut _ _ n e;refine wpAny_bind (wpAny_bind (wpAny_onRaise (show wpAny _ _ (Builtin.SmallTypes.nextOf (.ref i1) >>= _) _ _ _ from wpAny_bind ?_)));have d1:Src g1 i1 l1 k1 xs:=c1.at (fun o=>k1' _ o D.i1z) fun o=>k1' _ o D.l1z;cases hx:xs[k1]? with
  | none =>
    refine zgy hn d1 hx fun g2 e u2 so=>?_;obtain ⟨oe,ge,ce⟩:=so;have z2:IsZip g2 z TI TO .ellipsis:=u2 _ _ D.i1z.symm z1';have ne:e≠z:=fun r=>by subst r;rw [z2] at ge;obtain rfl:=sI ge;simp at ce
    exact wpAny_setField_rec z2 (by simp) fun g3 _ u3=>q g3 e (fun c o n _ m _ x=>u3.extBut _ _ n (u2 _ _ m (k1' c o n x))) ⟨oe,u3.extBut _ _ ne ge,ce⟩
  | some x =>
    have hy:ys[k2]?=none:=he.resolve_left (by rw [hx];simp);refine zep d1 hx D.l1i1 fun g2 d2 u2=>wpAny_pure ?_;have k2' : ∀c o,c≠z->c≠i1->s.heap.get? c=some o->g2.get? c=some o:=fun c o n m e=>u2.extBut _ _ m (k1' c o n e);refine wpAny_bind (wpAny_seqItems (k2' _ _ D.TOz D.TOi1 go) rfl (wpAny_bind (wpAny_updateSeq_pair (k2' _ _ D.TOz D.TOi1 go) fun g3 t3 u3=>wpAny_bind (wpAny_letGo (wpAny_pure ?_)))));have k3' : ∀c o,c≠z->c≠i1->c≠TO->s.heap.get? c=some o->g3.get? c=some o:=fun c o n m r e=>u3.extBut _ _ r (k2' c o n m e);refine wpAny_bind (wpAny_bind (wpAny_onRaise (show wpAny _ _ (Builtin.SmallTypes.nextOf (.ref i2) >>= _) _ _ _ from wpAny_bind (zgy hn (c2.at (fun o=>k3' _ o D.i2z D.i12.symm D.TOi2.symm) fun o=>k3' _ o D.l2z D.l2i1 D.l2TO) hy fun g4 e u4 so=>?_))));obtain ⟨oe,ge,ce⟩:=so;have z4:IsZip g4 z TI TO .ellipsis:=u4 _ _ D.i2z.symm (u3.extBut _ _ D.TOz.symm (u2.extBut _ _ D.i1z.symm z1'));have ne:e≠z:=fun r=>by subst r;rw [z4] at ge;obtain rfl:=sI ge;simp at ce
    exact wpAny_setField_rec z4 (by simp) fun g5 _ u5=>q g5 e (fun c o n r m p x=>u5.extBut _ _ n (u4 _ _ p (k3' c o n m r x))) ⟨oe,u5.extBut _ _ ne ge,ce⟩
theorem zy6 {z TI TO i1 i2 l1 l2:Addr}{k1 k2:Nat}{xs ys:Array Value}{x y a b:Value}{Q:Option Value->Shared->Prop} (D:ZipApart z TI TO i1 i2 l1 l2) (gz:IsZip s.heap z TI TO .none) (gi:IsPair s.heap TI (.ref i1) (.ref i2)) (go:IsPair s.heap TO a b)
  (c1:Src s.heap i1 l1 k1 xs) (c2:Src s.heap i2 l2 k2 ys) (ex:xs[k1]?=some x) (ey:ys[k2]?=some y)
  (q:∀h',IsZip h' z TI TO (rawInt s.heap.objs.size)->IsPair h' TO x y->Src h' i1 l1 (k1+1) xs->Src h' i2 l2 (k2+1) ys->IsPair h' s.heap.objs.size x y ->
   (∀c o,c≠z->c≠TO->c≠i1->c≠i2->s.heap.get? c=some o->h'.get? c=some o)->Q (some (.ref s.heap.objs.size)) { s with heap:=h' }):wpAny (model prog w) A (pyNext (.ref z)) Q E s:=by
 have ty:s.TypeIs (.ref z) "zip" := ⟨_,gz,rfl⟩;unfold pyNext;exact wpAny_bind (wpAny_attempt (wpAny_callSpecial?_slot (name:=Str.ofString "__next__") ty F.slot_zip_next (wpAny_call_entry F.slot_zip_next ty F.entry_zip_next (zxx D gz gi go c1 c2 ex ey fun h' a1 a2 a3 a4 a5 a6=>wpAny_pure (q h' a1 a2 a3 a4 a5 a6)) (F.args_zip_next_1 _))))
theorem zzw {z TI TO i1 i2 l1 l2:Addr}{k1 k2:Nat}{xs ys:Array Value}{a b:Value}{Q:Option Value->Shared->Prop} (hn:A.handled=none) (D:ZipApart z TI TO i1 i2 l1 l2) (gz:IsZip s.heap z TI TO .none) (gi:IsPair s.heap TI (.ref i1) (.ref i2)) (go:IsPair s.heap TO a b)
  (c1:Src s.heap i1 l1 k1 xs) (c2:Src s.heap i2 l2 k2 ys) (he:xs[k1]?=none\/ys[k2]?=none)
  (q:∀h',(∀c o,c≠z->c≠TO->c≠i1->c≠i2->s.heap.get? c=some o->h'.get? c=some o)->Q none { s with heap:=h' }):wpAny (model prog w) A (pyNext (.ref z)) Q E s:=by
 have ty:s.TypeIs (.ref z) "zip" := ⟨_,gz,rfl⟩;unfold pyNext;refine wpAny_bind (wpAny_attempt (wpAny_callSpecial?_slot (name:=Str.ofString "__next__") ty F.slot_zip_next (wpAny_call_entry F.slot_zip_next ty F.entry_zip_next (z14 hn D gz gi go c1 c2 he fun h' e k so=>?_) (F.args_zip_next_1 _))));obtain ⟨o,go',co⟩:=so;exact wpAny_bind (wpAny_isInstance (T := "StopIteration") (b:=true) ⟨o,go',co⟩ isSubtype_stop (wpAny_pure (q _ k)))
end
end L2
namespace L2
open PySem PySem.Spec PyProof.Rows
noncomputable def SrcO (h:Heap) (b:Bool) (l:Addr) (xs:Array Value):Prop:=match b with
 | true=>h.IsList l xs
 | false=>h.IsTuple l xs
noncomputable def itO (b:Bool) (l:Addr):Obj:={ cls:=.type (if b then "list_iterator" else "tuple_iterator"),data:=.fields #[.ref l,.int 0 0] }
theorem SrcO.push {h:Heap}{b:Bool}{l:Addr}{xs:Array Value} (c:SrcO h b l xs) (o:Obj):SrcO (h.push o) b l xs:=by
  cases b with
  | true=>exact Heap.IsList.push c o
  | false =>
    obtain ⟨q,e,r⟩:=c;exact ⟨q,Heap.get?_push_of_some _ e,r⟩
section
variable {prog:Program}{w:World}{A:Around}{E:Value->Shared->Prop}{s:Shared}
theorem zij {b:Bool}{l:Addr}{xs:Array Value}{Q:Value->Shared->Prop} (c:SrcO s.heap b l xs) (q:Q (.ref s.heap.objs.size) { s with heap:=s.heap.push (itO b l) }):wpAny (model prog w) A (pyIter (.ref l)) Q E s:=by
 cases b with
 | true=>exact wpAny_pyIter_list c q
 | false=>exact wpAny_pyIter_tuple c q
end
noncomputable abbrev zA (h:Heap) (b:Bool) (l:Addr):Heap:=h.push (itO b l)
noncomputable abbrev zB (h:Heap) (b c:Bool) (l m:Addr):Heap:=(zA h b l).push (itO c m)
noncomputable abbrev zC (h:Heap) (b c:Bool) (l m:Addr):Heap:=(zB h b c l m).push { cls:=.type "tuple",data:=.seq #[.ref h.objs.size,.ref (zA h b l).objs.size] }
noncomputable abbrev zD (h:Heap) (b c:Bool) (l m:Addr):Heap:=(zC h b c l m).push { cls:=.type "tuple",data:=.seq #[.none,.none] }
noncomputable abbrev zE (h:Heap) (b c:Bool) (l m:Addr):Heap:=(zD h b c l m).push { cls:=.type "zip",data:=.fields #[.none,.bool false,.bool false,.ref (zB h b c l m).objs.size,.ref (zC h b c l m).objs.size] }
theorem zqo (b c:Bool) (l m:Addr) (xs ys:Array Value):Meets (Builtin.«zip.__new__» ⟨[.type "zip",.ref l,.ref m],[]⟩) (fun _ R s=>SrcO s.heap b l xs/\SrcO s.heap c m ys/\R (.ok (.ret (.ref (zD s.heap b c l m).objs.size))) { s with heap:=zE s.heap b c l m }) :=
 .of_wp fun prog w A R s h=>by
  obtain ⟨hp,g,d,tk,os⟩:=s;obtain ⟨x1,x2,h⟩:=h;have hsub:=sub_zip;have y1:SrcO (Shared.heap ⟨hp,g,d,tk,os⟩) b l xs:=x1;have y2:SrcO (Shared.heap ⟨hp.push (itO b l),g,d,tk,os⟩) c m ys:=SrcO.push x2 _
  wp_walk using zij y1,zij y2
  exact ⟨_,rfl,h⟩
section
variable {prog:Program}{w:World}{A:Around}{E:Value->Shared->Prop}{s:Shared}
theorem zs5 {b c:Bool}{l m:Addr}{xs ys:Array Value}{Q:Value->Shared->Prop} (x1:SrcO s.heap b l xs) (x2:SrcO s.heap c m ys)
  (h:∀h',IsZip h' (s.heap.objs.size+4) (s.heap.objs.size+2) (s.heap.objs.size+3) .none->IsPair h' (s.heap.objs.size+2) (.ref s.heap.objs.size) (.ref (s.heap.objs.size+1))->IsPair h' (s.heap.objs.size+3) .none .none ->
   h'.get? s.heap.objs.size=some (itO b l)->h'.get? (s.heap.objs.size+1)=some (itO c m)->(∀c o,s.heap.get? c=some o->h'.get? c=some o)->Q (.ref (s.heap.objs.size+4)) { s with heap:=h' }) :
  wpAny (model prog w) A (call (.type "zip") [.ref l,.ref m]) Q E s:=by
 refine callType_new F.called_zip (by decide) (F.typeCall_zip_2 _ _) (F.newCall_zip_2 _ _) (fun obj=>F.args_object_init_3 obj _ _) F.entry_zip_new (zqo b c l m xs ys) ⟨x1,x2,?_⟩;have n1:(zA s.heap b l).objs.size=s.heap.objs.size+1:=Heap.size_push ..;have n2:(zB s.heap b c l m).objs.size=s.heap.objs.size+2:=by rw [Heap.size_push,n1]
 have n3:(zC s.heap b c l m).objs.size=s.heap.objs.size+3:=by rw [Heap.size_push,n2]
 have n4:(zD s.heap b c l m).objs.size=s.heap.objs.size+4:=by rw [Heap.size_push,n3]
 have up:∀r o,s.heap.get? r=some o->(zE s.heap b c l m).get? r=some o:=fun r o x=>Heap.get?_push_of_some _ (Heap.get?_push_of_some _ (Heap.get?_push_of_some _ (Heap.get?_push_of_some _ (Heap.get?_push_of_some _ x))));have e5:(zE s.heap b c l m).get? (zD s.heap b c l m).objs.size=some _:=Heap.get?_push_size _ rfl;have e4:(zE s.heap b c l m).get? (zC s.heap b c l m).objs.size=some _:=Heap.get?_push_of_some _ (Heap.get?_push_size _ rfl);have e3:(zE s.heap b c l m).get? (zB s.heap b c l m).objs.size=some _:=Heap.get?_push_of_some _ (Heap.get?_push_of_some _ (Heap.get?_push_size _ rfl));have e2:(zE s.heap b c l m).get? (zA s.heap b l).objs.size=some (itO c m):=Heap.get?_push_of_some _ (Heap.get?_push_of_some _ (Heap.get?_push_of_some _ (Heap.get?_push_size _ rfl)));have e1:(zE s.heap b c l m).get? s.heap.objs.size=some (itO b l):=Heap.get?_push_of_some _ (Heap.get?_push_of_some _ (Heap.get?_push_of_some _ (Heap.get?_push_of_some _ (Heap.get?_push_size _ rfl))));show _/\_;rw [n2,n3,n4] at e5;rw [n1,n2] at e3;rw [n3] at e4;rw [n1] at e2;rw [n4];exact ⟨⟨_,e5,rfl⟩,h _ e5 e3 e4 e1 e2 up⟩
end
noncomputable def SqK (K:PySem.W.Frag) (k:Bool) (H:Hp) (a:Addr) (xs:List V):Prop:=match k with
 | true=>SqL K H a xs
 | false=>SqT K H a xs
noncomputable def ItI (h:Heap) (k:Bool) (it l:Addr) (i:Nat):Prop:=match k with
 | true=>h.IsListIter it l i
 | false=>h.IsTupleIter it l i
theorem SqK.mono {K:PySem.W.Frag}{k:Bool}{F H:Hp}{a:Addr}{xs:List V} (s:Same F H) (h:SqK K k F a xs):SqK K k H a xs:=by
 cases k with
 | true=>exact s.seq h
 | false=>exact zb2 s h
theorem Inv.sqK {X:Cx}{pins:List (Addr × Obj)}{σ:St}{H:Hp}{s:Shared}{k:Bool}{a:Addr}{xs:List V} (I:Inv X pins σ H s) (h:SqK X.K k H a xs):∃its:List Value,Vals xs its/\SrcO s.heap k a its.toArray:=by
 cases k with
 | true=>obtain ⟨its,r,p,_⟩:=I.list h;exact ⟨its,r,p.isList⟩
 | false=>obtain ⟨its,r,p,_⟩:=I.tuple h;exact ⟨its,r,p⟩
theorem Inv.sqK_inj {X:Cx}{pins:List (Addr × Obj)}{σ:St}{H:Hp}{s:Shared}{k:Bool}{a:Addr}{xs ys:List V} (I:Inv X pins σ H s) (h:SqK X.K k H a xs) (h' : SqK X.K k H a ys):xs=ys:=by
 cases k with
 | true=>exact I.list_inj h h'
 | false=>exact I.tuple_inj h h'
theorem ItI.src {h:Heap}{k:Bool}{it l:Addr}{i:Nat}{xs:Array Value} (a:ItI h k it l i) (b:SrcO h k l xs):Src h it l i xs:=by
 cases k with
 | true=>exact .inl ⟨a,b⟩
 | false=>exact .inr ⟨a,b⟩
theorem Src.itI {h:Heap}{k:Bool}{it l:Addr}{i:Nat}{xs:Array Value} (c:Src h it l i xs) (b:SrcO h k l xs):ItI h k it l i:=by
  cases k with
  | true =>
    rcases c with ⟨c,_⟩ | ⟨_,⟨o,e,q,_⟩⟩
    · exact c
    · obtain ⟨o', e', q', _⟩ := b
      rw [e] at e';obtain rfl:=sI e';rw [q] at q';simp at q'
  | false =>
    rcases c with ⟨_,⟨o,e,q,_⟩⟩ | ⟨c,_⟩
    · obtain ⟨o', e', q', _⟩ := b
      rw [e] at e';obtain rfl:=sI e';rw [q] at q';simp at q'
    · exact c
theorem ItI.at {h h' : Heap}{k:Bool}{it l:Addr}{i:Nat} (a:ItI h k it l i) (q:∀o,h.get? it=some o->h'.get? it=some o):ItI h' k it l i:=by
 cases k with
 | true=>exact Heap.IsListIter.at a q
 | false=>exact Heap.IsTupleIter.at a q
theorem ItI.obj {h:Heap}{k:Bool}{it l:Addr}{i:Nat} (a:ItI h k it l i):∃o,h.get? it=some o/\∀v,o.data≠.cell v:=by
 cases k with
 | true=>obtain ⟨o,e,_,d⟩:=a;exact ⟨o,e,fun v z=>by rw [d] at z;cases z⟩
 | false=>obtain ⟨o,e,_,d⟩:=a;exact ⟨o,e,fun v z=>by rw [d] at z;cases z⟩
noncomputable def Itz (K:PySem.W.Frag) (ka kb:Bool) (a b:Addr):It :=
 ⟨fun i H=>∃xs ys x y,SqK K ka H a xs/\SqK K kb H b ys/\xs[i]?=some x/\ys[i]?=some y,
  fun i H x H'=>∃p v u,x=.ref p/\H p=none/\H'=upd H p (.tup [v,u])/\(∀xs,SqK K ka H a xs->xs[i]?=some v)/\(∀ys,SqK K kb H b ys->ys[i]?=some u),
  fun i H=>∃xs ys,SqK K ka H a xs/\SqK K kb H b ys/\(xs.length<=i\/ys.length<=i)⟩
noncomputable def zSt (ka kb:Bool) (z TI TO i1 i2 a b:Addr) (i:Nat) (h:Heap):Prop:=IsZip h z TI TO .none/\IsPair h TI (.ref i1) (.ref i2)/\(∃u v,IsPair h TO u v)/\ItI h ka i1 a i/\ItI h kb i2 b i
theorem zto {P:Program}{w:World}{K:PySem.W.Frag}{es:List Expr}{x1}{px:Pos} (ka kb:Bool) (z TI TO i1 i2 a b:Addr) (D:ZipApart z TI TO i1 i2 a b):Turn P w K (.Tuple es x1 px) (Itz K ka kb a b) [z,TI,TO,i1,i2] z (zSt ka kb z TI TO i1 i2 a b) where
 mem:=by simp
 obj:=fun i h st c hc=>by
  refine aG fun _ qG=>?_;obtain ⟨gz,gi,⟨u,v,go⟩,t1,t2⟩:=st;refine qG ?_;clear qG;simp only [List.mem_cons,List.mem_singleton,List.not_mem_nil,or_false] at hc;rcases hc with rfl | rfl | rfl | rfl | rfl
  ·exact ⟨_,gz,fun v q=>by cases q⟩
  ·exact ⟨_,gi,fun v q=>by cases q⟩
  ·exact ⟨_,go,fun v q=>by cases q⟩
  ·exact t1.obj
  ·exact t2.obj
 keep:=fun i h h' st k=>by
  refine aG fun _ qG=>?_;obtain ⟨gz,gi,⟨u,v,go⟩,t1,t2⟩:=st;refine qG ?_;clear qG;exact ⟨k z (by simp) _ gz,k TI (by simp) _ gi,⟨u,v,k TO (by simp) _ go⟩,t1.at fun o e=>k i1 (by simp) o e,t2.at fun o e=>k i2 (by simp) o e⟩
 item:=by
  intro X hP hw hK hc i pins s σ H E I hf st hg;subst hP hw hK;refine aG fun _ qG=>?_;obtain ⟨xs,ys,x,y,q1,q2,e1,e2⟩:=hg;obtain ⟨gz,gi,⟨u0,v0,go⟩,t1,t2⟩:=st;obtain ⟨its,r1,so1⟩:=I.sqK q1;obtain ⟨its',r2,so2⟩:=I.sqK q2;obtain ⟨u,hu,ru⟩:=r1.get e1;obtain ⟨v,hv,rv⟩:=r2.get e2;refine qG ?_;clear qG;refine zy6 D gz gi go (t1.src so1) (t2.src so2) (x:=u) (y:=v) (by simpa using hu) (by simpa using hv) fun h' g1 g2 g3 g4 g5 g6=>⟨_,rfl,?_⟩;refine wpAny_letOwnedTupleGo_zip g1 fun h'' k1 k2=>?_;have lt:∀c o,s.heap.get? c=some o->c≠s.heap.objs.size:=fun c o e=>Nat.ne_of_lt (Heap.lt_size e);have kk:∀c o,c ∉ [z,TI,TO,i1,i2]->s.heap.get? c=some o->h''.get? c=some o:=fun c o hb e=>by
   simp only [List.mem_cons,List.mem_singleton,List.not_mem_nil,or_false,not_or] at hb;exact (k2.2 c hb.1).trans (g6 c o hb.1 hb.2.2.1 hb.2.2.2.1 hb.2.2.2.2 e)
  obtain ⟨o1,eo1⟩:=(t1.src so1).src;obtain ⟨o2,eo2⟩:=(t2.src so2).src;have so1' : SrcO h' ka a its.toArray:=by
   cases ka with
   | true=>exact so1.at fun o e=>g6 a o D.l1z D.l1TO D.l1i1 D.l1i2 e
   | false=>obtain ⟨o,e,r⟩:=so1;exact ⟨o,g6 a o D.l1z D.l1TO D.l1i1 D.l1i2 e,r⟩
  have so2' : SrcO h' kb b its'.toArray:=by
   cases kb with
   | true=>exact so2.at fun o e=>g6 b o D.l2z D.l2TO D.l2i1 D.l2i2 e
   | false=>obtain ⟨o,e,r⟩:=so2;exact ⟨o,g6 b o D.l2z D.l2TO D.l2i1 D.l2i2 e,r⟩
  have t1' : ItI h'' ka i1 a (i+1):=(g3.itI so1').at fun o e=>(k2.2 i1 D.i1z).trans e;have t2' : ItI h'' kb i2 b (i+1):=(g4.itI so2').at fun o e=>(k2.2 i2 D.i2z).trans e;have gi' : IsPair h'' TI (.ref i1) (.ref i2):=(k2.2 TI D.TIz).trans (g6 TI _ D.TIz D.TITO D.TIi1 D.TIi2 gi);have go' : IsPair h'' TO u v:=(k2.2 TO D.TOz).trans g2;have Tz:s.heap.objs.size≠z:=(lt z _ gz).symm;refine ⟨.ref s.heap.objs.size,upd H s.heap.objs.size (.tup [x,y]),I.turnLay kk (fun c hb=>?_) hf (Nat.le_refl _) ⟨by show 2<=sizeLine;decide,[u,v],.cons ru (.cons rv .nil),?_⟩,rfl,⟨_,x,y,rfl,I.hok.fresh (Nat.le_refl _),rfl,fun zs hz=>by rw [I.sqK_inj hz q1];exact e1,fun zs hz=>by rw [I.sqK_inj hz q2];exact e2⟩,⟨k1,gi',⟨u,v,go'⟩,t1',t2'⟩,fun c hb=>?_⟩
  ·simp only [List.mem_cons, List.mem_singleton, List.not_mem_nil, or_false] at hb;rcases hb with rfl | rfl | rfl | rfl | rfl
   ·exact ⟨_,k1⟩
   ·exact ⟨_,gi'⟩
   ·exact ⟨_,go'⟩
   ·obtain ⟨o,e,_⟩:=t1'.obj;exact ⟨o,e⟩
   ·obtain ⟨o,e,_⟩:=t2'.obj;exact ⟨o,e⟩
  ·exact ⟨_,(k2.2 _ Tz).trans g5,rfl,_,rfl⟩
  ·have ne:c≠s.heap.objs.size:=by
    simp only [List.mem_cons,List.mem_singleton,List.not_mem_nil,or_false] at hb;rcases hb with rfl | rfl | rfl | rfl | rfl
    ·exact lt _ _ gz
    ·exact lt _ _ gi
    ·exact lt _ _ go
    ·obtain ⟨o,e,_⟩:=t1.obj;exact lt _ _ e
    ·obtain ⟨o,e,_⟩:=t2.obj;exact lt _ _ e
   rw [upd_ne ne];exact (hf c hb).1
 done:=by
  intro X hP hw hK hc i pins s σ H E I hf st hg;subst hP hw hK;refine aG fun _ qG=>?_;obtain ⟨xs,ys,q1,q2,he⟩:=hg;obtain ⟨gz,gi,⟨u0,v0,go⟩,t1,t2⟩:=st;obtain ⟨its,r1,so1⟩:=I.sqK q1;obtain ⟨its',r2,so2⟩:=I.sqK q2;refine qG ?_;clear qG;have l1:=r1.length;have l2:=r2.length;refine zzw (I.ok.hd hc) D gz gi go (t1.src so1) (t2.src so2) ?_ fun h' k=>⟨rfl,I.turnL (t':=s.toks) (ch:=[z,TI,TO,i1,i2]) (fun c o hb e=>?_) hf⟩
  ·rcases he with he | he
   ·exact .inl (Array.getElem?_eq_none (by simp;omega))
   ·exact .inr (Array.getElem?_eq_none (by simp;omega))
  ·simp only [List.mem_cons, List.mem_singleton, List.not_mem_nil, or_false, not_or] at hb;exact k c o hb.1 hb.2.2.1 hb.2.2.2.1 hb.2.2.2.2 e
 self:=fun _ _ _ _ _ st h=>wpAny_pyIter_zip st.1 h
theorem ztd:bootBuiltins "zip" = some (.type "zip"):=by decide +kernel
section
variable {X:Cx}
noncomputable def iZip (K:PySem.W.Frag) (ta:TA):TI:=fun σ H R=>ta σ H fun vs H1=>∃a b ka kb xs ys,vs=[.ref a,.ref b]/\SqK K ka H1 a xs/\SqK K kb H1 b ys/\R (Itz K ka kb a b) H1
theorem z04 {es:List Expr}{x1}{px:Pos}{l m:Expr}{tl:TA}{p pos:Pos} (hg:Gl X "zip") (hm:X.mg "zip" = none) (hl:PA X [l,m] tl) (hs:starEach [l,m] X.env=[(false,eval l X.env),(false,eval m X.env)]) (hs2:starEach [m] X.env=[(false,eval m X.env)]) :
    PI X (.Tuple es x1 px) (.Call (.Name "zip" p) [l,m] [] pos) (iZip X.K tl):=by
  intro pins s σ H R I h;refine Call_ (zfn I hg hm ztd (PyProof.Rows.callWith_type1 (thn (hl pos pins s σ H _ I h) fun us s1 ⟨vs,H1,I1,r1,q1⟩=>?_) (by rw [hs,hs2]) (by rw [hs2];rfl)));refine aG fun _ qG=>?_;obtain ⟨a,b,ka,kb,xs,ys,e,q2,q3,q⟩:=q1;refine qG ?_;clear qG;subst e;cases r1 with
  | cons r rr =>
    cases rr with
    | cons r' rr =>
      cases rr;cases r;cases r';refine aG fun _ qG=>?_;obtain ⟨its,rv1,so1⟩:=I1.sqK q2;obtain ⟨its',rv2,so2⟩:=I1.sqK q3;refine qG ?_;clear qG;refine zs5 so1 so2 fun h' g1 g2 g3 g4 g5 up=>wpAny_pyIter_zip g1 ?_;have la:a < s1.heap.objs.size:=by
        cases ka with
        | true=>obtain ⟨o,e,_⟩:=so1;exact Heap.lt_size e
        | false=>obtain ⟨o,e,_⟩:=so1;exact Heap.lt_size e
      have lb:b < s1.heap.objs.size:=by
        cases kb with
        | true=>obtain ⟨o,e,_⟩:=so2;exact Heap.lt_size e
        | false=>obtain ⟨o,e,_⟩:=so2;exact Heap.lt_size e
      have D:ZipApart (s1.heap.objs.size+4) (s1.heap.objs.size+2) (s1.heap.objs.size+3) s1.heap.objs.size (s1.heap.objs.size+1) a b:=by
        have up:∀{c:Addr} (k:Nat),c < s1.heap.objs.size->c≠s1.heap.objs.size+k:=fun k h=>Nat.ne_of_lt (Nat.lt_of_lt_of_le h (Nat.le_add_right _ k));refine ⟨?_,?_,?_,?_,?_,?_,?_,?_,?_,?_,up 4 la,up 3 la,up 0 la,up 1 la,up 4 lb,up 3 lb,up 0 lb,up 1 lb⟩<;>(intro z;have z' : (_:Nat)=_:=z;omega)
      have t1:ItI h' ka s1.heap.objs.size a 0:=by cases ka<;>exact ⟨_,g4,rfl,rfl⟩
      have t2:ItI h' kb (s1.heap.objs.size+1) b 0:=by cases kb<;>exact ⟨_,g5,rfl,rfl⟩
      refine ⟨_,_,_,_,H1,rfl,I1.kept (t':=s1.toks) up,zto ka kb _ _ _ _ _ a b D,⟨g1,g2,⟨_,_,g3⟩,t1,t2⟩,fun c hb=>?_,q⟩;have le:s1.heap.objs.size<=c:=by
        simp only [List.mem_cons,List.mem_singleton,List.not_mem_nil,or_false] at hb;rcases hb with rfl | rfl | rfl | rfl | rfl
        · exact Nat.le_add_right _ _
        · exact Nat.le_add_right _ _
        · exact Nat.le_add_right _ _
        · exact Nat.le_refl _
        · exact Nat.le_add_right _ _
      exact I1.fpOk le (I1.hok.fresh le)
end
noncomputable def zipW:List W->List W->List W
 | x::xs,y::ys=>.tup [x,y]::zipW xs ys
 | _,_=>[]
theorem zes:∀(xs ys:List W),(zipW xs ys).length=min xs.length ys.length
 | [],_=>by simp [zipW]
 | _::_,[]=>by simp [zipW]
 | _::xs,_::ys=>by simp only [zipW,List.length_cons,zes xs ys];omega
theorem zg1:∀{xs ys:List W}{i:Nat}{x y:W},xs[i]?=some x->ys[i]?=some y->(zipW xs ys)[i]?=some (.tup [x,y])
  | [],_,_,_,_,e,_=>by simp at e
  | _::_,[],_,_,_,_,e=>by simp at e
  | _::xs,_::ys,0,_,_,e,e'=>by simp at e e';subst e e';rfl
  | _::xs,_::ys,i+1,x,y,e,e'=>by
    show (zipW xs ys)[i]?=_;exact zg1 (by simpa using e) (by simpa using e')
noncomputable def gZip (g g' : GE):GL:=fun en=>(g en).bind fun p=>(g' p.1).bind fun q=>(seqW p.2.1).bind fun ws=>(seqW q.2.1).bind fun us=>some (q.1,zipW ws us)
section
variable {K:PySem.W.Frag}{F H:Hp}{σ:St}
theorem zdo {w:W}{ws:List W}{v:V} (y:Rep K F w v) (hs:seqW w=some ws):∃a k vs,v=.ref a/\SqK K k F a vs/\Reps K F ws vs:=by
  cases w with
  | lst xs=>obtain rfl:=sI hs;cases y with
    | lst y r=>exact ⟨_,true,_,rfl,SqL.of' y,r⟩
  | frl xs=>obtain rfl:=sI hs;cases y with
    | frl y r=>exact ⟨_,true,_,rfl,y,r⟩
  | tup xs=>obtain rfl:=sI hs;cases y with
    | tup y r=>exact ⟨_,false,_,rfl,.inl (.inl y),r⟩
  | _=>exact noSome hs
theorem z0b {a b:Addr}{ka kb:Bool}{vs us:List V}{ws zs:List W} (h:SqK K ka F a vs) (h' : SqK K kb F b us) (r:Reps K F ws vs) (r' : Reps K F zs us):ItOk K F (Itz K ka kb a b) (zipW ws zs) where
 go:=fun i H s hi=>by
  rw [zes] at hi;have l1:i < vs.length:=by rw [<-r.length];omega
  have l2:i < us.length:=by rw [<-r'.length];omega
  exact ⟨vs,us,vs[i],us[i],h.mono s,h'.mono s,List.getElem?_eq_getElem l1,List.getElem?_eq_getElem l2⟩
 stop:=fun H s=>⟨vs,us,h.mono s,h'.mono s,by rw [zes,r.length,r'.length];omega⟩
 yld:=fun i H x H' s hi y=>by
  refine aG fun _ qG=>?_;obtain ⟨p,v,u,e1,hp,e2,y1,y2⟩:=y;refine qG ?_;clear qG;subst e1 e2;refine aG fun _ qG=>?_;obtain ⟨w1,g1,q1⟩:=r.getV (y1 vs (h.mono s));obtain ⟨w2,g2,q2⟩:=r'.getV (y2 us (h'.mono s));refine qG ?_;clear qG;exact ⟨_,zg1 g1 g2,.tup hp (.cons q1 (.cons q2 .nil))⟩
theorem zuj {g g' : GE}{R:It->Hp->Prop} (h:tI K (gZip g g') σ H R):iZip K (zcr (tE K g) (zcr (tE K g') tNil)) σ H R:=by
 refine aG fun _ qG=>?_;obtain ⟨F,pr,en,en',ws,Re,h,q⟩:=h;obtain ⟨⟨e1,r1⟩,h1,h⟩:=bS h;obtain ⟨⟨e2,r2⟩,h2,h⟩:=bS h;obtain ⟨us,hs,h⟩:=bS h;obtain ⟨zs,hs',h⟩:=bS h;refine qG ?_;clear qG;cases h;refine ⟨F,pr,en,e1,r1,Re,h1,fun F1 H1 v s1 R1 z=>?_⟩;refine aG fun _ qG=>?_;obtain ⟨F2,s2,R2,y⟩:=z.freeze R1;refine qG ?_;clear qG;refine ⟨F2,pr,e1,e2,r2,R2,h2,fun F3 H3 v' s3 R3 z'=>?_⟩;refine aG fun _ qG=>?_;obtain ⟨F4,s4,R4,y'⟩:=z'.freeze R3;obtain ⟨a,ka,vs,ea,qa,ra⟩:=zdo (y.mono (s3.trans s4)) hs;obtain ⟨b,kb,vs',eb,qb,rb⟩:=zdo y' hs';refine qG ?_;clear qG;subst ea eb;exact ⟨a,b,ka,kb,vs,vs',rfl,qa.mono R4.sub,qb.mono R4.sub,q F4 H3 _ (s1.trans (s2.trans (s3.trans s4))) R4 (z0b qa qb ra rb)⟩
end
end L2
namespace L2
open PySem PySem.Spec PyProof.Rows
open AutoSeq1 (wpAny_loadPart')
section
variable {prog:Program}{w:World}{A:Around}{E:Value->Shared->Prop}{s:Shared}
theorem zqu {it l:Addr}{xs:Array Value} (ne:l≠it) (hn:A.handled=none):Draws prog w A.in1 it [it,l] xs.size (fun i x=>xs[i]?=some x) (fun k h=>h.IsTupleIter it l k/\h.IsTuple l xs) where
 live:=fun i h st=>let ⟨⟨o,e,_⟩,_⟩:=st;⟨o,e⟩
 frame:=fun i h h' st k=>⟨st.1.at fun o e=>k it (by simp) o e,let ⟨o,e,r⟩:=st.2;⟨o,k l (by simp) o e,r⟩⟩
 item:=fun i s Q E hi st q=>zep (k:=i) (xs:=xs) (x:=xs[i]) (.inr st) (Array.getElem?_eq_getElem hi) ne fun h' c sb=>by
  rcases c with ⟨⟨o,e,c1,_⟩,c2⟩ | c
  ·obtain ⟨o', e', c1', _⟩ := st.1;have:=st.2;exact absurd c2 (fun c2=>by
    obtain ⟨o2,e2,c3,_⟩:=c2;obtain ⟨o3,e3,c4,_⟩:=st.2;rw [(sb.2 l ne).trans e3] at e2;obtain rfl:=sI e2;rw [c4] at c3;exact absurd (Value.type.inj c3) (by decide))
  ·exact q xs[i] h' s.toks (Array.getElem?_eq_getElem hi) c sb
 done:=fun s Q E st q=>zgy (k:=xs.size) (xs:=xs) (show A.in1.handled=none from hn) (.inr st) (Array.getElem?_eq_none (Nat.le_refl _)) q
theorem zj9 (l:Addr) (items:Array Value) (n:Nat) (dct:Option Addr) (sl:Array (Option Value)) :
  Meets (Builtin.«enumerate.__new__» ⟨[.type "enumerate",.ref l],[]⟩) (fun _ R s=>s.heap.get? l=some { cls:=.type "tuple",dict:=dct,data:=.seq items n,slots:=sl } /\
   R (.ok (.ret (.ref (s.heap.push { cls:=.type "tuple_iterator",data:=.fields #[.ref l,.int 0 0] }).objs.size)))
    { s with heap:=(s.heap.push { cls:=.type "tuple_iterator",data:=.fields #[.ref l,.int 0 0] }).push { cls:=.type "enumerate",data:=.fields #[.none,.bool false,.ref s.heap.objs.size,rawInt 0,.none,.none] } }) :=
 .of_wp fun prog w A R s h=>by
  obtain ⟨hp,g,d,tk,os⟩:=s;obtain ⟨hl,h⟩:=h;have hsub:=sub_enumerate;have hL:Heap.IsTuple (Shared.heap ⟨hp,g,d,tk,os⟩) l items:=⟨_,hl,rfl,n,rfl⟩
  wp_walk using wpAny_loadPart' hl
  refine wpAny_stack_any fun st=>wpAny_pure ?_;split
  ·rename_i c _ _ _ _ _;cases (c == Value.type "enumerate")<;>(wp_walk using wpAny_loadPart' hl,wpAny_pyIter_tuple hL)<;>exact ⟨_,rfl,h⟩
  ·wp_walk using wpAny_loadPart' hl, wpAny_pyIter_tuple hL
   exact ⟨_,rfl,h⟩
theorem znb {l:Addr}{items:Array Value}{Q:Value->Shared->Prop} (hL:s.heap.IsTuple l items)
  (h:∀h',IsEnum h' (s.heap.objs.size+1) s.heap.objs.size 0 .none->h'.IsTupleIter s.heap.objs.size l 0->(∀b o,s.heap.get? b=some o->h'.get? b=some o)->Q (.ref (s.heap.objs.size+1)) { s with heap:=h' }) :
  wpAny (model prog w) A (call (.type "enumerate") [.ref l]) Q E s:=by
 refine aG fun _ qG=>?_;obtain ⟨⟨c,dct,dt,sl⟩,hl,hc,n,hd⟩:=hL;refine qG ?_;clear qG;cases (show c=.type "tuple" from hc);cases (show dt=.seq items n from hd);refine callType_new F.called_enumerate (by decide) (F.typeCall_enumerate_1 _) (F.newCall_enumerate_1 _) (fun obj=>F.args_object_init_2 obj _) F.entry_enumerate_new (zj9 l items n dct sl) ⟨hl,?_⟩;have hz:(s.heap.push { cls:=.type "tuple_iterator",data:=.fields #[.ref l,.int 0 0] }).objs.size=s.heap.objs.size+1:=Heap.size_push ..;show _/\_;rw [hz];have he:=Heap.get?_push_size (s.heap.push { cls:=.type "tuple_iterator",data:=.fields #[.ref l,.int 0 0] }) (o:={ cls:=.type "enumerate",data:=.fields #[.none,.bool false,.ref s.heap.objs.size,rawInt 0,.none,.none] }) rfl;rw [hz] at he;exact ⟨⟨_,he,rfl⟩,h _ he ⟨_,Heap.get?_push_of_some _ (Heap.get?_push_size _ rfl),rfl,rfl⟩ fun b o x=>Heap.get?_push_of_some _ (Heap.get?_push_of_some _ x)⟩
end
noncomputable def IteT (K:PySem.W.Frag) (a:Addr):It :=
 ⟨fun i H=>∃xs x,SqT K H a xs/\xs[i]?=some x,fun i H x H'=>∃p v,x=.ref p/\H p=none/\H'=upd H p (.tup [.int i,v])/\∀xs,SqT K H a xs->xs[i]?=some v,fun i H=>∃xs,SqT K H a xs/\xs.length<=i⟩
theorem znp {P:Program}{w:World}{K:PySem.W.Frag}{es:List Expr}{x1}{px:Pos} (a e it:Addr) (hei:e≠it) (hea:e≠a) (hai:a≠it):Turn P w K (.Tuple es x1 px) (IteT K a) [e,it] e (fun i h=>(∃old,IsEnum h e it i old)/\h.IsTupleIter it a i) where
 mem:=by simp
 obj:=fun i h st b hb=>by
  refine aG fun _ qG=>?_;obtain ⟨⟨old,he⟩,o,hi,c,d⟩:=st;refine qG ?_;clear qG;rcases List.mem_cons.mp hb with rfl | hb
  ·exact ⟨_,he,fun v z=>by cases z⟩
  ·have : b = it := by simpa using hb
   subst this;exact ⟨o,hi,fun v z=>by rw [d] at z;cases z⟩
 keep:=fun i h h' st k=>⟨let ⟨old,he⟩:=st.1;⟨old,k e (by simp) _ he⟩,st.2.at fun o z=>k it (by simp) o z⟩
 item:=by
  intro X hP hw hK hc i pins s σ H E I hf st hg;subst hP hw hK;refine aG fun _ qG=>?_;obtain ⟨xs,x,hq,hx⟩:=hg;obtain ⟨its,rv,p,hz⟩:=I.tuple hq;obtain ⟨u,hu,ru⟩:=rv.get hx;obtain ⟨⟨old,he⟩,hit⟩:=st;refine qG ?_;clear qG;have hT:s.heap.IsTuple a its.toArray:=p;have lt:i < its.toArray.size:=by
   rw [List.size_toArray];exact (List.getElem?_eq_some_iff.mp hu).1
  refine wpAny_pyNext_enum_itemD (zqu hai (I.ok.hd hc)) he ⟨hit,hT⟩ lt hei (by simp [hei,hea]) fun y h' tk hy ho hst hT' hsz hk=>⟨_,rfl,?_⟩;have eu:y=u:=by
   have:its[i]?=some y:=by simpa using hy
   rw [hu] at this;exact (sI this).symm
  subst eu;refine wpAny_letOwnedTupleGo_enum ho fun h'' he'' hs''=>?_;have kk:∀b o,b ∉ [e,it]->s.heap.get? b=some o->h''.get? b=some o:=fun b o hb q=>by
   have h1:b≠e:=fun z=>hb (by simp [z]);have h2:b≠it:=fun z=>hb (by simp [z]);exact (hs''.2 b h1).trans (hk b o h1 h2 q)
  have hTe:s.heap.objs.size≠e:=fun z=>absurd (Heap.lt_size he) (by rw [z];exact Nat.lt_irrefl _);have hit'' : h''.IsTupleIter it a (i+1):=hst.1.at fun o y=>(hs''.2 it hei.symm).trans y;refine ⟨.ref s.heap.objs.size,upd H s.heap.objs.size (.tup [.int i,x]),I.turnLay kk (fun b hb=>?_) hf (Nat.le_refl _) ⟨by show 2<=sizeLine;decide,[.int i tk,y],.cons ⟨_,rfl⟩ (.cons ru .nil),?_⟩,rfl,⟨_,x,rfl,I.hok.fresh (Nat.le_refl _),rfl,fun ys hy=>by rw [I.tuple_inj hy hq];exact hx⟩,⟨⟨_,by simpa using he''⟩,hit''⟩,fun b hb=>?_⟩
  ·rcases List.mem_cons.mp hb with rfl | hb
   ·exact ⟨_,he''⟩
   ·have : b = it := by simpa using hb
    subst this;obtain ⟨o,z,_⟩:=hit'';exact ⟨o,z⟩
  ·exact ⟨_,(hs''.2 _ hTe).trans hT',rfl,_,rfl⟩
  ·have:b≠s.heap.objs.size:=by
    rcases List.mem_cons.mp hb with rfl | hb
    ·exact hTe.symm
    ·have e2 : b = it := by simpa using hb
     subst e2;obtain ⟨o,z,_⟩:=hit;exact Nat.ne_of_lt (Heap.lt_size z)
   rw [upd_ne this];exact (hf b hb).1
 done:=by
  intro X hP hw hK hc i pins s σ H E I hf st hg;subst hP hw hK;refine aG fun _ qG=>?_;obtain ⟨xs,hq,hx⟩:=hg;obtain ⟨its,rv,p,hz⟩:=I.tuple hq;obtain ⟨⟨old,he⟩,hit⟩:=st;obtain ⟨f0,f1,f2,f3,f4,f5⟩:=hf it (by simp);refine qG ?_;clear qG;have hl:=rv.length;have hT:s.heap.IsTuple a its.toArray:=p;have hTy:s.TypeIs (.ref e) "enumerate" := ⟨_,he,rfl⟩;unfold pyNext;refine wpAny_bind (wpAny_attempt (wpAny_callSpecial?_slot (name:=Str.ofString "__next__") hTy F.slot_enumerate_next (wpAny_call_entry F.slot_enumerate_next hTy F.entry_enumerate_next ?_ (F.args_enumerate_next_1 _))));show wpAny _ _ (field (.ref e) 2 >>= _) _ _ _;refine wpAny_bind (wpAny_field he rfl (x:=.ref it) rfl ?_);refine wpAny_bind (zgy (show _=none from I.ok.hd hc) (.inr ⟨hit,hT⟩) (Array.getElem?_eq_none (by simp;omega)) fun h' x eb hx'=>?_);obtain ⟨o,ho,hc'⟩:=hx';refine wpAny_bind (wpAny_isInstance (T := "StopIteration") (b:=true) ⟨o,ho,hc'⟩ isSubtype_stop ?_);exact wpAny_pure ⟨rfl,I.turned (t':=s.toks) (fun b o hb e=>eb b o hb e) f0 f1 f3 f4 f5⟩
 self:=fun _ _ _ _ _ st h=>let ⟨_,he⟩:=st.1;wpAny_pyIter_enum he h
section
variable {X:Cx}
noncomputable def zvt (K:PySem.W.Frag) (ta:TA):TI:=fun σ H R=>ta σ H fun vs H1=>∃a xs,vs=[.ref a]/\(SqL K H1 a xs/\R (Ite K a) H1\/SqT K H1 a xs/\R (IteT K a) H1)
theorem ztg {es:List Expr}{x1}{px:Pos}{l:Expr}{tl:TA}{p pos:Pos} (hg:Gl X "enumerate") (hm:X.mg "enumerate" = none) (hl:PA X [l] tl) (hs:starEach [l] X.env=[(false,eval l X.env)]:=by rfl) :
    PI X (.Tuple es x1 px) (.Call (.Name "enumerate" p) [l] [] pos) (zvt X.K tl):=by
  intro pins s σ H R I h;refine Call_ (zfn I hg hm boot_enumerate (PyProof.Rows.callWith_type1 (thn (hl pos pins s σ H _ I h) fun us s1 ⟨vs,H1,I1,r1,q1⟩=>?_) hs rfl));obtain ⟨a,xs,e,q⟩:=q1;subst e;cases r1 with
  | cons r rr =>
    cases rr;cases r;have fp:∀b∈[s1.heap.objs.size+1,s1.heap.objs.size],FpOk X pins H1 b:=fun b hb=>by
      have e:s1.heap.objs.size<=b:=by
        rcases List.mem_cons.mp hb with rfl | hb
        · exact Nat.le_succ _
        · have e2 : b = s1.heap.objs.size := by simpa using hb
          rw [e2];exact Nat.le_refl _
      exact I1.fpOk e (I1.hok.fresh e)
    rcases q with ⟨hq,q⟩ | ⟨hq,q⟩
    · obtain ⟨its, rv, p', hz⟩ := I1.list hq
      refine call_enumerate_list p'.isList fun h' he hit hsz hk=>wpAny_pyIter_enum he ?_;exact ⟨s1.heap.objs.size+1,[s1.heap.objs.size+1,s1.heap.objs.size],_,_,H1,rfl,I1.kept (t':=s1.toks) hk,zoh a _ _ (Nat.succ_ne_self _),⟨⟨_,by simpa using he⟩,hit⟩,fp,q⟩
    · obtain ⟨its, rv, p', hz⟩ := I1.tuple hq
      have hT:s1.heap.IsTuple a its.toArray:=p';have al:a < s1.heap.objs.size:=let ⟨o,e,_⟩:=hT;Heap.lt_size e;refine znb hT fun h' he hit hk=>wpAny_pyIter_enum he ?_;exact ⟨s1.heap.objs.size+1,[s1.heap.objs.size+1,s1.heap.objs.size],_,_,H1,rfl,I1.kept (t':=s1.toks) hk,znp a _ _ (Nat.succ_ne_self _) (Nat.ne_of_gt (Nat.lt_succ_of_lt al)) (Nat.ne_of_lt al),⟨⟨_,by simpa using he⟩,hit⟩,fp,q⟩
end
section
variable {K:PySem.W.Frag}{F H:Hp}{σ:St}
theorem ztm {a:Addr}{vs:List V}{ws:List W} (h:SqT K F a vs) (r:Reps K F ws vs):ItOk K F (IteT K a) (zd3 ws 0) where
 go:=fun i H s hi=>by rw [zbj] at hi;exact ⟨vs,vs[i]'(by rw [<-r.length];exact hi),zb2 s h,by rw [List.getElem?_eq_getElem]⟩
 stop:=fun H s=>⟨vs,zb2 s h,by rw [zbj,r.length];exact Nat.le_refl _⟩
 yld:=fun i H x H' s hi y=>by
  refine aG fun _ qG=>?_;obtain ⟨p,v,e,hp,e2,y⟩:=y;refine qG ?_;clear qG;subst e e2;obtain ⟨w,e,q⟩:=r.getV (y vs (zb2 s h));refine ⟨_,zcy e,?_⟩;rw [Nat.zero_add];exact .tup hp (.cons (.int _) (.cons q .nil))
noncomputable def zh4 (g:GE):GL:=fun en=>(g en).bind fun p=>(seqW p.2.1).bind fun ws=>some (p.1,zd3 ws 0)
theorem zq1 {g:GE}{R:It->Hp->Prop} (h:tI K (zh4 g) σ H R):zvt K (zcr (tE K g) tNil) σ H R:=by
 refine aG fun _ qG=>?_;obtain ⟨F,pr,en,en',ws,Re,h,q⟩:=h;obtain ⟨⟨e1,rv⟩,h1,h⟩:=bS h;obtain ⟨us,hs,h⟩:=bS h;refine qG ?_;clear qG;cases h;refine ⟨F,pr,en,e1,rv,Re,h1,fun F1 H1 v s1 R1 z=>?_⟩;refine aG fun _ qG=>?_;obtain ⟨F2,s2,R2,y⟩:=z.freeze R1;obtain ⟨a,k,vs,e,hq,r⟩:=zdo y hs;refine qG ?_;clear qG;subst e;cases k with
 | true=>exact ⟨a,vs,rfl,.inl ⟨R2.sub.seq hq,q F2 H1 _ (s1.trans s2) R2 (zys hq r)⟩⟩
 | false=>exact ⟨a,vs,rfl,.inr ⟨zb2 R2.sub hq,q F2 H1 _ (s1.trans s2) R2 (ztm hq r)⟩⟩
end
end L2
namespace L2
open PySem PySem.Spec PyProof.Rows
section
variable {X:Cx}{pins:List (Addr × Obj)}{σ:St}{H:Hp}{s:Shared}
end
section
variable {K:PySem.W.Frag}{F H:Hp}
end
end L2
namespace L2
open PySem PySem.Spec PyProof.Rows
noncomputable abbrev Fn:=List W->Option (List W × (W × Bool))
noncomputable def za4 (m:List Bool) (ws:List W):En:=List.zipWith (fun w b=>some (w,b)) ws m
noncomputable def spF (K:PySem.W.Frag) (m:List Bool) (Φ:Fn):Sp:=fun vs H Q _=>∃F pr ws ws' r,ws.length=m.length/\ws'.length=m.length/\Rel K F pr (za4 m ws) (vs.map some) H/\Φ ws=some (ws',r) /\
 ∀F' H' v,Same F F'->Rel K F' pr (za4 m ws') (vs.map some) H'->Res K F' H' pr (za4 m ws') (vs.map some) r v->Q v H'
theorem zdr {m:List Bool}{ws:List W}{k:Nat}{w:W}{b:Bool}:(za4 m ws)[k]?=some (some (w,b))↔ws[k]?=some w/\m[k]?=some b:=by
 unfold za4;rw [List.getElem?_zipWith];cases ws[k]?<;>cases m[k]?<;>simp
theorem zdw {m:List Bool}{ws:List W} (h:ws.length=m.length):(za4 m ws).length=m.length:=by
 unfold za4;rw [List.length_zipWith,h,Nat.min_self]
theorem zrp {K:PySem.W.Frag}{m:List Bool}{Φ:Fn}{vs:List V}{H:Hp}{Q:VK}{E:XK} (h:spF K m Φ vs H Q E):vs.length=m.length:=by
 obtain ⟨F,pr,ws,ws',r,h1,_,R,_⟩:=h;have:=R.len;rw [zdw h1,List.length_map] at this;exact this.symm
noncomputable def isR:W ⊕ Nat->Bool
 | .inr _=>true
 | .inl _=>false
noncomputable def za8 (xs:List (W ⊕ Nat)):Cap:=xs.map fun x=>match x with
 | .inr i=>some i
 | .inl _=>none
noncomputable def zaq (en:En) (xs:List (W ⊕ Nat)):Bool:=xs.all fun x=>match x with
  | .inr i=>match en[i]? with
    | some (some (_,true))=>true
    | _=>false
  | .inl _=>true
noncomputable def zae (m:List Bool) (Φ:Fn) (as:GAs):GE:=fun en=>(as en).bind fun p=>if decide (p.2.map isR=m) && zaq p.1 p.2 && zb5 (za8 p.2) then (zas p.1 p.2).bind fun ws=>(Φ ws).bind fun q=>if q.1.length=m.length then some (za1 (za8 p.2) p.1 (za4 m q.1),q.2) else none else none
theorem ArgRs.get {K:PySem.W.Frag}{F:Hp}{σ:St}:∀{xs:List (W ⊕ Nat)}{vs:List V}{k:Nat}{x:W ⊕ Nat},ArgRs K F σ xs vs->xs[k]?=some x->∃v,vs[k]?=some v/\ArgR K F σ x v
  | _,_,_,_,.nil,e=>by simp at e
  | _,_,0,_,.cons h _,e=>by simp at e;subst e;exact ⟨_,rfl,h⟩
  | _,_,k+1,x,.cons _ r,e=>by
    obtain ⟨v,h1,h2⟩:=ArgRs.get (k:=k) (x:=x) r (by simpa using e);exact ⟨v,by simpa using h1,h2⟩
theorem ArgRs.length {K:PySem.W.Frag}{F:Hp}{σ:St}:∀{xs:List (W ⊕ Nat)}{vs:List V},ArgRs K F σ xs vs->xs.length=vs.length
 | _,_,.nil=>rfl
 | _,_,.cons _ r=>congrArg (· + 1) (ArgRs.length r)
theorem zi9 {en:En}:∀{xs:List (W ⊕ Nat)}{ws:List W},zas en xs=some ws->ws.length=xs.length
  | [],_,e=>by obtain rfl:=sI e;rfl
  | x::xs,_,e=>by
    obtain ⟨w,_,e⟩:=bS e;obtain ⟨ws,h,e⟩:=bS e;obtain rfl:=sI e;exact congrArg (· + 1) (zi9 h)
theorem zir {en:En}:∀{xs:List (W ⊕ Nat)}{ws:List W}{k:Nat}{w:W},zas en xs=some ws->ws[k]?=some w->∃x,xs[k]?=some x/\resA en x=some w
  | [],_,_,_,e,h=>by obtain rfl:=sI e;simp at h
  | x::xs,_,k,w,e,h=>by
    obtain ⟨u,hu,e⟩:=bS e;obtain ⟨us,h2,e⟩:=bS e;obtain rfl:=sI e;cases k with
    | zero=>simp at h;subst h;exact ⟨x,rfl,hu⟩
    | succ k=>obtain ⟨y,h3,h4⟩:=zir (k:=k) h2 (by simpa using h);exact ⟨y,by simpa using h3,h4⟩
theorem zd1 {xs:List (W ⊕ Nat)}{k i:Nat}:(za8 xs)[k]?=some (some i)↔xs[k]?=some (.inr i):=by
 unfold za8;rw [List.getElem?_map];cases e:xs[k]? with
 | none=>simp
 | some x=>cases x<;>simp
section
variable {K:PySem.W.Frag}{F H:Hp}{pr:Prt}{en:En}{σ:St}
theorem Rel.back {cap:Cap}{F' H' : Hp}{ce:En}{σc:St} (R:Rel K F pr en σ H) (s:Same F F') (Rc:Rel K F' (zb4 pr cap en σ H) ce σc H') (slot:∀(i j:Nat) (v:V),zar cap i=some j->σc[j]?=some (some v)->σ[i]?=some (some v)) :
    Rel K F' pr (za1 cap en ce) σ H'/\∀r v,Res K F' H' (zb4 pr cap en σ H) ce σc r v->Res K F' H' pr (za1 cap en ce) σ r v:=by
  have un:∀(i:Nat) (w:W),zar cap i=none->en[i]?=some (some (w,true))->∃(a:Addr) (vs:HO) (ws:W),w=ws/\σ[i]?=some (some (V.ref a))/\H a=some vs/\H' a=some vs/\F' a=none/\OwnR K F ws vs/\∀(j:Nat) (w' : W),ce[j]?=some (some (w',true))->σc[j]?≠some (some (V.ref a)):=fun i w c e=>by
    obtain ⟨a,vs,ws,h1,h2,h3,h4,h5⟩:=R.own i w e;obtain ⟨b1,b2,b3⟩:=Rc.prt a vs (.inr ⟨i,w,e,c,h2,h3⟩);exact ⟨a,vs,ws,h1,h2,h3,b1,b2,h5,b3⟩
  have capt:∀(i j:Nat) (w:W),zar cap i=some j->ce[j]?=some (some (w,true))->∃(a:Addr) (vs:HO) (ws:W),w=ws/\σ[i]?=some (some (V.ref a))/\σc[j]?=some (some (V.ref a))/\H' a=some vs/\F' a=none/\OwnR K F' ws vs:=fun i j w c e=>by
    obtain ⟨a,vs,ws,h1,h2,h3,h4,h5⟩:=Rc.own j w e;exact ⟨a,vs,ws,h1,slot i j _ c h2,h2,h3,h4,h5⟩
  refine ⟨⟨by unfold za1;rw [List.length_mapIdx];exact R.len,Rc.sub,fun i w e=>?_,fun i w e=>?_,fun i k a w w' e1 e2 q1 q2=>?_,fun b o q=>?_,Rc.tb.go (fun b ps e f=>⟨e,f⟩) (.refl F') fun b ps e hh o z=>hh o (.inl z)⟩,fun r v z=>?_⟩
  · rcases backEn_get e with ⟨j, c, e⟩ | ⟨c, e⟩
    · obtain ⟨v, h1, h2⟩ := Rc.val j w e
      exact ⟨v,slot i j v c h1,h2⟩
    · obtain ⟨v, h1, h2⟩ := R.val i w e
      exact ⟨v,h1,h2.mono s⟩
  · rcases backEn_get e with ⟨j, c, e⟩ | ⟨c, e⟩
    · obtain ⟨a, vs, ws, h1, h2, _, h3, h4, h5⟩ := capt i j w c e
      exact ⟨a,vs,ws,h1,h2,h3,h4,h5⟩
    · obtain ⟨a, vs, ws, h1, h2, _, h3, h4, h5, _⟩ := un i w c e
      exact ⟨a,vs,ws,h1,h2,h3,h4,h5.mono s⟩
  · rcases backEn_get e1 with ⟨j, c, e1⟩ | ⟨c, e1⟩
    · obtain ⟨a', _, _, _, h2, h3, _⟩ := capt i j w c e1
      rw [q1] at h2;cases h2;rcases backEn_get e2 with ⟨l,c2,e2⟩ | ⟨c2,e2⟩
      · obtain ⟨a', _, _, _, g2, g3, _⟩ := capt k l w' c2 e2
        rw [q2] at g2;cases g2;have:=Rc.inj j l a _ _ e1 e2 h3 g3;subst this;have x:=zbb c;rw [zbb c2] at x;cases x;rfl
      · obtain ⟨a', _, _, _, g2, _, _, _, _, g3⟩ := un k w' c2 e2
        rw [q2] at g2;cases g2;exact absurd h3 (g3 j w e1)
    · obtain ⟨a', _, _, _, h2, _, _, _, _, h3⟩ := un i w c e1
      rw [q1] at h2;cases h2;rcases backEn_get e2 with ⟨l,c2,e2⟩ | ⟨c2,e2⟩
      · obtain ⟨a', _, _, _, g2, g3, _⟩ := capt k l w' c2 e2
        rw [q2] at g2;cases g2;exact absurd g3 (h3 l w' e2)
      · exact R.inj i k a _ _ e1 e2 q1 q2
  · obtain ⟨b1, b2, b3⟩ := Rc.prt b o (.inl q)
    refine ⟨b1,b2,fun i w e=>?_⟩;rcases backEn_get e with ⟨j,c,e⟩ | ⟨c,e⟩
    · obtain ⟨a, _, _, _, h2, h3, _⟩ := capt i j w c e
      rw [h2];intro z;cases z;exact b3 j w e h3
    · exact (R.prt b o q).2.2 i w e
  · obtain ⟨w, fl⟩ := r
    cases fl with
    | false=>exact z
    | true =>
      obtain ⟨a,vs,ws,q1,q2,q3,q4,q5,q6,q7⟩:=z;refine ⟨a,vs,ws,q1,q2,q3,q4,q5,fun i w' e=>?_,fun b o p=>q7 b o (.inl p)⟩;rcases backEn_get e with ⟨j,c,e⟩ | ⟨c,e⟩
      · obtain ⟨a', _, _, _, h2, h3, _⟩ := capt i j w' c e
        rw [h2];intro z;cases z;exact q6 j w' e h3
      · obtain ⟨a', vs', ws', h1, h2, h3, h4, h5⟩ := R.own i w' e
        rw [h2];intro z;cases z;exact q7 a vs' (.inr ⟨i,w',e,c,h2,h3⟩) rfl
theorem zzl {m:List Bool}{Φ:Fn}{xs:List (W ⊕ Nat)}{e1 en' : En}{F1 H1:Hp}{vs:List V}{r:W × Bool}{Q:VK}{E:XK} (R1:Rel K F1 pr e1 σ H1) (a1:ArgRs K F1 σ xs vs)
    (h:(if decide (xs.map isR=m) && zaq e1 xs && zb5 (za8 xs) then (zas e1 xs).bind fun ws=>(Φ ws).bind fun q=>if q.1.length=m.length then some (za1 (za8 xs) e1 (za4 m q.1),q.2) else none else none)=some (en',r))
    (q:∀F' H' v,Same F1 F'->Rel K F' pr en' σ H'->Res K F' H' pr en' σ r v->Q v H'):spF K m Φ vs H1 Q E:=by
  split at h
  · rename_i z
    rw [Bool.and_eq_true,Bool.and_eq_true] at z;obtain ⟨⟨z1,z2⟩,nd⟩:=z;have hm:xs.map isR=m:=of_decide_eq_true z1;refine aG fun _ qG=>?_;obtain ⟨ws,h2,h⟩:=bS h;obtain ⟨⟨ws',r'⟩,h3,h⟩:=bS h;refine qG ?_;clear qG;split at h
    · rename_i hl
      cases h;have lx:ws.length=xs.length:=zi9 h2;have lm:xs.length=m.length:=by rw [<-hm,List.length_map]
      have lv:=a1.length;have at' : ∀(k:Nat) (w:W) (b:Bool),(za4 m ws)[k]?=some (some (w,b))->∃x v,xs[k]?=some x/\isR x=b/\resA e1 x=some w/\vs[k]?=some v/\ArgR K F1 σ x v:=fun k w b e=>by
        refine aG fun _ qG=>?_;obtain ⟨g1,g2⟩:=zdr.mp e;obtain ⟨x,g3,g4⟩:=zir h2 g1;obtain ⟨v,g5,g6⟩:=a1.get g3;refine qG ?_;clear qG;rw [<-hm,List.getElem?_map,g3] at g2;exact ⟨x,v,g3,sI g2,g4,g5,g6⟩
      have ow:∀(k:Nat) (w:W),(za4 m ws)[k]?=some (some (w,true))->∃i v,xs[k]?=some (.inr i)/\e1[i]?=some (some (w,true))/\vs[k]?=some v/\σ[i]?=some (some v):=fun k w e=>by
        refine aG fun _ qG=>?_;obtain ⟨x,v,g1,g2,g3,g4,g5⟩:=at' k w true e;refine qG ?_;clear qG;cases x with
        | inl _=>cases g2
        | inr i =>
          refine ⟨i,v,g1,?_,g4,g5⟩;have o:=List.all_eq_true.mp z2 _ (List.mem_of_getElem? g1);simp only at o;split at o
          · rename_i w0 e0
            unfold resA at g3;simp only [e0] at g3;obtain rfl:=sI g3;exact e0
          · cases o
      have RC:Rel K F1 (zb4 pr (za8 xs) e1 σ H1) (za4 m ws) (vs.map some) H1:=by
        refine ⟨by rw [zdw (by omega),List.length_map];omega,R1.sub,fun k w e=>?_,fun k w e=>?_,fun k l a w w' g1 g2 g3 g4=>?_,fun b o p=>?_,R1.tb.go (fun b ps e f=>⟨e,f⟩) (.refl F1) fun b ps e hh o z=>zgi R1 e hh o z⟩
        · refine aG fun Gg qG => ?_
          obtain ⟨x,v,g1,g2,g3,g4,g5⟩:=at' k w false e;refine qG ?_;clear qG;cases x with
          | inr _=>cases g2
          | inl u=>obtain rfl:=sI g3;exact ⟨v,by rw [List.getElem?_map,g4];rfl,g5⟩
        · refine aG fun Gg qG => ?_
          obtain ⟨i,v,g1,g2,g3,g4⟩:=ow k w e;obtain ⟨a,us,wz,p1,p2,p3,p4,p5⟩:=R1.own i w g2;refine qG ?_;clear qG;rw [g4] at p2;cases p2;exact ⟨a,us,wz,p1,by rw [List.getElem?_map,g3];rfl,p3,p4,p5⟩
        · refine aG fun Gg qG => ?_
          obtain ⟨i,v,k1,k2,k3,k4⟩:=ow k w g1;obtain ⟨i',v',l1,l2,l3,l4⟩:=ow l w' g2;refine qG ?_;clear qG;rw [List.getElem?_map,k3] at g3;cases g3;rw [List.getElem?_map,l3] at g4;cases g4;have:=R1.inj i i' a _ _ k2 l2 k4 l4;subst this;have y:=zeq nd (zd1.mpr k1);rw [zeq nd (zd1.mpr l1)] at y;exact (sI y).symm
        · rcases p with p | ⟨j, w, p1, p2, p3, p4⟩
          · obtain ⟨b1, b2, b3⟩ := R1.prt b o p
            refine ⟨b1,b2,fun k w e=>?_⟩;refine aG fun _ qG=>?_;obtain ⟨i,v,g1,g2,g3,g4⟩:=ow k w e;refine qG ?_;clear qG;rw [List.getElem?_map,g3];intro y;cases y;exact b3 i w g2 g4
          · refine aG fun Gg qG => ?_
            obtain ⟨a,us,wz,p1',p2',p3',p4',p5'⟩:=R1.own j w p1;refine qG ?_;clear qG;rw [p3] at p2';cases p2';refine ⟨p4,p4',fun k w' e=>?_⟩;refine aG fun _ qG=>?_;obtain ⟨i,v,g1,g2,g3,g4⟩:=ow k w' e;refine qG ?_;clear qG;rw [List.getElem?_map,g3];intro y;cases y;have:=R1.inj i j _ _ _ g2 p1 g4 p3;subst this;exact zcs p2 k (zd1.mpr g1)
      refine ⟨F1,zb4 pr (za8 xs) e1 σ H1,ws,ws',_,by omega,hl,RC,h3,fun F2 H2 v s2 R2 y2=>?_⟩;obtain ⟨Ro,rz⟩:=R1.back s2 R2 fun i j v c e=>by
        have c':=zd1.mp (zbb c);obtain ⟨v',g1,g2⟩:=a1.get c';rw [List.getElem?_map,g1] at e;cases e;exact g2
      exact q F2 H2 v s2 Ro (rz _ _ y2)
    · cases h
  · cases h
theorem zq6 {m:List Bool}{Φ:Fn}{as:GAs}{Q:VK} (h:tE K (zae m Φ as) σ H Q):zy0 (spF K m Φ) [] E0 (tAs K as) σ H Q:=by
 refine aG fun _ qG=>?_;obtain ⟨F,pr,en,en',r,R,h,q⟩:=h;obtain ⟨⟨e1,xs⟩,h1,h⟩:=bS h;refine qG ?_;clear qG;refine ⟨F,pr,en,e1,xs,R,h1,fun F1 H1 vs s1 R1 a1=>?_⟩;show spF K m Φ (vs++[]) H1 Q E0;rw [List.append_nil];exact zzl R1 a1 h fun F' H' v s'=>q F' H' v (s1.trans s')
end
noncomputable def zce:List Bool->List W->En->Option (List W)
 | [],[],_=>some []
 | true::m,_::ws,some (w,true)::en=>(zce m ws en).bind fun r=>some (w::r)
 | false::m,w::ws,_::en=>(zce m ws en).bind fun r=>some (w::r)
 | _,_,_=>none
noncomputable def mpOf (m:List Bool):List Nat:=(List.range m.length).filter fun k=>m[k]? == some true
noncomputable def zag (m:List Bool) (n:Nat) (g:GS):Fn:=fun ws=>if ws.length=m.length then match g (za4 m ws++List.replicate (n - m.length) none) with
 | some (en,.ret r)=>(zce m ws en).bind fun ws'=>some (ws',r)
 | some (en,.nx)=>(zce m ws en).bind fun ws'=>some (ws',(.non,false))
 | _=>none else none
theorem zhz:∀{m:List Bool}{ws:List W}{en:En}{ws' : List W},zce m ws en=some ws'->ws'.length=m.length/\∀(k:Nat) (w:W),ws'[k]?=some w->(m[k]?=some true->en[k]?=some (some (w,true)))/\(m[k]?=some false->ws[k]?=some w)
  | [],[],_,_,e=>by obtain rfl:=sI e;exact ⟨rfl,fun k w h=>by simp at h⟩
  | true::m,_::ws,some (u,true)::en,_,e=>by
    obtain ⟨r,h,e⟩:=bS (show (zce m ws en).bind _=_ from e);obtain rfl:=sI e;obtain ⟨h1,h2⟩:=zhz h;refine ⟨congrArg (· + 1) h1,fun k w hk=>?_⟩;cases k with
    | zero=>simp at hk;subst hk;exact ⟨fun _=>rfl,fun z=>by simp at z⟩
    | succ k =>
      have:=h2 k w (by simpa using hk);exact ⟨fun z=>by simpa using this.1 (by simpa using z),fun z=>by simpa using this.2 (by simpa using z)⟩
  | false::m,u::ws,_::en,_,e=>by
    obtain ⟨r,h,e⟩:=bS (show (zce m ws en).bind _=_ from e);obtain rfl:=sI e;obtain ⟨h1,h2⟩:=zhz h;refine ⟨congrArg (· + 1) h1,fun k w hk=>?_⟩;cases k with
    | zero=>simp at hk;subst hk;exact ⟨fun z=>by simp at z,fun _=>rfl⟩
    | succ k =>
      have:=h2 k w (by simpa using hk);exact ⟨fun z=>by simpa using this.1 (by simpa using z),fun z=>by simpa using this.2 (by simpa using z)⟩
  | [],_::_,_,_,e=>by exact noSome e
  | true::_,[],_,_,e=>by exact noSome e
  | false::_,[],_,_,e=>by exact noSome e
  | true::_,_::_,[],_,e=>by exact noSome e
  | false::_,_::_,[],_,e=>by exact noSome e
  | true::_,_::_,none::_,_,e=>by exact noSome e
  | true::_,_::_,some (_,false)::_,_,e=>by exact noSome e
theorem zwm {K:PySem.W.Frag}{m:List Bool}{N:List Str}{g:GS}{vs:List V}{H:Hp}{Q:VK}{E:XK} (h:spF K m (zag m N.length g) vs H Q E):tS K (mpOf m) g { nx:=fun _ H'=>Q .non H',rt:=Q } (start N vs) H:=by
  have hv:=zrp h;refine aG fun _ qG=>?_;obtain ⟨F,pr,ws,ws',r,h1,h2,R,h3,q⟩:=h;refine qG ?_;clear qG;unfold zag at h3;rw [if_pos h1] at h3;have la:=zdw h1;have pad:∀(i:Nat) (x:W × Bool),(za4 m ws++List.replicate (N.length - m.length) none)[i]?=some (some x)->(za4 m ws)[i]?=some (some x):=fun i x e=>by
    by_cases hi:i < (za4 m ws).length
    · rw [List.getElem?_append_left hi] at e;exact e
    · rw [List.getElem?_append_right (by omega), List.getElem?_replicate] at e
      split at e<;>cases e
  have st:∀(i:Nat) (v:V),(vs.map some)[i]?=some (some v)->(start N vs)[i]?=some (some v):=fun i v e=>by
    unfold start;rw [List.getElem?_append_left (by have:=(List.getElem?_eq_some_iff.mp e).1;exact this)];exact e
  have st' : ∀(i:Nat) (v:V),i < m.length->(start N vs)[i]?=some (some v)->(vs.map some)[i]?=some (some v):=fun i v hi e=>by
    unfold start at e;rw [List.getElem?_append_left (by rw [List.length_map];omega)] at e;exact e
  have R0:Rel K F pr (za4 m ws++List.replicate (N.length - m.length) none) (start N vs) H:=by
    refine ⟨?_,R.sub,fun i w e=>?_,fun i w e=>?_,fun i j a w w' e1 e2 q1 q2=>?_,fun b o p=>?_,R.tb⟩
    · unfold start
      rw [List.length_append,List.length_append,List.length_replicate,List.length_replicate,List.length_map,la,hv]
    · obtain ⟨v, g1, g2⟩ := R.val i w (pad i _ e)
      exact ⟨v,st i v g1,g2⟩
    · refine aG fun Gg qG => ?_
      obtain ⟨a,us,wz,g1,g2,g3⟩:=R.own i w (pad i _ e);refine qG ?_;clear qG;exact ⟨a,us,wz,g1,st i _ g2,g3⟩
    · have l1 : i < m.length := by have := (List.getElem?_eq_some_iff.mp (pad i _ e1)).1; omega
      have l2:j < m.length:=by have:=(List.getElem?_eq_some_iff.mp (pad j _ e2)).1;omega
      exact R.inj i j a w w' (pad i _ e1) (pad j _ e2) (st' i _ l1 q1) (st' j _ l2 q2)
    · obtain ⟨b1, b2, b3⟩ := R.prt b o p
      refine ⟨b1,b2,fun i w e z=>?_⟩;have l1:i < m.length:=by have:=(List.getElem?_eq_some_iff.mp (pad i _ e)).1;omega
      exact b3 i w (pad i _ e) (st' i _ l1 z)
  have back:∀(en:En) (wz:List W) (F' : Hp) (σ' : St) (H' : Hp),zce m ws en=some wz->Same F F'->Rel K F' pr en σ' H'->Keep (mpOf m) (start N vs) σ' ->
      Rel K F' pr (za4 m wz) (vs.map some) H'/\∀r v,Res K F' H' pr en σ' r v->Res K F' H' pr (za4 m wz) (vs.map some) r v:=fun en wz F' σ' H' ho s' R' k'=>by
    obtain ⟨o1,o2⟩:=zhz ho;have own:∀(k:Nat) (w:W),(za4 m wz)[k]?=some (some (w,true))->en[k]?=some (some (w,true))/\∀v,σ'[k]?=some (some v)↔(vs.map some)[k]?=some (some v):=fun k w e=>by
      obtain ⟨g1,g2⟩:=zdr.mp e;have lk:k < m.length:=(List.getElem?_eq_some_iff.mp g2).1;have hk:k∈mpOf m:=List.mem_filter.mpr ⟨List.mem_range.mpr lk,by rw [g2];simp⟩;refine ⟨(o2 k w g1).1 g2,fun v=>?_⟩;rw [k' k hk];exact ⟨st' k v lk,st k v⟩
    refine ⟨⟨by rw [zdw o1,List.length_map,hv],R'.sub,fun k w e=>?_,fun k w e=>?_,fun k l a w w' e1 e2 q1 q2=>?_,fun b o p=>?_,R'.tb⟩,fun r v z=>?_⟩
    · refine aG fun Gg qG => ?_
      obtain ⟨g1,g2⟩:=zdr.mp e;obtain ⟨v,g3,g4⟩:=R.val k w (zdr.mpr ⟨(o2 k w g1).2 g2,g2⟩);refine qG ?_;clear qG;exact ⟨v,g3,g4.mono s'⟩
    · refine aG fun Gg qG => ?_
      obtain ⟨g1,g2⟩:=own k w e;obtain ⟨a,us,wz,p1,p2,p3⟩:=R'.own k w g1;refine qG ?_;clear qG;exact ⟨a,us,wz,p1,(g2 _).mp p2,p3⟩
    · obtain ⟨g1, g2⟩ := own k w e1
      obtain ⟨g3,g4⟩:=own l w' e2;exact R'.inj k l a _ _ g1 g3 ((g2 _).mpr q1) ((g4 _).mpr q2)
    · obtain ⟨b1, b2, b3⟩ := R'.prt b o p
      refine ⟨b1,b2,fun k w e z=>?_⟩;obtain ⟨g1,g2⟩:=own k w e;exact b3 k w g1 ((g2 _).mpr z)
    · obtain ⟨w0, fl⟩ := r
      cases fl with
      | false=>exact z
      | true =>
        refine aG fun _ qG=>?_;obtain ⟨a,us,wz',q1,q2,q3,q4,q5,q6,q7⟩:=z;refine qG ?_;clear qG;refine ⟨a,us,wz',q1,q2,q3,q4,q5,fun k w e y=>?_,q7⟩;obtain ⟨g1,g2⟩:=own k w e;exact q6 k w g1 ((g2 _).mpr y)
  cases eg:g (za4 m ws++List.replicate (N.length - m.length) none) with
  | none=>simp only [eg] at h3;exact noSome h3
  | some p =>
    obtain ⟨en,fl⟩:=p;refine ⟨F,pr,_,en,fl,R0,eg,?_⟩;cases fl with
    | brk=>simp only [eg] at h3;exact noSome h3
    | cnt=>simp only [eg] at h3;exact noSome h3
    | nx =>
      simp only [eg] at h3;obtain ⟨wz,ho,h3⟩:=bS h3;cases h3;intro F' σ' H' s' R' k';obtain ⟨Rb,_⟩:=back en ws' F' σ' H' ho s' R' k';exact q F' H' .non s' Rb .non
    | ret r' =>
      simp only [eg] at h3;obtain ⟨wz,ho,h3⟩:=bS h3;cases h3;intro F' σ' H' v s' R' k' z;obtain ⟨Rb,rb⟩:=back en ws' F' σ' H' ho s' R' k';exact q F' H' v s' Rb (rb _ _ z)
end L2
set_option maxHeartbeats 4000000
namespace L2
open PySem PyProof.Rows
namespace Tim
theorem aG {P:Prop} (h:∀G:Prop,(P->G)->G):P:=h P id
structure Ord (lt:Keyed->Keyed->Bool) (bf le:Keyed->Keyed->Prop):Prop where
 tr:∀{x y z},le x y->le y z->le x z
 tot:∀x y,le x y\/le y x
 f1:∀{x y},bf x y->(lt y x=false↔le x y)
 f2:∀{x y},lt x y=true->le x y
 irr:∀x,lt x x=false
 ltr:∀{x y z},lt x y=true->lt y z=true->lt x z=true
 nt:∀{x z} (y),lt x z=true->lt x y=true\/lt y z=true
section
variable {lt:Keyed->Keyed->Bool}{bf le:Keyed->Keyed->Prop} (O:Ord lt bf le)
include O
end
noncomputable abbrev d0:Keyed:=(Value.none,Value.none)
noncomputable def G (xs:Array Keyed) (i:Nat):Keyed:=(xs[i]?).getD d0
section
variable {prog:Program}{w:World}{A:Around}{E:Value->Shared->Prop}{s:Shared}{κ:SortKind}{a₀:Array Keyed}{lt:Keyed->Keyed->Bool}{st:SortSt}
end
end Tim
end L2
namespace L2
open PySem PyProof.Rows
namespace Tim
noncomputable def Srt (le:Keyed->Keyed->Prop) (xs:Array Keyed) (lo hi:Nat):Prop:=∀i j,lo<=i->i < j->j < hi->le (G xs i) (G xs j)
noncomputable def Cut (bf:Keyed->Keyed->Prop) (xs:Array Keyed) (c:Nat):Prop:=∀i j,i < c->c<=j->j < xs.size->bf (G xs i) (G xs j)
structure Re (xs ys:Array Keyed) (lo hi:Nat):Prop where
 perm:ys.Perm xs
 out:∀i,i < lo\/hi<=i->G ys i=G xs i
 inn:∀i,lo<=i->i < hi->∃j,lo<=j/\j < hi/\G ys i=G xs j
theorem Re.refl (xs:Array Keyed) (lo hi:Nat):Re xs xs lo hi:=⟨.refl _,fun _ _=>rfl,fun i h1 h2=>⟨i,h1,h2,rfl⟩⟩
theorem Re.trans {xs ys zs:Array Keyed}{lo hi:Nat} (a:Re xs ys lo hi) (b:Re ys zs lo hi):Re xs zs lo hi :=
 ⟨b.perm.trans a.perm,fun i h=>(b.out i h).trans (a.out i h),fun i h1 h2=>by
  obtain ⟨j,g1,g2,e⟩:=b.inn i h1 h2;obtain ⟨k,k1,k2,e'⟩:=a.inn j g1 g2;exact ⟨k,k1,k2,e.trans e'⟩⟩
theorem Re.mono {xs ys:Array Keyed}{lo hi lo' hi' : Nat} (a:Re xs ys lo hi) (h1:lo'<=lo) (h2:hi<=hi'):Re xs ys lo' hi' :=
 ⟨a.perm,fun i h=>a.out i (by omega),fun i g1 g2=>by
  by_cases c:lo<=i/\i < hi
  ·obtain ⟨j, k1, k2, e⟩ := a.inn i c.1 c.2;exact ⟨j,by omega,by omega,e⟩
  ·exact ⟨i,g1,g2,a.out i (by omega)⟩⟩
theorem Re.size {xs ys:Array Keyed}{lo hi:Nat} (a:Re xs ys lo hi):ys.size=xs.size:=a.perm.size_eq
structure SI (κ:SortKind) (a₀:Array Keyed) (pd:Array (Nat × Nat × Nat)) (st:SortSt):Prop where
 kind:kindOf st=κ
 failed:failedOf st=none
 perm:(arrOf st).Perm a₀
 pend:pendingOf st=pd
theorem SI.size {κ a₀ pd st} (h:SI κ a₀ pd st):(arrOf st).size=a₀.size:=h.perm.size_eq
theorem SI.set {κ a₀ pd st} (h:SI κ a₀ pd st) {ys:Array Keyed} (p:ys.Perm (arrOf st)):SI κ a₀ pd (setArr st ys):=⟨h.kind,h.failed,p.trans h.perm,h.pend⟩
section
variable {prog:Program}{w:World}{A:Around}{E:Value->Shared->Prop}{s:Shared}{κ:SortKind}{a₀:Array Keyed}{lt:Keyed->Keyed->Bool}{bf le:Keyed->Keyed->Prop}{st:SortSt}{pd:Array (Nat × Nat × Nat)}
structure DI (lt:Keyed->Keyed->Bool) (le:Keyed->Keyed->Prop) (lo n neq:Nat) (xs:Array Keyed):Prop where
 nq:neq+1<=n
 d1:∀i j,lo<=i->i < j->j < lo+n - (neq+1)->le (G xs j) (G xs i)
 d2:∀i j,lo<=i->i < lo+n - (neq+1)->lo+n - (neq+1)<=j->j < lo+n->lt (G xs j) (G xs i)=true
 d3:∀i j,lo+n - (neq+1)<=i->i < j->j < lo+n->le (G xs i) (G xs j)
 d4:∀i j,lo+n - (neq+1)<=i->i < lo+n->lo+n - (neq+1)<=j->j < lo+n->lt (G xs i) (G xs j)=false
theorem DI.next (O:Ord lt bf le) {lo n:Nat}{xs:Array Keyed} (h:∀i j,lo<=i->i < j->j < lo+n->le (G xs j) (G xs i)) (h2:∀i,lo<=i->i < lo+n->lt (G xs (lo+n)) (G xs i)=true):DI lt le lo (n+1) 0 xs :=
 ⟨by omega,fun i j a b c=>h i j a b (by omega),fun i j a b c d=>by
  have e:j=lo+n:=by omega
  rw [e];exact h2 i a (by omega),fun i j a b c=>by omega,fun i j a b c d=>by
  have e:j=i:=by omega
  rw [e];exact O.irr _⟩
end
end Tim
end L2
namespace L2
open PySem PyProof.Rows
namespace Tim
section
variable {prog:Program}{w:World}{A:Around}{E:Value->Shared->Prop}{s:Shared}{κ:SortKind}{a₀:Array Keyed}{lt:Keyed->Keyed->Bool}{bf le:Keyed->Keyed->Prop}{st:SortSt}{pd:Array (Nat × Nat × Nat)}
end
end Tim
end L2
namespace L2
open PySem PyProof.Rows
namespace Tim
structure Fin (le:Keyed->Keyed->Prop) (a b:Array Keyed) (r:List Keyed):Prop where
 p:r.Perm (a.toList++b.toList)
 s:r.Pairwise le
section
variable {lt:Keyed->Keyed->Bool}{bf le:Keyed->Keyed->Prop} (O:Ord lt bf le) {a b:Array Keyed}{o:List Keyed}{ia ib na nb:Nat} (Sa:Srt le a 0 a.size) (Sb:Srt le b 0 b.size)
end
end Tim
end L2
namespace L2
open PySem PyProof.Rows
namespace Tim
section
variable {prog:Program}{w:World}{A:Around}{E:Value->Shared->Prop}{s:Shared}{κ:SortKind}{a₀:Array Keyed}{lt:Keyed->Keyed->Bool}{bf le:Keyed->Keyed->Prop}{st:SortSt}{pd:Array (Nat × Nat × Nat)}
end
end Tim
end L2
namespace L2
open PySem PyProof.Rows
namespace Tim
section
variable {prog:Program}{w:World}{A:Around}{E:Value->Shared->Prop}{s:Shared}{κ:SortKind}{a₀:Array Keyed}{lt:Keyed->Keyed->Bool}{bf le:Keyed->Keyed->Prop}{st:SortSt}{pd:Array (Nat × Nat × Nat)}
variable {a b out:Array Keyed}{o:List Keyed}{na nb at_:Nat}
end
end Tim
end L2
namespace L2
open PySem PyProof.Rows
namespace Tim
noncomputable def wr (xs:Array Keyed) (s0:Nat) (l:List Keyed) (m:Nat):Array Keyed:=(l.zipIdx m).foldl (fun a (x:Keyed × Nat)=>match x with | (p,j)=>a.setIfInBounds (s0+j) p) xs
section
variable (bf le:Keyed->Keyed->Prop)
noncomputable def zn6 (xs:Array Keyed):Nat->List (Nat × Nat × Nat)->Nat->Prop
 | c,[],hi=>c=hi
 | c,(s0,n,_)::r,hi=>s0=c/\1<=n/\Srt le xs c (c+n)/\Cut bf xs c/\zn6 xs (c+n) r hi
end
section
variable {bf le:Keyed->Keyed->Prop}{xs ys:Array Keyed}
theorem zn6.len:∀{l:List (Nat × Nat × Nat)}{c hi:Nat},zn6 bf le xs c l hi->c+l.length<=hi
  | [],c,hi,h=>by cases h;simp
  | (s0,n,_)::r,c,hi,h=>by
    have:=zn6.len h.2.2.2.2;have:=h.2.1;rw [List.length_cons];omega
end
section
variable {prog:Program}{w:World}{A:Around}{E:Value->Shared->Prop}{s:Shared}{κ:SortKind}{a₀:Array Keyed}{lt:Keyed->Keyed->Bool}{bf le:Keyed->Keyed->Prop}{st:SortSt}{pd:Array (Nat × Nat × Nat)}
end
end Tim
end L2
namespace L2
open PySem PyProof.Rows
namespace Tim
section
variable {prog:Program}{w:World}{A:Around}{E:Value->Shared->Prop}{s:Shared}{κ:SortKind}{a₀:Array Keyed}{lt:Keyed->Keyed->Bool}{bf le:Keyed->Keyed->Prop}{st:SortSt}{pd:Array (Nat × Nat × Nat)}
structure SP (κ:SortKind) (bf le:Keyed->Keyed->Prop) (a₀:Array Keyed) (lo:Nat) (st:SortSt):Prop where
 kind:kindOf st=κ
 failed:failedOf st=none
 perm:(arrOf st).Perm a₀
 ch:zn6 bf le (arrOf st) 0 (pendingOf st).toList lo
 cut:∀c,lo<=c->Cut bf (arrOf st) c
end
end Tim
end L2
namespace L2
open PySem PySem.Spec PyProof.Rows
open PySem.AutoSeq1 (wpAny_loadPart')
open PySem.SeqAt
noncomputable def lexI:List Int->List Int->Bool
 | [],[]=>false
 | [],_::_=>true
 | _::_,[]=>false
 | a::as,b::bs=>if a=b then lexI as bs else decide (a < b)
theorem zlz:∀xs,lexI xs xs=false
 | []=>rfl
 | a::as=>by unfold lexI;rw [if_pos rfl];exact zlz as
theorem zk2:∀{xs ys zs:List Int},lexI xs ys=true->lexI ys zs=true->lexI xs zs=true
  | [],[],_,h,_=>by cases h
  | [],_::_,[],_,h=>by cases h
  | [],_::_,_::_,_,_=>rfl
  | _::_,[],_,h,_=>by cases h
  | _::_,_::_,[],_,h=>by cases h
  | a::as,b::bs,c::cs,h1,h2=>by
    unfold lexI at h1 h2 ⊢;by_cases e1:a=b
    · subst e1
      rw [if_pos rfl] at h1;by_cases e2:a=c
      · rw [if_pos e2] at h2 ⊢;exact zk2 h1 h2
      · rw [if_neg e2] at h2 ⊢;exact h2
    · rw [if_neg e1] at h1
      have l1:=of_decide_eq_true h1;by_cases e2:b=c
      · subst e2;rw [if_neg e1];exact h1
      · rw [if_neg e2] at h2
        have l2:=of_decide_eq_true h2;rw [if_neg (by omega)];exact decide_eq_true (by omega)
theorem zhm:∀{xs ys:List Int},lexI xs ys=false->lexI ys xs=false->xs=ys
  | [],[],_,_=>rfl
  | [],_::_,h,_=>by cases h
  | _::_,[],_,h=>by cases h
  | a::as,b::bs,h1,h2=>by
    unfold lexI at h1 h2;by_cases e:a=b
    · subst e
      rw [if_pos rfl] at h1 h2;rw [zhm h1 h2]
    · rw [if_neg e] at h1
      rw [if_neg (fun z=>e z.symm)] at h2;have:=of_decide_eq_false h1;have:=of_decide_eq_false h2;omega
theorem zy2 {xs ys zs:List Int} (h:lexI xs zs=true):lexI xs ys=true\/lexI ys zs=true:=by
  cases q:lexI xs ys with
  | true=>exact .inl rfl
  | false =>
    cases q2:lexI ys xs with
    | true=>exact .inr (zk2 q2 h)
    | false=>rw [zhm q q2] at h;exact .inr h
section
variable {prog:Program}{w:World}{A:Around}{E:Value->Shared->Prop}{s:Shared}{a₀:Array Keyed}
end
end L2
namespace L2
open PySem PySem.Spec PyProof.Rows
section
variable {prog:Program}{w:World}{A:Around}{E:Value->Shared->Prop}{s:Shared}{a kS:Addr}{e e1:Nat}{keys:Array Value}{vs:List Value}{P:PySem.Fin->Shared->Prop}
end
end L2
namespace L2
open PySem PySem.Spec PyProof.Rows
noncomputable abbrev KP:=List Int × W
noncomputable def insK (x:KP):List KP->List KP
 | []=>[x]
 | y::ys=>if lexI x.1 y.1 then x::y::ys else y::insK x ys
noncomputable def zn3:List KP->List KP
 | []=>[]
 | x::xs=>insK x (zn3 xs)
theorem zfl (x:KP):∀l,(insK x l).Perm (x::l)
  | []=>.refl _
  | y::ys=>by
    unfold insK;split
    · exact .refl _
    · exact ((zfl x ys).cons y).trans (.swap x y ys)
theorem zgg:∀l:List KP,(zn3 l).Perm l
 | []=>.refl _
 | x::xs=>(zfl x _).trans ((zgg xs).cons x)
noncomputable abbrev leK (x y:KP):Prop:=lexI y.1 x.1=false
theorem z1f {x y z:KP} (h1:leK x y) (h2:leK y z):leK x z:=by
  unfold leK at *
  cases q:lexI z.1 x.1 with
  | false=>rfl
  | true =>
    rcases zy2 (ys:=y.1) q with a | a
    · rw [h2] at a;cases a
    · rw [h1] at a;cases a
theorem zjt {x y:KP} (h:lexI x.1 y.1=true):leK x y:=by
  unfold leK;cases q:lexI y.1 x.1 with
  | false=>rfl
  | true =>
    have:=zk2 h q;rw [zlz] at this;cases this
theorem zfe {x:KP}:∀{l:List KP},l.Pairwise leK->(insK x l).Pairwise leK
  | [],_=>List.pairwise_singleton _ _
  | y::ys,h=>by
    have hy:=List.pairwise_cons.mp h;unfold insK;split
    · rename_i q
      refine List.pairwise_cons.mpr ⟨fun z hz=>?_,h⟩;rcases List.mem_cons.mp hz with rfl | hz
      · exact zjt q
      · exact z1f (zjt q) (hy.1 z hz)
    · rename_i q
      refine List.pairwise_cons.mpr ⟨fun z hz=>?_,zfe hy.2⟩;rcases List.mem_cons.mp ((zfl x ys).mem_iff.mp hz) with rfl | hz
      · unfold leK;simpa using q
      · exact hy.1 z hz
theorem zef:∀l:List KP,(zn3 l).Pairwise leK
 | []=>.nil
 | x::xs=>zfe (zef xs)
theorem zgm:∀{l l' : List KP},l.Perm l'->l.Pairwise leK->l'.Pairwise leK->(∀x∈l,∀y∈l,x.1=y.1->x=y)->l=l'
  | [],l',p,_,_,_=>p.nil_eq
  | x::xs,[],p,_,_,_=>by simpa using p.length_eq
  | x::xs,y::ys,p,h1,h2,hu=>by
    have a1:=List.pairwise_cons.mp h1;have a2:=List.pairwise_cons.mp h2;have hy:y∈x::xs:=p.mem_iff.mpr List.mem_cons_self;have hx:x∈y::ys:=p.mem_iff.mp List.mem_cons_self;have exy:x=y:=by
      rcases List.mem_cons.mp hy with e | hy'
      · exact e.symm
      · rcases List.mem_cons.mp hx with e | hx'
        · exact e
        · exact hu x List.mem_cons_self y hy (zhm (show lexI x.1 y.1=false from a2.1 x hx') (show lexI y.1 x.1=false from a1.1 y hy'))
    subst exy;have p':=(List.perm_cons x).mp p;rw [zgm p' a1.2 a2.2 fun u hu' v hv=>hu u (List.mem_cons_of_mem _ hu') v (List.mem_cons_of_mem _ hv)]
inductive All2 {α β:Type} (R:α->β->Prop):List α->List β->Prop where
 | nil:All2 R [] []
 | cons {a b as bs} (h:R a b) (t:All2 R as bs):All2 R (a::as) (b::bs)
theorem All2.perm {α β:Type}{R:α->β->Prop}{bs bs' : List β} (p:bs.Perm bs'):∀{as:List α},All2 R as bs->∃as',as.Perm as'/\All2 R as' bs':=by
  induction p with
  | nil=>exact fun h=>⟨_,.refl _,h⟩
  | cons x p ih =>
    intro as h;cases h with
    | cons h t =>
      obtain ⟨as',q1,q2⟩:=ih t;exact ⟨_,q1.cons _,.cons h q2⟩
  | swap x y l =>
    intro as h;cases h with
    | cons h1 t =>
      cases t with
      | cons h2 t=>exact ⟨_,.swap _ _ _,.cons h2 (.cons h1 t)⟩
  | trans p1 p2 ih1 ih2 =>
    intro as h;obtain ⟨as1,q1,h1⟩:=ih1 h;obtain ⟨as2,q2,h2⟩:=ih2 h1;exact ⟨as2,q1.trans q2,h2⟩
end L2
namespace L2
open PySem PySem.Spec PyProof.Rows
noncomputable def Cx.inn (X:Cx):Cx:={ X with A:=X.A.in1.in1 }
section
variable {X:Cx}{pins:List (Addr × Obj)}{σ:St}{H:Hp}{s:Shared}
theorem Cx.Ok.inn (o:X.Ok):X.inn.Ok:=⟨o.mod,o.kind,o.glob,o.blt,o.above,o.inj,o.has,o.cab,o.hd,o.frames,o.stk,o.exf,o.bs,o.bsz,o.noex,o.exfs,o.funs,o.frf⟩
theorem Cx.Ok.out (o:X.inn.Ok):X.Ok:=⟨o.mod,o.kind,o.glob,o.blt,o.above,o.inj,o.has,o.cab,o.hd,o.frames,o.stk,o.exf,o.bs,o.bsz,o.noex,o.exfs,o.funs,o.frf⟩
theorem Inv.inn (I:Inv X pins σ H s):Inv X.inn pins σ H s:=⟨I.ok.inn,I.os,I.bare,I.base,I.loc,I.cell,I.free,I.freeC,I.pin,I.hok,I.len⟩
theorem Inv.out (I:Inv X.inn pins σ H s):Inv X pins σ H s:=⟨I.ok.out,I.os,I.bare,I.base,I.loc,I.cell,I.free,I.freeC,I.pin,I.hok,I.len⟩
structure Apart (X:Cx) (pins:List (Addr × Obj)) (b:Addr):Prop where
 l:b≠X.env.locals
 f:b ∉ X.fs
 x:b∈X.ex\/X.s₀.heap.objs.size<=b
 c:∀x c,X.env.cells.lookup x=some c->c≠b
 p:∀p∈X.pn++pins,p.1≠b
theorem FpOk.apart {b:Addr} (h:FpOk X pins H b):Apart X pins b:=⟨h.2.1,h.2.2.1,h.2.2.2.1,h.2.2.2.2.1,h.2.2.2.2.2⟩
end
end L2
namespace L2
open PySem PySem.Spec PyProof.Rows
section
variable {X:Cx}{pins:List (Addr × Obj)}{σ:St}{H F:Hp}{s:Shared}
end
end L2
namespace L2
open PySem PySem.Spec PyProof.Rows
section
variable {X:Cx}{pins:List (Addr × Obj)}{σ:St}{H F:Hp}{s:Shared}{pr:Prt}{en:En}
end
end L2
namespace L2
open PySem PySem.Spec PyProof.Rows
section
variable {prog:Program}{w:World}{A:Around}{E:Value->Shared->Prop}{s:Shared}{a:Addr}{vs:List Value}{P:PySem.Fin->Shared->Prop}
end
noncomputable def zqi (ns:List Int):List Int:=(zn3 (ns.map fun n=>([n],W.int n))).map fun z=>z.1.headD 0
noncomputable def pz (n:Int):KP:=([n],W.int n)
theorem zsj (a b:Int):lexI [a] [b]=decide (a < b):=by
 unfold lexI;by_cases c:a < b
 ·have : ¬ a = b := by omega
  simp [c,this]
 ·simp [c,lexI]
theorem zs2 {ns ms:List Int} (p:ms.Perm ns) (s:ms.Pairwise (·<=·)):zqi ns=ms:=by
 have e:ms.map pz=zn3 (ns.map pz):=zgm ((p.map pz).trans (zgg _).symm) (by
  rw [List.pairwise_map];exact s.imp fun {a b} h=>by show lexI [b] [a]=false;rw [zsj];exact decide_eq_false (by omega)) (zef _) fun x hx y hy h=>by
   obtain ⟨a,_,rfl⟩:=List.mem_map.mp hx;obtain ⟨b,_,rfl⟩:=List.mem_map.mp hy;have:a=b:=by injection h
   rw [this]
 show (zn3 (ns.map pz)).map _=ms;rw [<-e,List.map_map];exact (List.map_congr_left fun a _=>rfl).trans (List.map_id ms)
section
variable {X:Cx}
end
noncomputable def zyz:ON
 | [w]=>(seqL w).bind fun ws=>(zbi ws).bind fun ns=>some (.lst ((zqi ns).map W.int),true)
 | _=>none
end L2
namespace L2
open PySem PySem.Spec PyProof.Rows
structure Sx where
 N:List Str
 kd:List (Str × NameKind)
 bn:List Str
 fs:List (Str × (List Bool × Fn))
 mp:List Nat
 top:Bool
 nm:Str := ""
 dp:Nat:=0
noncomputable def Sx.rd (S:Sx) (x:Str):Option Nat:=if x == ("__debug__" : Str) || x == ("__classdict__" : Str) then none else match S.kd.lookup x with
 | some .local=>S.N.findIdx? (· == x)
 | some .cell=>S.N.findIdx? (· == x)
 | some .free=>S.N.findIdx? (· == x)
 | _=>none
noncomputable def Sx.wr (S:Sx) (x:Str):Option Nat:=match S.kd.lookup x with
 | some .local=>S.N.findIdx? (· == x)
 | some .cell=>S.N.findIdx? (· == x)
 | _=>none
noncomputable def Sx.bl (S:Sx) (x:Str):Bool:=S.kd.lookup x == some .globalImplicit && S.bn.contains x
structure CxOk (X:Cx) (S:Sx) (d:Nat):Prop where
 N:X.N=S.N
 nd:S.N.Nodup
 loc:∀x,S.kd.lookup x=some .local->X.env.scope.names.lookup x=some .local
 cel:∀x,S.kd.lookup x=some .cell->X.env.scope.names.lookup x=some .cell/\X.fn x=true
 vis:∀x,S.kd.lookup x=some .cell\/S.kd.lookup x=some .free->X.env.scope.names.lookup x=some .cell\/X.env.scope.names.lookup x=some .free
 gl:∀x,S.kd.lookup x=some .globalImplicit->Gl X x
 calm:X.calm=true
 xe:X.xe=fun _ _=>False
 bn:∀x∈S.bn,X.mg x=none
 fs:∀x m Φ,S.fs.lookup x=some (m,Φ)->∃ps,ps.length=m.length/\Cal X.prog X.w X.K X.mg X.base d x ps (spF X.K m Φ)
 room:Room d X.A
 sl:X.A.units+16 * d+205 < cLine
 bk:X.env.blockKind=.function
 lam:S.nm∈lams->∃c P,PySem.W.tabIn X.K S.nm=some (c,P)/\PySem.W.codeHdIn X.K c P=true/\X.env.code=.ref c/\X.env.qual=S.nm++".<locals>."
 dpo:S.dp<=d
theorem zfb {N:List Str}{x:Str}{i:Nat} (h:N.findIdx? (· == x)=some i):N[i]?=some x:=by
 obtain ⟨hl,h1,_⟩:=List.findIdx?_eq_some_iff_getElem.mp h;rw [List.getElem?_eq_getElem hl];have:N[i]=x:=by simpa using h1
 rw [this]
section
variable {X:Cx}{S:Sx}{d:Nat}
theorem zji (C:CxOk X S d) {x:Str}{i:Nat}{pos:Pos} (h:S.rd x=some i):PE X (.Name x pos) (tVar i):=by
 unfold Sx.rd at h;split at h
 ·exact noSome h
 ·rename_i z;rw [Bool.or_eq_true,not_or,Bool.not_eq_true,Bool.not_eq_true] at z;split at h
  ·rename_i e;exact zot (by rw [C.N];exact zfb h) (.inl (C.loc x e)) z.1 z.2
  ·rename_i e;exact zot (by rw [C.N];exact zfb h) (.inr (C.vis x (.inl e))) z.1 z.2
  ·rename_i e;exact zot (by rw [C.N];exact zfb h) (.inr (C.vis x (.inr e))) z.1 z.2
  ·exact noSome h
theorem zr0 (C:CxOk X S d) {x:Str}{i:Nat} (h:S.wr x=some i):X.N[i]?=some x/\Loc X.env.scope x/\(X.fn x=true\/X.env.scope.names.lookup x=some .local):=by
 unfold Sx.wr at h;split at h
 ·rename_i e;exact ⟨by rw [C.N];exact zfb h,.inl (C.loc x e),.inr (C.loc x e)⟩
 ·rename_i e;exact ⟨by rw [C.N];exact zfb h,.inr (C.cel x e).1,.inl (C.cel x e).2⟩
 ·exact noSome h
theorem zkf (C:CxOk X S d) {x:Str} (h:S.bl x=true):Gl X x/\X.mg x=none:=by
 unfold Sx.bl at h;rw [Bool.and_eq_true] at h;exact ⟨C.gl x (by simpa using h.1),C.bn x (by simpa using h.2)⟩
theorem ndN (C:CxOk X S d):X.N.Nodup:=by rw [C.N];exact C.nd
end
noncomputable def zgr:Expr->Bool
 | .Set ..=>false
 | _=>true
noncomputable def zdj:Expr->Bool
 | .Slice ..=>false
 | _=>true
noncomputable def zfg:Expr->Bool
 | .ListComp ..=>false
 | .SetComp ..=>false
 | .DictComp ..=>false
 | _=>true
noncomputable def zme:Expr->Bool
 | .UnaryOp .Not _ _=>false
 | .BoolOp ..=>false
 | .IfExp ..=>false
 | .Compare ..=>false
 | _=>true
theorem zo3 {e:Expr}{env:Env} (h:zgr e=true):∀x,foldedSetIterable e env x=pure x:=by
 intro x;cases e<;>first | rfl | (cases h)
theorem zhk {op:CmpOp}{e:Expr} (h:zgr e=true):behindInMarks op e=false:=by
 cases e<;>first | rfl | (cases h)
theorem zih {op op' : CmpOp}{b c:Expr} (h:zgr c=true):lastMarks [op,op'] [b,c]=false:=zhk h
theorem zns {e:Expr} (h:zdj e=true):zox e:=fun o i=>by
 cases e<;>first | rfl | (cases h)
theorem zly {e:Expr}{t:Option Expr}{l:Nat}{env:Env} (h:zfg e=true):swapsWith e t l env=pure false:=by
 cases e<;>first | rfl | (cases h)
theorem zmy {e:Expr}{env:Env} (h:zme e=true):∀whole,isTrue e env whole=(do let v <- whole;standAt e.pos;holding [v] (truthy v)):=by
 intro whole;cases e with
 | UnaryOp op _ _=>cases op<;>first | rfl | (cases h)
 | _=>first | rfl | (cases h)
theorem zmv {es:List Expr}{env:Env}{pos:Pos} (h:es.all zai=true):(backTo pos (starEach es env)).any (·.1)=false:=by
  induction es with
  | nil=>rfl
  | cons e es ih =>
    rw [List.all_cons,Bool.and_eq_true] at h;rw [zaf h.1];show (false || (backTo pos (starEach es env)).any (·.1))=false;rw [ih h.2]
    rfl
noncomputable def cPow (i j:Int):Bool:=decide (0<=j) && decide (j<=1000000) && decide (i.natAbs < 2 ^ 64)
noncomputable def cMul (i j:Int):Bool:=(decide (-(2 ^ 64) < i) && decide (i < 2 ^ 64)) || (decide (-(2 ^ 64) < j) && decide (j < 2 ^ 64))
noncomputable def zni (i j:Int):Bool:=decide (Builtin.Int.intBits i<=2 ^ 20) && decide (Builtin.Int.intBits j<=2 ^ 20)
noncomputable def cDiv (i j:Int):Bool:=decide (0 < j) && decide (j.natAbs.log2 < 9000)
noncomputable def yes2 (_ _:Int):Bool:=true
noncomputable def oAdd:O2:=oOr (oI yes2 fun i j=>.int (i+j)) (oOr oCat (oOr zul (oOr zxc zs7)))
noncomputable def oMult:O2:=oOr (oI cMul fun i j=>.int (i * j)) (oOr (oI zni fun i j=>.int (i * j)) oRep)
noncomputable def binO:Operator->Option O2
 | .Add=>some oAdd
 | .Sub=>some (oI yes2 fun i j=>.int (i - j))
 | .Mult=>some oMult
 | .FloorDiv=>some (oI cDiv fun i j=>.int (i / j))
 | .Mod=>some (oI (fun _ j=>decide (0 < j)) fun i j=>.int (i % j))
 | .Pow=>some (oI cPow fun i j=>.int (i ^ j.toNat))
 | .LShift=>some (oI cPow fun i j=>.int (i * 2 ^ j.toNat))
 | .RShift=>some (oI (fun _ j=>decide (0<=j)) fun i j=>.int (i / 2 ^ j.toNat))
 | .BitAnd=>some (oI yes2 fun i j=>.int (Builtin.bitAnd i j))
 | .BitOr=>some (oI yes2 fun i j=>.int (Builtin.bitOr i j))
 | .BitXor=>some (oI yes2 fun i j=>.int (Builtin.bitXor i j))
 | _=>none
theorem zq2 {i j:Int} (h:cPow i j=true):CPow i j:=by
 unfold cPow at h;rw [Bool.and_eq_true,Bool.and_eq_true] at h;exact ⟨of_decide_eq_true h.1.1,of_decide_eq_true h.1.2,of_decide_eq_true h.2⟩
theorem zwr {i j:Int} (h:cMul i j=true):CMul i j:=by
 unfold cMul at h;rw [Bool.or_eq_true,Bool.and_eq_true,Bool.and_eq_true] at h;rcases h with h | h
 ·exact .inl ⟨of_decide_eq_true h.1,of_decide_eq_true h.2⟩
 ·exact .inr ⟨of_decide_eq_true h.1,of_decide_eq_true h.2⟩
theorem zt8 {i j:Int} (h:zni i j=true):z1h i j:=by
 unfold zni at h;rw [Bool.and_eq_true] at h;exact ⟨of_decide_eq_true h.1,of_decide_eq_true h.2⟩
theorem zyb {i j:Int} (h:cDiv i j=true):0 < j/\j.natAbs.log2 < 9000:=by
 unfold cDiv at h;rw [Bool.and_eq_true] at h;exact ⟨of_decide_eq_true h.1,of_decide_eq_true h.2⟩
section
variable {X:Cx}
theorem zyp {op:Operator}{o:O2} (h:binO op=some o):∃r,OpR X (binaryOp op) r/\OpS X.K r o:=by
 cases op with
 | Add=>obtain rfl:=sI h;exact ⟨_,z0y.or (z1a.or (zyr.or (zxa.or zny))),(zd0 fun _ _ _=>.int _).or (zxv.or (zuc.or (zsn.or zu7)))⟩
 | Sub=>obtain rfl:=sI h;exact ⟨_,z0o,zd0 fun _ _ _=>.int _⟩
 | Mult=>obtain rfl:=sI h;exact ⟨_,zz8.or (zxi.or z2y),(zko (fun _ _=>zwr) fun _ _ _=>.int _).or ((zko (fun _ _=>zt8) fun _ _ _=>.int _).or zw1)⟩
 | FloorDiv=>obtain rfl:=sI h;exact ⟨_,zr5,zko (fun _ _=>zyb) fun _ _ _=>.int _⟩
 | Mod=>obtain rfl:=sI h;exact ⟨_,z18,zko (fun _ _=>of_decide_eq_true) fun _ _ _=>.int _⟩
 | Pow=>obtain rfl:=sI h;exact ⟨_,z2c,zko (fun _ _=>zq2) fun _ _ _=>.int _⟩
 | LShift=>obtain rfl:=sI h;exact ⟨_,z19,zko (fun _ _=>zq2) fun _ _ _=>.int _⟩
 | RShift=>obtain rfl:=sI h;exact ⟨_,z05,zko (fun _ _=>of_decide_eq_true) fun _ _ _=>.int _⟩
 | BitAnd=>obtain rfl:=sI h;exact ⟨_,zz5,zd0 fun _ _ _=>.int _⟩
 | BitOr=>obtain rfl:=sI h;exact ⟨_,z3k,zd0 fun _ _ _=>.int _⟩
 | BitXor=>obtain rfl:=sI h;exact ⟨_,zzv,zd0 fun _ _ _=>.int _⟩
 | _=>exact noSome h
noncomputable def cmpO:CmpOp->Option O2
 | .Eq=>some oEq
 | .NotEq=>some oNe
 | .Lt=>some (oI yes2 fun i j=>.bl (decide (i < j)))
 | .LtE=>some (oI yes2 fun i j=>.bl (decide (i<=j)))
 | .Gt=>some (oI yes2 fun i j=>.bl (decide (j < i)))
 | .GtE=>some (oI yes2 fun i j=>.bl (decide (j<=i)))
 | .Is=>some oIs
 | .IsNot=>some zmn
 | .In=>some (oIn false)
 | .NotIn=>some (oIn true)
theorem zkr {kr:Nat} (hr:Room kr X.A) {op:CmpOp}{o:O2} (h:cmpO op=some o):∃r,OpR X (compareOp op) r/\OpS X.K r o:=by
 cases op with
 | Eq=>obtain rfl:=sI h;exact ⟨_,.or z3p (z2q hr),z1n⟩
 | NotEq=>obtain rfl:=sI h;exact ⟨_,.or z30 (zz7 hr),z0r⟩
 | Lt=>obtain rfl:=sI h;exact ⟨_,z3d,zd0 fun _ _ _=>.bl _⟩
 | LtE=>obtain rfl:=sI h;exact ⟨_,z3i,zd0 fun _ _ _=>.bl _⟩
 | Gt=>obtain rfl:=sI h;exact ⟨_,z4p,zd0 fun _ _ _=>.bl _⟩
 | GtE=>obtain rfl:=sI h;exact ⟨_,z4u,zd0 fun _ _ _=>.bl _⟩
 | Is=>obtain rfl:=sI h;exact ⟨_,z24.or z2d,z0s⟩
 | IsNot=>obtain rfl:=sI h;exact ⟨_,zzi.or zp7,zoc⟩
 | In=>obtain rfl:=sI h;exact ⟨_,zqw,zvn false⟩
 | NotIn=>obtain rfl:=sI h;exact ⟨_,zii,zvn true⟩
end
noncomputable def zbx (f:Sx->Expr->Option GE) (S:Sx) (e:Expr):Option GA:=match e with
 | .Name x _=>(S.rd x).bind fun i=>some (zaa i)
 | _=>(f S e).bind fun g=>some (gArg g)
noncomputable def asL (f:Expr->Option GA):List Expr->Option GAs
 | []=>some gA0
 | e::es=>if zai e then (f e).bind fun a=>(asL f es).bind fun as=>some (gCns a as) else none
noncomputable def asM (f:Sx->Expr->Option GE) (S:Sx):List Expr->List Bool->Option GAs
 | [],[]=>some gA0
 | e::es,b::m=>if zai e then (if b then zbx f S e else (f S e).bind fun g=>some (gArg g)).bind fun a=>(asM f S es m).bind fun as=>some (gCns a as) else none
 | _,_=>none
noncomputable def zdl (f:Sx->Expr->Option GE):Prop:=∀X S d,CxOk X S d->∀e g,f S e=some g->PE X e (tE X.K g)
noncomputable def zi3 (f:Sx->Expr->Option GT):Prop:=∀X S d,CxOk X S d->∀e g,f S e=some g->PT X e (tT X.K g)
section
variable {X:Cx}{S:Sx}{d:Nat}{f:Sx->Expr->Option GE}
theorem zaj (Hf:zdl f) (C:CxOk X S d) {e:Expr}{a:GA} (h:zbx f S e=some a):PE X e (tA X.K a):=by
 unfold zbx at h;split at h
 ·obtain ⟨i, hi, h⟩ := bS h;obtain rfl:=sI h;exact (zji C hi).wk fun _ _ _=>zpi
 ·obtain ⟨g, hg, h⟩ := bS h;obtain rfl:=sI h;exact (Hf X S d C _ _ hg).wk fun _ _ _=>zhj
theorem zgu {fa:Expr->Option GA} (Hf:∀e a,fa e=some a->PE X e (tA X.K a)):∀{es:List Expr}{as:GAs},asL fa es=some as->PA X es (tAs X.K as)/\es.all zai=true
  | [],_,h=>by obtain rfl:=sI h;exact ⟨zdv.wk fun _ _ _=>zlw,rfl⟩
  | e::es,_,h=>by
    unfold asL at h;split at h
    · rename_i z
      obtain ⟨a,ha,h⟩:=bS h;obtain ⟨as,has,h⟩:=bS h;obtain rfl:=sI h;obtain ⟨p,q⟩:=zgu Hf has;exact ⟨(pac (Hf e a ha) p z).wk fun _ _ _=>zms,by rw [List.all_cons,z,q];rfl⟩
    · exact noSome h
theorem zvk (Hf:zdl f) (C:CxOk X S d):∀{es:List Expr}{m:List Bool}{as:GAs},asM f S es m=some as->PA X es (tAs X.K as)/\es.all zai=true
  | [],[],_,h=>by obtain rfl:=sI h;exact ⟨zdv.wk fun _ _ _=>zlw,rfl⟩
  | e::es,b::m,_,h=>by
    unfold asM at h;split at h
    · rename_i z
      obtain ⟨a,ha,h⟩:=bS h;obtain ⟨as,has,h⟩:=bS h;obtain rfl:=sI h;obtain ⟨p,q⟩:=zvk Hf C has;have pe:PE X e (tA X.K a):=by
        cases b with
        | true=>exact zaj Hf C (by simpa using ha)
        | false =>
          obtain ⟨g,hg,ha⟩:=bS (show (f S e).bind _=some a from by simpa using ha);obtain rfl:=sI ha;exact (Hf X S d C _ _ hg).wk fun _ _ _=>zhj
      exact ⟨(pac pe p z).wk fun _ _ _=>zms,by rw [List.all_cons,z,q];rfl⟩
    · exact noSome h
  | [],_::_,_,h=>by exact noSome h
  | _::_,[],_,h=>by exact noSome h
end
noncomputable def cmpE (f:Sx->Expr->Option GE) (S:Sx) (a:Expr) (ops:List CmpOp) (cs:List Expr):Option GE:=match ops,cs with
 | [op],[b]=>if zgr b then (zbx f S a).bind fun x=>(zbx f S b).bind fun y=>(cmpO op).bind fun o=>some (gOp2 o x y) else none
 | [op,op'],[b,c]=>if zgr c then (zbx f S a).bind fun x=>(zbx f S b).bind fun y=>(zbx f S c).bind fun z=>(cmpO op).bind fun o=>(cmpO op').bind fun o'=>some (zln o o' x y z) else none
 | _,_=>none
noncomputable def zyo (f:Expr->Option GE) (op:BoolOp):Expr->List Expr->Option GE
 | v,[]=>f v
 | v,u::us=>match op with | .And=>(f v).bind fun a=>(zyo f op u us).bind fun b=>some (gAnd a b) | .Or=>none
noncomputable def zyi (f:Expr->Option GT) (op:BoolOp):Expr->List Expr->Option GT
 | v,[]=>f v
 | v,u::us=>(f v).bind fun a=>(zyi f op u us).bind fun b=>some (match op with | .And=>zga a b | .Or=>gOrT a b)
section
variable {X:Cx}{S:Sx}{d:Nat}{f:Sx->Expr->Option GE}
theorem zrf (Hf:zdl f) (C:CxOk X S d) {a:Expr}{ops:List CmpOp}{cs:List Expr}{g:GE}{pos:Pos} (h:cmpE f S a ops cs=some g):PE X (.Compare a ops cs pos) (tE X.K g)/\PT X (.Compare a ops cs pos) (tT X.K (zal g)):=by
 unfold cmpE at h;split at h
 ·rename_i op b;split at h
  ·rename_i z;refine aG fun _ qG=>?_;obtain ⟨x,hx,h⟩:=bS h;obtain ⟨y,hy,h⟩:=bS h;obtain ⟨o,ho,h⟩:=bS h;refine qG ?_;clear qG;obtain rfl:=sI h;obtain ⟨r,h1,h2⟩:=zkr (X:=X) C.room ho;exact ⟨(zwz h1 (zaj Hf C hx) (zaj Hf C hy) (zhk z)).wk fun _ _ _=>zer h2,(zwe h1 (zaj Hf C hx) (zaj Hf C hy) (zhk z)).wk fun _ _ _=>ze3 fun _ _ _=>zer h2⟩
  ·exact noSome h
 ·rename_i op op' b c;split at h
  ·rename_i z;refine aG fun _ qG=>?_;obtain ⟨x,hx,h⟩:=bS h;obtain ⟨y,hy,h⟩:=bS h;obtain ⟨w,hw,h⟩:=bS h;obtain ⟨o,ho,h⟩:=bS h;obtain ⟨o',ho',h⟩:=bS h;refine qG ?_;clear qG;obtain rfl:=sI h;refine aG fun _ qG=>?_;obtain ⟨r,h1,h2⟩:=zkr (X:=X) C.room ho;obtain ⟨r',h1',h2'⟩:=zkr (X:=X) C.room ho';refine qG ?_;clear qG;exact ⟨(zr6 h1 h1' (zaj Hf C hx) (zaj Hf C hy) (zaj Hf C hw) (zih z)).wk fun _ _ _=>zgk h2 h2',(zuf h1 h1' (zaj Hf C hx) (zaj Hf C hy) (zaj Hf C hw) (zih z)).wk fun _ _ _=>ze3 fun _ _ _=>zgk h2 h2'⟩
  ·exact noSome h
 ·exact noSome h
theorem zl7 {fe:Expr->Option GE} (Hf:∀e g,fe e=some g->PE X e (tE X.K g)) {op:BoolOp}{pos:Pos}:∀{v:Expr}{vs:List Expr}{g:GE},zyo fe op v vs=some g->PE X (.BoolOp op (v::vs) pos) (tE X.K g)
  | v,[],g,h=>zz0 (Hf v g h)
  | v,u::us,g,h=>by
    cases op with
    | And =>
      obtain ⟨a,ha,h⟩:=bS h;obtain ⟨b,hb,h⟩:=bS h;obtain rfl:=sI h;exact (z1x (Hf v a ha) (zl7 Hf hb)).wk fun _ _ _=>zt5
    | Or=>exact noSome h
theorem zh2 {fe:Expr->Option GT} (Hf:∀e g,fe e=some g->PT X e (tT X.K g)) {op:BoolOp}{pos:Pos}:∀{v:Expr}{vs:List Expr}{g:GT},zyi fe op v vs=some g->PW X (.BoolOp op (v::vs) pos) (tT X.K g)
  | v,[],g,h=>by
    cases op with
    | And=>exact zwt (Hf v g h)
    | Or=>exact z1b (Hf v g h)
  | v,u::us,g,h=>by
    obtain ⟨a,ha,h⟩:=bS h;obtain ⟨b,hb,h⟩:=bS h;obtain rfl:=sI h;cases op with
    | And=>exact (z0i (Hf v a ha) (zh2 Hf hb)).wk fun _ _ _=>zoe
    | Or=>exact (z4c (Hf v a ha) (zh2 Hf hb)).wk fun _ _ _=>zsp
end
end L2
namespace L2
open PySem PySem.Spec PyProof.Rows
theorem z06:bootBuiltins "min" = some (.builtin "min"):=by decide +kernel
theorem z1s:bootBuiltins "max" = some (.builtin "max"):=by decide +kernel
noncomputable def bltO (x:Str):Option ON :=
 if x == ("len" : Str) then some oLen else if x == ("abs" : Str) then some oAbs else if x == ("int" : Str) then some oInt else if x == ("tuple" : Str) then some zee else if x == ("all" : Str) then some (oBl fun bs=>bs.all id) else if x == ("any" : Str) then some (oBl fun bs=>bs.any id)
 else if x == ("sum" : Str) then some oSum else if x == ("min" : Str) then some oMin else if x == ("max" : Str) then some oMax else none
section
variable {X:Cx}{S:Sx}{d:Nat}
set_option maxHeartbeats 4000000 in
theorem zxl (C:CxOk X S d) {x:Str}{o:ON}{e:Expr}{es:List Expr}{t:TA}{p pos:Pos} (hb:S.bl x=true) (h:bltO x=some o) (ha:PA X (e::es) t) (hst:(e::es).all zai=true):∃r,PE X (.Call (.Name x p) (e::es) [] pos) (tCB r t)/\OpSN X.K r o:=by
 obtain ⟨g,m⟩:=zkf C hb;rw [List.all_cons,Bool.and_eq_true] at hst;have s1:=zaf (env:=X.env) (es:=es) hst.1;have s2:=zmv (env:=X.env) (pos:=pos) hst.2;unfold bltO at h;split at h
 ·rename_i z;obtain rfl:=sI h;have e:=eq_of_beq z;subst e;exact ⟨_,zb1 zit g m z2b ha (by decide) (by decide) s1 s2,zzg⟩
 split at h
 ·rename_i z;obtain rfl:=sI h;have e:=eq_of_beq z;subst e;exact ⟨_,zb1 zt7 g m z2k ha (by decide) (by decide) s1 s2,zw9⟩
 split at h
 ·rename_i z;obtain rfl:=sI h;have e:=eq_of_beq z;subst e;exact ⟨_,zi5 zpf g m zv2 ha (by decide) (by decide) s1 s2,zx0⟩
 split at h
 ·rename_i z;obtain rfl:=sI h;have e:=eq_of_beq z;subst e;exact ⟨_,zi5 zho g m zmt ha (by decide) (by decide) s1 s2,zpo⟩
 split at h
 ·rename_i z;obtain rfl:=sI h;have e:=eq_of_beq z;subst e;exact ⟨_,zb1 (zss C.calm) g m z0n ha (by decide) (by decide) s1 s2,zvi⟩
 split at h
 ·rename_i z;obtain rfl:=sI h;have e:=eq_of_beq z;subst e;exact ⟨_,zb1 (zty C.calm) g m z17 ha (by decide) (by decide) s1 s2,zvi⟩
 split at h
 ·rename_i z;obtain rfl:=sI h;have e:=eq_of_beq z;subst e;exact ⟨_,zb1 (zry C.calm) g m z1r ha (by decide) (by decide) s1 s2,zx7⟩
 split at h
 ·rename_i z;obtain rfl:=sI h;have e:=eq_of_beq z;subst e;exact ⟨_,zb1 (zog C.calm) g m z06 ha (by decide) (by decide) s1 s2,zw5⟩
 split at h
 ·rename_i z;obtain rfl:=sI h;have e:=eq_of_beq z;subst e;exact ⟨_,zb1 (zqv C.calm) g m z1s ha (by decide) (by decide) s1 s2,zxd⟩
 exact noSome h
noncomputable def zz1 (x:Str):Option ON:=bltO x
theorem zs8 (C:CxOk X S d) {x:Str}{o:ON}{e:Expr}{es:List Expr}{t:TA}{p pos:Pos} (hb:S.bl x=true) (h:zz1 x=some o) (ha:PA X (e::es) t) (hst:(e::es).all zai=true):∃r,PE X (.Call (.Name x p) (e::es) [] pos) (tCB r t)/\OpSN X.K r o:=by
 exact zxl C hb h ha hst
end
noncomputable def kdOf (x:Str):Option Kd:=if x == ("int" : Str) then some .int else if x == ("bool" : Str) then some .bool else if x == ("str" : Str) then some .str else if x == ("tuple" : Str) then some .tuple else if x == ("list" : Str) then some .list else none
theorem zy1 {x:Str}{k:Kd} (h:kdOf x=some k):bootBuiltins x=some (.type k.nm)/\x≠("__name__" : Str)/\(x == ("__debug__" : Str))=false:=by
 unfold kdOf at h;split at h
 ·rename_i z;obtain rfl:=sI h;have e:=eq_of_beq z;subst e;exact ⟨zv2,by decide,by decide⟩
 split at h
 ·rename_i z;obtain rfl:=sI h;have e:=eq_of_beq z;subst e;exact ⟨zzf,by decide,by decide⟩
 split at h
 ·rename_i z;obtain rfl:=sI h;have e:=eq_of_beq z;subst e;exact ⟨z1v,by decide,by decide⟩
 split at h
 ·rename_i z;obtain rfl:=sI h;have e:=eq_of_beq z;subst e;exact ⟨zmt,by decide,by decide⟩
 split at h
 ·rename_i z;obtain rfl:=sI h;have e:=eq_of_beq z;subst e;exact ⟨zy3,by decide,by decide⟩
 exact noSome h
noncomputable def zr2:Expr->Bool
 | .Call _ _ _ _=>true
 | _=>false
theorem zp1 {o:Expr}{a:Str}{env:Env}{w:Sem Value} (h:zr2 o=false):attributeBase o a env w=w:=by
 cases o<;>first | rfl | (cases h)
noncomputable def zxo (f:Sx->Expr->Option GE) (S:Sx) (o:Expr) (name:Str) (apos:Pos) (args:List Expr) (cpos:Pos):Option GE :=
  if !(apos.endLine == cpos.line) || zr2 o then none else match args with
  | [e]=>if !zai e then none else match o with
    | .Name x _=>(S.rd x).bind fun i=>(f S e).bind fun g=>if name == ("append" : Str) then some (gApp i g) else if name == ("extend" : Str) then some (gExt i g) else none
    | _=>none
  | [e,e']=>if !(zai e && zai e') || !(name == ("insert" : Str)) then none else match o with
    | .Name x _=>(S.rd x).bind fun i=>(f S e).bind fun g=>(f S e').bind fun g'=>some (gIns i g g')
    | _=>none
  | _=>none
theorem zld {e:Expr}{env:Env}{cpos:Pos} (h:zai e=true):((backTo cpos (starEach [e] env)).all (fun x=>!x.1) && (backToKw cpos (keywordEach [] env)).all (fun x=>x.1.isSome) && decide (([e]:List Expr).length+([]:List Keyword).length+(if ([]:List Keyword).isEmpty then 0 else 1) < 30))=true:=by
 rw [zaf h];rfl
theorem zwo {e e' : Expr}{env:Env}{cpos:Pos} (h:zai e=true) (h' : zai e'=true):((backTo cpos (starEach [e,e'] env)).all (fun x=>!x.1) && (backToKw cpos (keywordEach [] env)).all (fun x=>x.1.isSome) && decide (([e,e']:List Expr).length+([]:List Keyword).length+(if ([]:List Keyword).isEmpty then 0 else 1) < 30))=true:=by
 rw [zaf h,zaf h'];rfl
section
variable {X:Cx}{S:Sx}{d:Nat}{f:Sx->Expr->Option GE}
theorem zr7 (Hf:zdl f) (C:CxOk X S d) {o:Expr}{name:Str}{apos cpos:Pos}{args:List Expr}{g:GE} (h:zxo f S o name apos args cpos=some g):PE X (.Call (.Attribute o name apos) args [] cpos) (tE X.K g):=by
 unfold zxo at h;split at h
 ·exact noSome h
 ·rename_i z;rw [Bool.or_eq_true,not_or,Bool.not_eq_true,Bool.not_eq_true,Bool.not_eq_false'] at z;have hb:=zp1 (a:=name) (env:=X.env) (w:=eval o X.env) z.2;split at h
  ·rename_i e;split at h
   ·exact noSome h
   ·rename_i y;rw [Bool.not_eq_true,Bool.not_eq_false'] at y;split at h
    ·rename_i x px;obtain ⟨i,hi,h⟩:=bS h;obtain ⟨ge,hg,h⟩:=bS h;have pa:PA X [e] (zcr (tE X.K ge) tNil):=pac (Hf X S d C _ _ hg) zdv y;split at h
     ·rename_i q;obtain rfl:=sI h;have e':=eq_of_beq q;subst e';exact (zuo PySem.F.plainAttrs_list PySem.F.slot_list_append PySem.F.type_list_append ziy (zji C hi) pa hb (zld y) z.1 (zaf y) rfl).wk fun _ _ _=>zua
     ·split at h
      ·rename_i q;obtain rfl:=sI h;have e':=eq_of_beq q;subst e';exact (zuo PySem.F.plainAttrs_list PySem.F.slot_list_extend PySem.F.type_list_extend zpv (zji C hi) pa hb (zld y) z.1 (zaf y) rfl).wk fun _ _ _=>zs9
      ·exact noSome h
    ·exact noSome h
  ·rename_i e e';split at h
   ·exact noSome h
   ·rename_i y;rw [Bool.or_eq_true,not_or,Bool.not_eq_true,Bool.not_eq_true,Bool.not_eq_false',Bool.not_eq_false',Bool.and_eq_true] at y;obtain ⟨⟨y1,y2⟩,yn⟩:=y;have en:=eq_of_beq yn;subst en;split at h
    ·rename_i x px;obtain ⟨i,hi,h⟩:=bS h;obtain ⟨g1,hg1,h⟩:=bS h;obtain ⟨g2,hg2,h⟩:=bS h;obtain rfl:=sI h;have pa:PA X [e,e'] (zcr (tE X.K g1) (zcr (tE X.K g2) tNil)):=pac (Hf X S d C _ _ hg1) (pac (Hf X S d C _ _ hg2) zdv y2) y1;exact (zuo PySem.F.plainAttrs_list PySem.F.slot_list_insert PySem.F.type_list_insert zok (zji C hi) pa hb (zwo y1 y2) z.1 (zaf y1) (by rw [zaf y2];rfl)).wk fun _ _ _=>zsl
    ·exact noSome h
  ·exact noSome h
end
noncomputable def zw7 (f:Sx->Expr->Option GE) (S:Sx) (x:Str) (args:List Expr):Option GE:=if x == ("__debug__" : Str) then none else match args with
  | []=>none
  | e::es=>match S.fs.lookup x with
    | some (m,Φ)=>if S.kd.lookup x == some .globalImplicit then (asM f S (e::es) m).bind fun as=>some (zae m Φ as) else none
    | none=>if x == ("isinstance" : Str) && S.bl x then (match e,es with
        | e,[.Name t _]=>if zai e && S.bl t then (kdOf t).bind fun k=>(zbx f S e).bind fun a=>some (gOp1 (oIsi k) a) else none
        | _,_=>none)
      else if S.bl x then (zz1 x).bind fun o=>(asL (zbx f S) (e::es)).bind fun as=>some (gOpN o as) else none
theorem zu6 {X:Cx}{S:Sx}{d:Nat}{f:Sx->Expr->Option GE} (Hf:zdl f) (C:CxOk X S d) {x:Str}{args:List Expr}{g:GE}{p pos:Pos} (h:zw7 f S x args=some g):PE X (.Call (.Name x p) args [] pos) (tE X.K g):=by
 unfold zw7 at h;split at h
 ·exact noSome h
 ·rename_i hdb;rw [Bool.not_eq_true] at hdb;split at h
  ·exact noSome h
  ·rename_i e es;split at h
   ·rename_i m Φ hfs;split at h
    ·rename_i hgl;obtain ⟨as,has,h⟩:=bS h;obtain rfl:=sI h;obtain ⟨ps,hl,cal⟩:=C.fs x m Φ hfs;obtain ⟨pa,st⟩:=zvk Hf C has;rw [List.all_cons,Bool.and_eq_true] at st;exact (z1q cal C.room (C.gl x (by simpa using hgl)) pa (Nat.le_refl _) hdb (zaf st.1) (zmv st.2)).wk fun _ _ _=>zq6
    ·exact noSome h
   ·split at h
    ·rename_i hi;rw [Bool.and_eq_true] at hi;have e':=eq_of_beq hi.1;subst e';obtain ⟨gI,mI⟩:=zkf C hi.2;split at h
     ·rename_i t pt;split at h
      ·rename_i z;rw [Bool.and_eq_true] at z;obtain ⟨k,hk,h⟩:=bS h;obtain ⟨a,ha,h⟩:=bS h;obtain rfl:=sI h;obtain ⟨k1,k2,k3⟩:=zy1 hk;obtain ⟨gT,mT⟩:=zkf C z.2;have pt' : PE X (.Name t pt) (tC (.ty k.nm)):=zyx gT mT k1 rfl k2 k3;have pa:PA X [e,.Name t pt] (zcr (tA X.K a) (zcr (tC (.ty k.nm)) tNil)):=pac (zaj Hf C ha) (pac pt' zdv rfl) z.1;exact (zb1 zsy gI mI zg0 pa (by decide) hdb (zaf z.1) rfl).wk fun _ _ _=>zus
      ·exact noSome h
     ·exact noSome h
    ·split at h
     ·rename_i hb;obtain ⟨o,ho,h⟩:=bS h;obtain ⟨as,has,h⟩:=bS h;obtain rfl:=sI h;obtain ⟨pa,st⟩:=zgu (fun e a ha=>zaj Hf C ha) has;obtain ⟨r,h1,h2⟩:=zs8 (pos:=pos) (p:=p) C hb ho pa st;exact h1.wk fun _ _ _=>ztt h2
     ·exact noSome h
noncomputable def zow (f:Sx->Expr->Option GE) (S:Sx) (tg e:Expr):Option GL:=if !zgr e then none else match e with
  | .Call (.Name x _) args [] _ =>
    if x == ("range" : Str) && S.bl x then (match args with
      | [a]=>if zai a then (asL (zbx f S) [a]).bind fun as=>some (zca as) else none
      | [a,b]=>if zai a && zai b then (asL (zbx f S) [a,b]).bind fun as=>some (zk3 as) else none
      | _=>none)
    else if x == ("enumerate" : Str) && S.bl x then (match args,tg with
      | [a],.Tuple _ _ _=>if zai a then (f S a).bind fun g=>some (zh4 g) else none
      | _,_=>none)
    else if x == ("reversed" : Str) && S.bl x then (match args with
      | [a]=>if zai a then none else none
      | _=>none)
    else if x == ("zip" : Str) && S.bl x then (match args,tg with
      | [a,b],.Tuple _ _ _=>if zai a && zai b then (f S a).bind fun g=>(f S b).bind fun g'=>some (gZip g g') else none
      | _,_=>none)
    else (f S e).bind fun g=>some (zbw g)
  | _=>(f S e).bind fun g=>some (zbw g)
theorem zlu {X:Cx}{S:Sx}{d:Nat}{f:Sx->Expr->Option GE} (Hf:zdl f) (C:CxOk X S d) {tg e:Expr}{g:GL} (h:zow f S tg e=some g):PI X tg e (tI X.K g)/\∀x,foldedSetIterable e X.env x=pure x:=by
 unfold zow at h;split at h
 ·exact noSome h
 ·rename_i hs;rw [Bool.not_eq_true,Bool.not_eq_false'] at hs;refine ⟨?_,zo3 hs⟩;split at h
  ·rename_i x px args pc;split at h
   ·rename_i z;rw [Bool.and_eq_true] at z;have e':=eq_of_beq z.1;subst e';obtain ⟨gl,mg⟩:=zkf C z.2;split at h
    ·rename_i a;split at h
     ·rename_i y;obtain ⟨as,has,h⟩:=bS h;obtain rfl:=sI h;obtain ⟨pa,_⟩:=zgu (fun e a ha=>zaj Hf C ha) has;exact (zpr gl mg pa (zaf y)).wk fun _ _ _=>zof
     ·exact noSome h
    ·rename_i a b;split at h
     ·rename_i y;rw [Bool.and_eq_true] at y;obtain ⟨as,has,h⟩:=bS h;obtain rfl:=sI h;obtain ⟨pa,_⟩:=zgu (fun e a ha=>zaj Hf C ha) has;exact (zoq gl mg pa (by rw [zaf y.1,zaf y.2];rfl) (zaf y.2)).wk fun _ _ _=>zn7
     ·exact noSome h
    ·exact noSome h
   ·split at h
    ·rename_i z;rw [Bool.and_eq_true] at z;have e':=eq_of_beq z.1;subst e';obtain ⟨gl,mg⟩:=zkf C z.2;split at h
     ·rename_i a es k1 p1;split at h
      ·rename_i y;obtain ⟨ge,hg,h⟩:=bS h;obtain rfl:=sI h;exact (ztg gl mg (pac (Hf X S d C _ _ hg) zdv y) (zaf y)).wk fun _ _ _=>zq1
      ·exact noSome h
     ·exact noSome h
    ·split at h
     ·rename_i z;rw [Bool.and_eq_true] at z;have e':=eq_of_beq z.1;subst e';obtain ⟨gl,mg⟩:=zkf C z.2;split at h
      ·rename_i a;split at h
       ·rename_i y;exact noSome h
       ·exact noSome h
      ·exact noSome h
     ·split at h
      ·rename_i z;rw [Bool.and_eq_true] at z;have e':=eq_of_beq z.1;subst e';obtain ⟨gl,mg⟩:=zkf C z.2;split at h
       ·rename_i a b es k1 p1;split at h
        ·rename_i y;rw [Bool.and_eq_true] at y;refine aG fun _ qG=>?_;obtain ⟨ge,hg,h⟩:=bS h;obtain ⟨ge',hg',h⟩:=bS h;refine qG ?_;clear qG;obtain rfl:=sI h;exact (z04 gl mg (pac (Hf X S d C _ _ hg) (pac (Hf X S d C _ _ hg') zdv y.2) y.1) (by rw [zaf y.1,zaf y.2];rfl) (zaf y.2)).wk fun _ _ _=>zuj
        ·exact noSome h
       ·exact noSome h
      ·obtain ⟨ge, hg, h⟩ := bS h;obtain rfl:=sI h;exact (zve (Hf X S d C _ _ hg)).wk fun _ _ _=>zic
  ·obtain ⟨ge, hg, h⟩ := bS h;obtain rfl:=sI h;exact (zve (Hf X S d C _ _ hg)).wk fun _ _ _=>zic
noncomputable def ze8 (S:Sx):List Expr->Option (List Nat)
 | []=>some []
 | .Name x _::es=>(S.wr x).bind fun i=>(ze8 S es).bind fun is=>some (i::is)
 | _=>none
noncomputable def tgE (S:Sx):Expr->Option Tg
 | .Name x _=>(S.wr x).bind fun i=>some (.nm i)
 | .Tuple es _ _=>(ze8 S es).bind fun is=>some (.tp is)
 | _=>none
section
variable {X:Cx}{S:Sx}{d:Nat}
theorem zgf (C:CxOk X S d):∀(es:List Expr) {is:List Nat},ze8 S es=some is->PGs X es (zma is)/\(assignEach es X.env).length=is.length/\(assignEach es X.env).findIdx? (·.1)=none:=by
  intro es
  induction es with
  | nil=>intro is h;obtain rfl:=sI h;exact ⟨zx9,rfl,rfl⟩
  | cons e es ih =>
    intro is h;obtain ⟨x,p,rfl⟩ : ∃x p,e=.Name x p:=by
      cases e with
      | Name x p=>exact ⟨x,p,rfl⟩
      | _=>exact noSome h
    refine aG fun _ qG=>?_;obtain ⟨i,hi,h⟩:=bS (show (S.wr x).bind _=_ from h);obtain ⟨is,his,h⟩:=bS h;refine qG ?_;clear qG;obtain rfl:=sI h;refine aG fun _ qG=>?_;obtain ⟨a,b,c⟩:=ih his;obtain ⟨w1,w2,w3⟩:=zr0 C hi;refine qG ?_;clear qG;refine ⟨zvc (zrn (ndN C) w1 w2 w3) a rfl,congrArg (· + 1) b,?_⟩;show List.findIdx? (·.1) ((false,assign (.Name x p) X.env)::assignEach es X.env)=none;rw [List.findIdx?_cons,c]
    rfl
theorem zvw (C:CxOk X S d) {e:Expr}{T:Tg} (h:tgE S e=some T):PG X e (TGof X.K T):=by
 unfold tgE at h;split at h
 ·obtain ⟨i, hi, h⟩ := bS h;obtain rfl:=sI h;obtain ⟨w1,w2,w3⟩:=zr0 C hi;exact zrn (ndN C) w1 w2 w3
 ·obtain ⟨is, his, h⟩ := bS h;obtain rfl:=sI h;obtain ⟨a,b,c⟩:=zgf C _ his;exact zpe C.calm a b c
 ·exact noSome h
end
end L2
namespace L2
open PySem PySem.Spec PyProof.Rows
section
variable {X:Cx}{S:Sx}{d:Nat}
variable {pins:List (Addr × Obj)}{σ:St}{H F:Hp}{s:Shared}{pr:Prt}{en:En}
end
end L2
namespace L2
open PySem PySem.Spec PyProof.Rows
section
variable {prog:Program}{w:World}{A:Around}{E:Value->Shared->Prop}{s:Shared}
variable {I:Addr}{fp wr:List Addr}{n:Nat}{P:Nat->Value->Prop}{St:Nat->Heap->Prop}{R:Result->Shared->Prop}
end
section
variable {X:Cx}{S:Sx}{d:Nat}
end
end L2
namespace L2
open PySem PySem.Spec PyProof.Rows
noncomputable def lrOk (j:Int):Bool:=zcu j && decide (j<=16777216)
section
variable {X:Cx}
end
end L2
namespace L2
open PySem PySem.Spec PyProof.Rows
section
variable {X:Cx}{S:Sx}{d:Nat}
end
end L2
namespace L2
open PySem PySem.Spec PyProof.Rows
section
variable {K:PySem.W.Frag}{σ:St}{H:Hp}
theorem Reps.eraseIdx {K:PySem.W.Frag}{F:Hp}:∀{xs:List W}{us:List V} (i:Nat),Reps K F xs us->Reps K F (xs.eraseIdx i) (us.eraseIdx i)
 | _,_,_,.nil=>.nil
 | _,_,0,.cons _ r=>r
 | _,_,i+1,.cons q r=>.cons q (Reps.eraseIdx i r)
noncomputable def zlb (i:Nat) (g:GE):GE:=fun en=>match en[i]? with
  | some (some (.lst _,true))=>(g en).bind fun p=>(intW p.2.1).bind fun k=>match p.1[i]? with
    | some (some (.lst ws,true))=>if 0<=k/\ws.length < sizeLine then (ws[k.toNat]?).bind fun w=>some (p.1.set i (some (.lst (ws.eraseIdx k.toNat),true)),(w,false)) else none
    | _=>none
  | _=>none
theorem zsq {i:Nat}{g:GE}{Q:VK} (h:tE K (zlb i g) σ H Q):tBM K "list" zv1 (tVar i) (zcr (tE K g) tNil) σ H Q:=by
 refine aG fun _ qG=>?_;obtain ⟨F,pr,en,en',r,R,h,q⟩:=h;refine qG ?_;clear qG;unfold zlb at h;split at h
 ·rename_i w0 hx0;refine aG fun _ qG=>?_;obtain ⟨a,vs,ws0,q1,q2,q3,q4,q5⟩:=R.ownL hx0;obtain ⟨⟨e1,w1,f1⟩,h1,ha⟩:=bS h;obtain ⟨k,hk,hc⟩:=bS ha;refine qG ?_;clear qG;clear ha h;refine ⟨.ref a,q2,.inl ⟨rfl,vs,SqL.of' q3⟩,F,pr,en,e1,(w1,f1),R,h1,fun F1 H1 v1 s1 R1 y1=>?_⟩;split at hc
  ·rename_i ws hx1;have ew:w1=.int k:=by
    cases w1 with
    | int j=>obtain rfl:=sI hk;rfl
    | _=>exact noSome hk
   subst ew;have ek:=y1.isInt;subst ek;by_cases hz:0<=k/\ws.length < sizeLine
   ·rw [if_pos hz] at hc;obtain ⟨w,hw,hc⟩:=bS hc;cases hc;refine aG fun _ qG=>?_;obtain ⟨a',vs',ws',p1,p2,p3,p4,p5⟩:=R1.ownL hx1;refine qG ?_;clear qG;cases p1;rw [q2] at p2;cases p2;obtain ⟨v,hv,rv⟩:=p5.get hw;have hl:k.toNat < ws.length:=(List.getElem?_eq_some_iff.mp hw).1;refine ⟨a,vs',k,k.toNat,v,rfl,rfl,p3,Int.le_trans (by decide) hz.1,?_,?_,hv,?_⟩
    ·have line : sizeLine = 16777216 := sizeLine_eq;omega
    ·have ix:ixN vs'.length k=some k.toNat:=by
      unfold ixN;rw [if_pos hz.1,if_pos (by rw [<-p5.length];omega)]
     exact (zkt ix).1
    ·exact q F1 _ _ s1 (R1.change hx1 q2 (p5.eraseIdx _)) rv
   ·rw [if_neg hz] at hc;exact noSome hc
  ·exact noSome hc
 ·exact noSome h
theorem z4m {i:Nat}{g:GE}{en e1:En}{us ws:List W}{k:Nat}{f:Bool}{w:W} (h0:en[i]?=some (some (.lst us,true))) (h1:g en=some (e1,(.int k,f))) (h2:e1[i]?=some (some (.lst ws,true))) (hk:ws[k]?=some w) (hz:ws.length < sizeLine):zlb i g en=some (e1.set i (some (.lst (ws.eraseIdx k),true)),(w,false)):=by
 unfold zlb;rw [h0];simp only [h1,Option.bind_some,intW,h2];rw [if_pos ⟨Int.natCast_nonneg k,hz⟩,Int.toNat_natCast,hk]
 rfl
end
noncomputable def zo1 (x:Expr->Option GE) (X:Cx):Prop:=∀e g,x e=some g->PE X e (tE X.K g)
section
variable {X:Cx}{S:Sx}{d:Nat}{fE:Sx->Expr->Option GE}
noncomputable def zps (fE:Sx->Expr->Option GE) (S:Sx):Expr->Option GE
 | .Call (.Attribute (.Name x _) name apos) [e] [] cpos=>if name == ("pop" : Str) && (apos.endLine == cpos.line) && zai e then (S.rd x).bind fun i=>(fE S e).bind fun g=>some (zlb i g) else none
 | _=>none
theorem zrw (HE:zdl fE) (C:CxOk X S d):zo1 (zps fE S) X:=fun e g h=>by
 unfold zps at h;split at h
 ·split at h
  ·rename_i z;rw [Bool.and_eq_true,Bool.and_eq_true] at z;obtain ⟨⟨z1,z2⟩,y⟩:=z;have e1:=eq_of_beq z1;subst e1;obtain ⟨i,hi,h⟩:=bS h;obtain ⟨g1,hg1,h⟩:=bS h;obtain rfl:=sI h;exact (zuo PySem.F.plainAttrs_list PySem.F.slot_list_pop PySem.F.type_list_pop zta (zji C hi) (pac (HE X S d C _ _ hg1) zdv y) (zp1 rfl) (zld y) z2 (zaf y) rfl).wk fun _ _ _=>zsq
  ·exact noSome h
 ·exact noSome h
end
end L2
namespace L2
open PySem PySem.Spec PyProof.Rows
noncomputable def keyF:W->Option Key
 | .int i=>some (.inl i)
 | .str s=>some (.inr s)
 | _=>none
noncomputable def z0w:List W->Option (List Key)
 | []=>some []
 | w::ws=>(keyF w).bind fun k=>(z0w ws).bind fun ks=>some (k::ks)
noncomputable def keyD:W->Option DKey
 | .tup ws=>(z0w ws).bind fun ks=>some (.inr ks)
 | w=>(keyF w).bind fun k=>some (.inl k)
noncomputable def KeyR (F:Hp):DKey->V->Prop
 | .inl k,v=>v=kV k
 | .inr ks,v=>∃b,v=.ref b/\F b=some (.tup (ks.map kV))
section
variable {K:PySem.W.Frag}{F H:Hp}
noncomputable def valW (kvs:List (DKey × W)) (k:DKey):Option W:=(kvs.find? fun kv=>decide (kv.1=k)).map (·.2)
theorem ze7 (p:DKey × W) (r:List (DKey × W)) (k:DKey):valW (p::r) k=if p.1=k then some p.2 else valW r k:=by
 unfold valW;rw [List.find?_cons];by_cases h:p.1=k
 ·rw [decide_eq_true h,if_pos h];rfl
 ·rw [decide_eq_false h,if_neg h]
theorem zp0 {κ:Type} [DecidableEq κ] (p:κ × V) (r:List (κ × V)) (k:κ):valV (p::r) k=if p.1=k then some p.2 else valV r k:=by
 by_cases h:p.1=k
 ·rw [zuy h,if_pos h]
 ·rw [zsx h,if_neg h]
theorem zhh {κ:Type} [DecidableEq κ] {f:κ->DKey} (hf:∀a b,f a=f b->a=b):∀{ks:List κ}{ws:List W}{vs:List V}{k:κ}{w:W},ks.length=vs.length->Reps K F ws vs->valW ((ks.map f).zip ws) (f k)=some w->∃v,valV (ks.zip vs) k=some v/\Rep K F w v
  | [],_,_,_,_,_,_,e=>by simp [valW] at e
  | _::_,_,_,_,_,_,.nil,e=>by simp [valW] at e
  | k' :: ks,w' :: ws,v' :: vs,k,w,hl,.cons h r,e=>by
    rw [List.map_cons,List.zip_cons_cons,ze7] at e;rw [List.zip_cons_cons,zp0];by_cases z:k'=k
    · subst z
      rw [if_pos rfl] at e ⊢;obtain rfl:=sI e;exact ⟨_,rfl,h⟩
    · rw [if_neg fun q => z (hf _ _ q)] at e
      rw [if_neg z];exact zhh hf (Nat.succ.inj hl) r e
theorem ze5 {κ:Type}{f:κ->DKey}{k:DKey} (hk:∀a,f a≠k):∀{ks:List κ}{ws:List W},valW ((ks.map f).zip ws) k=none
  | [],_=>rfl
  | _::_,[]=>rfl
  | k' :: ks,w' :: ws=>by
    rw [List.map_cons,List.zip_cons_cons,ze7,if_neg (hk k')];exact ze5 hk
noncomputable def znh {κ:Type} [DecidableEq κ] (ks:List κ) (k:κ):List κ:=if k∈ks then ks else ks++[k]
noncomputable def zm4 {κ α:Type} [DecidableEq κ] (ks:List κ) (vs:List α) (k:κ) (v:α):List α:=if k∈ks then List.zipWith (fun k' v'=>if k'=k then v else v') ks vs else vs++[v]
noncomputable def DctR (K:PySem.W.Frag) (F H:Hp) (a:Addr) (ks:List DKey) (ws:List W):Prop :=
 (∃(js:List Key) (vs:List V),ks=js.map .inl/\H a=some (.dK (js.zip vs))/\js.length=vs.length/\Reps K F ws vs) \/
 ∃(js:List (List Key)) (vs:List V),ks=js.map .inr/\H a=some (.dT (js.zip vs))/\js.length=vs.length/\Reps K F ws vs
theorem OwnR.dct' {ks:List DKey}{ws:List W}{o:HO}{a:Addr} (h:OwnR K F (.dct ks ws) o) (e:H a=some o):DctR K F H a ks ws:=by
 generalize hw:W.dct ks ws=w at h;cases h with
 | lst r=>cases hw
 | dct hl r=>cases hw;exact .inl ⟨_,_,rfl,e,hl,r⟩
 | dctT hl r=>cases hw;exact .inr ⟨_,_,rfl,e,hl,r⟩
theorem RepB.dct {ks:List DKey}{ws:List W}{v:V} (s:Same F H) (r:RepB K F H (.dct ks ws) v):∃a,v=.ref a/\DctR K F H a ks ws:=by
 rcases r with r | ⟨a,o,w',e,rfl,h,q⟩
 ·generalize hw : W.dct ks ws = w at r;cases r with
  | dct h hl r=>cases hw;exact ⟨_,rfl,.inl ⟨_,_,rfl,s _ _ h,hl,r⟩⟩
  | dctT h hl r=>cases hw;exact ⟨_,rfl,.inr ⟨_,_,rfl,s _ _ h,hl,r⟩⟩
  | _=>cases hw
 ·subst e;exact ⟨a,rfl,q.dct' h⟩
theorem zq8 (a b:Key) (h:(Sum.inl a:DKey)=.inl b):a=b:=Sum.inl.inj h
theorem zxu (a b:List Key) (h:(Sum.inr a:DKey)=.inr b):a=b:=Sum.inr.inj h
theorem DctR.get {a:Addr}{ks:List DKey}{ws:List W}{d:DKey}{y:V}{w:W} (s:Same F H) (h:DctR K F H a ks ws) (hk:KeyR F d y) (e:valW (ks.zip ws) d=some w):∃v,DGet H a y (some v)/\Rep K F w v:=by
  rcases h with ⟨js,vs,rfl,h,hl,r⟩ | ⟨js,vs,rfl,h,hl,r⟩
  · cases d with
    | inl k =>
      obtain ⟨v,h1,h2⟩:=zhh zq8 hl r e;exact ⟨v,.inl ⟨_,k,.inl h,hk,h1.symm⟩,h2⟩
    | inr k=>rw [ze5 (f:=Sum.inl) (fun a z=>by cases z)] at e;exact nomatch e
  · cases d with
    | inl k=>rw [ze5 (f:=Sum.inr) (fun a z=>by cases z)] at e;exact nomatch e
    | inr k =>
      obtain ⟨v,h1,h2⟩:=zhh zxu hl r e;obtain ⟨b,hb,fb⟩:=hk;exact ⟨v,.inr ⟨_,k,b,.inl h,hb,s _ _ fb,h1.symm⟩,h2⟩
noncomputable def zjn (d:DKey) (ks:List DKey):Bool:=ks.all fun k=>k.isLeft == d.isLeft
end
section
variable {X:Cx}{pins:List (Addr × Obj)}{σ:St}{H:Hp}{s:Shared}{a:Addr}
end
noncomputable def oIxD:O2:=fun a k=>match a with
 | .dct ks ws=>(keyD k).bind fun d=>(valW (ks.zip ws) d).bind fun w=>some (w,false)
 | a=>oIx a k
section
variable {K:PySem.W.Frag}{F H:Hp}{pr:Prt}{en:En}{σ:St}
end
noncomputable def zth (i:Nat) (g g' : GE):GE:=fun en=>match en[i]? with
  | some (some (.dct _ _,_))=>(g en).bind fun p=>(g' p.1).bind fun q=>(keyD p.2.1).bind fun d=>match q.1[i]? with
    | some (some (.dct ks ws,_))=>(match valW (ks.zip ws) d with
      | some w=>some (q.1,(w,false))
      | none=>if zjn d ks then some (q.1,q.2) else none)
    | _=>none
  | _=>none
theorem KeyR.mono {F F' : Hp}{d:DKey}{v:V} (s:Same F F') (h:KeyR F d v):KeyR F' d v:=by
 cases d with
 | inl k=>exact h
 | inr k=>obtain ⟨b,h1,h2⟩:=h;exact ⟨b,h1,s _ _ h2⟩
theorem PSet.or {X:Cx}{t t' : TSet} (h:PSet X t) (h' : PSet X t'):PSet X fun o i v H Q=>t o i v H Q\/t' o i v H Q:=by
 intro pins s σ H o i v ov iv u Q I ro ri rv q;rcases q with q | q
 ·exact h pins s σ H o i v ov iv u Q I ro ri rv q
 ·exact h' pins s σ H o i v ov iv u Q I ro ri rv q
noncomputable def z0m (i:Nat) (k:GE) (g:GE):GS:=fun en=>(g en).bind fun p=>match p.1[i]? with
  | some (some _)=>(k p.1).bind fun q=>match q.1[i]? with
    | some (some (.lst ws,true))=>(intW q.2.1).bind fun n=>(ixN ws.length n).bind fun j=>some (q.1.set i (some (.lst (ws.set j p.2.1),true)),.nx)
    | some (some (.dct ks ws,true))=>(keyD q.2.1).bind fun d=>if zjn d ks && decide (ks.length < sizeLine) then some (q.1.set i (some (.dct (znh ks d) (zm4 ks ws d p.2.1),true)),.nx) else none
    | _=>none
  | _=>none
section
variable {X:Cx}
end
noncomputable def keyV:DKey->Option W
 | .inl (.inl i)=>some (.int i)
 | .inl (.inr s)=>some (.str s)
 | .inr _=>none
noncomputable def znc:List DKey->Option (List W)
 | []=>some []
 | k::ks=>(keyV k).bind fun w=>(znc ks).bind fun ws=>some (w::ws)
theorem zyc {as bs:List Key} (h:as.map (Sum.inl:Key->DKey)=bs.map .inl):as=bs:=List.map_inj_right (fun a b=>zq8 a b) |>.mp h
theorem DctR.dK {K:PySem.W.Frag}{F H:Hp}{a:Addr}{js:List Key}{ws:List W} (hj:js≠[]) (D:DctR K F H a (js.map .inl) ws):∃vs,H a=some (.dK (js.zip vs))/\js.length=vs.length:=by
  rcases D with ⟨js',vs,e,h,hl,_⟩ | ⟨js',vs,e,h,hl,_⟩
  · obtain rfl:=zyc e;exact ⟨vs,h,hl⟩
  · cases js with
    | nil=>exact absurd rfl hj
    | cons j js=>cases js' with
      | nil=>exact nomatch e
      | cons j' js'=>rw [List.map_cons,List.map_cons] at e;exact nomatch (List.cons.inj e).1
section
variable {X:Cx}
end
noncomputable def zvr:ON
 | [.dct ks _]=>(znc ks).bind fun ws=>(zbi ws).bind fun ns=>if ks.isEmpty then none else some (.lst ((zqi ns).map W.int),true)
 | ws=>zyz ws
section
variable {X:Cx}{S:Sx}{d:Nat}{fE:Sx->Expr->Option GE}
end
end L2
namespace L2
open PySem PySem.Spec PyProof.Rows
section
open PySem.AutoSeq1 (wpAny_loadPart')
end
section
variable {X:Cx}{S:Sx}{d:Nat}{fE:Sx->Expr->Option GE}
end
section
open PySem.AutoSeq1 (wpAny_loadPart')
variable {prog:Program}{w:World}{A:Around}{E:Value->Shared->Prop}{s:Shared}
end
noncomputable def zxw (as:GAs):GE:=fun en=>(as en).bind fun p=>match zas p.1 p.2 with
 | some [.int j]=>if lrOk j then some (p.1,(.tup (rngW 0 j.toNat),false)) else none
 | _=>none
theorem zyk {as:GAs}{en e1:En}{xs:List (W ⊕ Nat)}{j:Int} (h:as en=some (e1,xs)) (r:zas e1 xs=some [.int j]) (q:lrOk j=true):zxw as en=some (e1,(.tup (rngW 0 j.toNat),false)):=by
 unfold zxw;rw [h];show (match zas e1 xs with
  | some [.int j]=>if lrOk j then some (e1,(W.tup (rngW 0 j.toNat),false)) else none
  | _=>none)=_
 rw [r];show (if lrOk j then some (e1,(W.tup (rngW 0 j.toNat),false)) else none)=_;rw [q];rfl
section
variable {X:Cx}{S:Sx}{d:Nat}{fE:Sx->Expr->Option GE}
end
section
variable {prog:Program}{w:World}{A:Around}{E:Value->Shared->Prop}{s:Shared}
open HT in
end
section
variable {X:Cx}{S:Sx}{d:Nat}{fE:Sx->Expr->Option GE}
noncomputable def z0z (w:W):Option (W × Bool):=match w with
 | .lst ws=>some (.lst ws.reverse,true)
 | .tup ws=>some (.tup ws.reverse,false)
 | _=>none
noncomputable def zw6 (a:GA) (k:GO):GE:=fun en=>(a en).bind fun p=>(k p.1).bind fun l=>if l.2=some (-1) then (resA l.1 p.2).bind fun w=>(z0z w).bind fun r=>some (l.1,r) else none
theorem zx6 {a:GA}{k:GO}{en e1 e2:En}{x:W ⊕ Nat}{w:W}{r:W × Bool} (h1:a en=some (e1,x)) (h2:k e1=some (e2,some (-1))) (h3:resA e2 x=some w) (h4:z0z w=some r):zw6 a k en=some (e2,r):=by
 simp only [zw6,h1,h2,h3,h4,Option.bind,if_true]
noncomputable def orX (a b:Option GE):Option GE:=match a with
 | some g=>some g
 | none=>b
theorem z2s {x y:Expr->Option GE} (hx:zo1 x X) (hy:zo1 y X):zo1 (fun e=>orX (x e) (y e)) X:=fun e g h=>by
 have h:orX (x e) (y e)=some g:=h;unfold orX at h;split at h
 ·rename_i g' q;obtain rfl:=sI h;exact hx e g' q
 ·exact hy e g h
noncomputable def extE (fE:Sx->Expr->Option GE) (S:Sx) (e:Expr):Option GE:=zps fE S e
theorem zza (HE:zdl fE) (C:CxOk X S d):zo1 (extE fE S) X:=zrw HE C
end
end L2
namespace L2
open PySem PySem.Spec PyProof.Rows
noncomputable def ncOf (scope:Scope):List Str:=(scope.names.filter fun p=>p.2 == .free || p.2 == .local || p.2 == .cell).map (·.1)
noncomputable def capC (S:Sx) (scope:Scope):Cap:=(ncOf scope).map fun x=>if scope.names.lookup x == some .free then S.N.findIdx? (· == x) else none
noncomputable def inS (S:Sx) (scope:Scope):Sx:={ N:=ncOf scope,kd:=scope.names,bn:=S.bn,fs:=S.fs,mp:=capKeep (capC S scope),top:=false }
noncomputable def zkk (S:Sx) (scope:Scope):Bool:=decide (scope.kind=.function) && zfv (capC S scope) (ncOf scope) S.N scope && (scope.names.all fun p=>!(p.2 == .free) || S.kd.lookup p.1 == some .cell || S.kd.lookup p.1 == some .free) &&
 zed scope && (scope.names.all fun p=>!(p.2 == NameKind.local) || decide (scope.names.lookup p.1=some .local)) && decide (ncOf scope).Nodup
noncomputable def zv7 (fT:Sx->Expr->Option GT) (S:Sx):List Expr->Option GT
 | []=>some gYes
 | [c]=>fT S c
 | _=>none
noncomputable def zp9 (fE:Sx->Expr->Option GE) (fT:Sx->Expr->Option GT) (S:Sx) (elt:Expr) (gens:List Comprehension) (scope:Scope):Option GE:=match gens with
 | [c]=>if zkk S scope && decide (c.is_async=0) then (zow fE S c.target c.iter).bind fun gi=>(tgE (inS S scope) c.target).bind fun T=>(zv7 fT (inS S scope) c.ifs).bind fun tc=>(fE (inS S scope) elt).bind fun te=>some (zcq (capC S scope) T gi tc te) else none
 | _=>none
structure ScOk (X:Cx) (S:Sx) (scope:Scope):Prop where
 kind:scope.kind=.function
 cap:zfv (capC S scope) (ncOf scope) X.N scope=true
 fr:ze6 scope X.env.scope=true
 nc:zed scope=true
 nm:(scope.names.all fun p=>!(p.2 == NameKind.local) || decide (scope.names.lookup p.1=some .local))=true
 nd:(ncOf scope).Nodup
section
variable {X:Cx}{S:Sx}{d:Nat}
theorem zub (C:CxOk X S d) {scope:Scope} (h:zkk S scope=true):ScOk X S scope:=by
 unfold zkk at h;simp only [Bool.and_eq_true] at h;obtain ⟨⟨⟨⟨⟨h1,h2⟩,h3⟩,h4⟩,h5⟩,h6⟩:=h;refine ⟨of_decide_eq_true h1,by rw [C.N];exact h2,?_,h4,h5,of_decide_eq_true h6⟩;unfold ze6;refine List.all_eq_true.mpr fun p hp=>?_;have q:=List.all_eq_true.mp h3 p hp;simp only [Bool.or_eq_true,Bool.not_eq_true',beq_eq_false_iff_ne,beq_iff_eq,decide_eq_true_eq] at q ⊢;rcases q with (q | q) | q
 ·exact .inl (.inl q)
 ·rcases C.vis p.1 (.inl q) with z | z
  ·exact .inl (.inr z)
  ·exact .inr z
 ·rcases C.vis p.1 (.inr q) with z | z
  ·exact .inl (.inr z)
  ·exact .inr z
theorem zxe (C:CxOk X S d) {scope:Scope} (h:ScOk X S scope) (cl:List (Str × Addr)) (L:Addr) (s3:Shared) (H3:Hp) (fp:List Addr):CxOk (za9 X (ncOf scope) scope cl L s3 H3 fp) (inS S scope) d where
 N:=rfl
 nd:=h.nd
 loc:=fun x e=>za5 (env:=X.env) (by decide) e
 cel:=fun x e=>⟨za5 (env:=X.env) (by decide) e,decide_eq_true e⟩
 vis:=fun x e=>by
  rcases e with e | e
  ·exact .inl (za5 (env:=X.env) (by decide) e)
  ·exact zax (env:=X.env) e
 gl:=fun x e=>za5 (env:=X.env) (by decide) e
 calm:=C.calm
 xe:=rfl
 bn:=C.bn
 fs:=C.fs
 room:=C.room
 sl:=C.sl
 lam:=fun h=>absurd (show ("" : Str)∈lams from h) (by decide +kernel)
 dpo:=Nat.zero_le _
 bk:=by
  show (if scope.kind.isAnnotationScope then ScopeKind.function else scope.kind)=.function;rw [h.kind];rfl
end
theorem zsk {K:PySem.W.Frag}{σ:St}{H:Hp}{Q:Bool->Hp->Prop} (h:tT K gYes σ H Q):zvy σ H Q:=by
 obtain ⟨F,pr,en,en',b,R,h,q⟩:=h;cases h;exact q F H (.refl F) R
structure CompP (X:Cx) (S:Sx) (elt:Expr) (gens:List Comprehension) (scope:Scope) (g:GE):Prop where
 ex:∃tg iter ifs gs gi T tc,∃(em:Pos->Value->Env->Sem Unit) (tm:Addr->TM),gens=⟨tg,iter,ifs,0⟩ :: gs/\(∀pos it acc env,compTurn (.ListComp elt gens scope pos) 0 it acc env=zm1 (.ListComp elt gens scope pos) 0 tg iter ifs (em pos acc env) it acc env)/\ScOk X S scope/\PI X tg iter (tI X.K gi)/\(∀x,foldedSetIterable iter X.env x=pure x) /\
  (∀cl C s3 H3 fp,PG (za9 X (ncOf scope) scope cl C s3 H3 fp) tg (TGof X.K T))/\(∀cl C s3 H3 fp,PTs (za9 X (ncOf scope) scope cl C s3 H3 fp) ifs (tT X.K tc))/\(∀pos cl C s3 H3 fp acc,PM (za9 X (ncOf scope) scope cl C s3 H3 fp) (em pos (.ref acc) (za9 X (ncOf scope) scope cl C s3 H3 fp).env) (tm acc)) /\
  ∀σ H Q,tE X.K g σ H Q->zq3 (tI X.K gi) (capC S scope) (TGof X.K T) (tT X.K tc) tm σ H Q
section
variable {X:Cx}{S:Sx}{d:Nat}{fE:Sx->Expr->Option GE}{fT:Sx->Expr->Option GT}
theorem PTs.wk {ifs:List Expr}{t t' : TT} (h:PTs X ifs t) (i:∀σ H Q,t' σ H Q->t σ H Q):PTs X ifs t':=fun pins s σ H Q I q=>h pins s σ H Q I (i σ H Q q)
theorem zu4 (HT:zi3 fT) (C:CxOk X S d):∀{ifs:List Expr}{tc:GT},zv7 fT S ifs=some tc->PTs X ifs (tT X.K tc)
 | [],_,h=>by obtain rfl:=sI h;exact zwa.wk fun _ _ _=>zsk
 | [_],_,h=>zxs (HT _ _ d C _ _ h)
 | _::_::_,_,h=>noSome h
theorem ze4 (HE:zdl fE) (HT:zi3 fT) (C:CxOk X S d) {elt:Expr}{gens:List Comprehension}{scope:Scope}{g:GE} (h:zp9 fE fT S elt gens scope=some g):CompP X S elt gens scope g:=by
 unfold zp9 at h;split at h
 ·rename_i c;obtain ⟨tg,iter,ifs,as⟩:=c;split at h
  ·rename_i z;rw [Bool.and_eq_true] at z;have ha:as=0:=of_decide_eq_true z.2;subst ha;obtain ⟨gi,hi,h⟩:=bS h;obtain ⟨T,hT,h⟩:=bS h;obtain ⟨tc,htc,h⟩:=bS h;obtain ⟨te,hte,h⟩:=bS h;obtain rfl:=sI h;have so:=zub C z.1;obtain ⟨pi,pf⟩:=zlu HE C hi;exact ⟨tg,iter,ifs,[],gi,T,tc,fun _=>zwy elt,fun acc=>ztq acc (tE X.K te),rfl,fun _ _ _ _=>rfl,so,pi,pf,fun cl L s3 H3 fp=>zvw (zxe C so cl L s3 H3 fp) hT,fun cl L s3 H3 fp=>zu4 HT (zxe C so cl L s3 H3 fp) htc,fun _ cl L s3 H3 fp acc=>z0q (HE _ _ d (zxe C so cl L s3 H3 fp) _ _ hte),fun _ _ _=>zre⟩
  ·exact noSome h
 ·exact noSome h
theorem zqq (C:CxOk X S d) {elt:Expr}{gens:List Comprehension}{scope:Scope}{g:GE}{pos:Pos} (h:CompP X S elt gens scope g):PE X (.ListComp elt gens scope pos) (tE X.K g):=by
 refine aG fun _ qG=>?_;obtain ⟨tg,iter,ifs,gs,gi,T,tc,em,tm,e1,e2,so,pi,pf,pg,pt,pe,rd⟩:=h.ex;refine qG ?_;clear qG;subst e1;exact (zwp pi pg pt (pe pos) (e2 pos) C.calm so.kind so.cap so.fr so.nc so.nm pf).wk rd
noncomputable def zyy (fE:Sx->Expr->Option GE) (S:Sx):Option Expr->Option GO
 | none=>some zb8
 | some e=>(fE S e).bind fun g=>some (zew g)
noncomputable def zvd (fE:Sx->Expr->Option GE) (fT:Sx->Expr->Option GT) (S:Sx) (e:Expr):Option GE:=match e with
  | .Name x _=>(S.rd x).bind fun i=>some (gVar i)
  | .Constant c _ _=>(match c with
    | .int i=>some (gC (.int i))
    | .bool b=>some (gC (.bl b))
    | .none=>some (gC .non)
    | .str x=>some (gC (.str x))
    | _=>none)
  | .BinOp a op b _=>(zbx fE S a).bind fun x=>(zbx fE S b).bind fun y=>(binO op).bind fun o=>some (gOp2 o x y)
  | .UnaryOp op a _=>(match op with
    | .USub=>(zbx fE S a).bind fun x=>some (gOp1 oNeg x)
    | .Not=>(fE S a).bind fun g=>some (gNot g)
    | _=>none)
  | .BoolOp op vs _=>(match vs with
    | v::vs=>zyo (fE S) op v vs
    | []=>none)
  | .Compare a ops cs _=>cmpE fE S a ops cs
  | .IfExp c a b _=>(fT S c).bind fun t=>(fE S a).bind fun x=>(fE S b).bind fun y=>some (gIf t x y)
  | .Subscript a s _=>(match s with
    | .Slice lo hi st _=>(match st with
      | none=>(zbx fE S a).bind fun x=>(zyy fE S lo).bind fun l=>(zyy fE S hi).bind fun h=>some (gSl x l h)
      | some _=>none)
    | s=>if zdj s then (zbx fE S a).bind fun x=>(zbx fE S s).bind fun y=>some (gOp2 oIx x y) else none)
  | .List es _=>(asL (fun e=>(fE S e).bind fun g=>some (gArg g)) es).bind fun as=>some (zcl as)
  | .Tuple es _ _=>(asL (fun e=>(fE S e).bind fun g=>some (gArg g)) es).bind fun as=>some (zba as)
  | .Call fu args kws pos=>(match kws with
    | []=>(match fu with
      | .Name x _=>zw7 fE S x args
      | .Attribute o m ap=>zxo fE S o m ap args pos
      | _=>none)
    | _=>none)
  | .ListComp elt gens scope _=>zp9 fE fT S elt gens scope
  | _=>none
noncomputable def zwu (fE:Sx->Expr->Option GE) (fT:Sx->Expr->Option GT) (S:Sx) (e:Expr):Option GT:=match e with
  | .BoolOp op vs _=>(match vs with
    | v::vs=>zyi (fT S) op v vs
    | []=>none)
  | .Compare a ops cs _=>(cmpE fE S a ops cs).bind fun g=>some (zal g)
  | .UnaryOp op a p=>(match op with
    | .Not=>(fT S a).bind fun g=>some (zec g)
    | op=>if zme (.UnaryOp op a p) then (fE S (.UnaryOp op a p)).bind fun g=>some (zal g) else none)
  | e=>if zme e then (fE S e).bind fun g=>some (zal g) else none
theorem zmp (HE:zdl fE) (C:CxOk X S d) {o:Option Expr}{g:GO} (h:zyy fE S o=some g):PO X o (tO X.K g):=by
  cases o with
  | none=>obtain rfl:=sI h;exact fun pins s σ H Q I q=>zw3 pins s σ H Q I (zkl q)
  | some e =>
    obtain ⟨ge,hg,h⟩:=bS h;obtain rfl:=sI h;exact fun pins s σ H Q I q=>zzh (HE X S d C _ _ hg) pins s σ H Q I (zra q)
theorem zvb (HE:zdl fE) (HT:zi3 fT):zdl (zvd fE fT):=fun X S d C e g h=>by
  have HA:∀e a,((fE S e).bind fun g=>some (gArg g))=some a->PE X e (tA X.K a):=fun e a h=>by
    obtain ⟨ge,hg,h⟩:=bS h;obtain rfl:=sI h;exact (HE X S d C _ _ hg).wk fun _ _ _=>zhj
  cases e with
  | Name x p =>
    obtain ⟨i,hi,h⟩:=bS (show (S.rd x).bind _=_ from h);obtain rfl:=sI h;exact (zji C hi).wk fun _ _ _=>ztb
  | Constant c k p =>
    cases c with
    | int i=>obtain rfl:=sI h;exact z13.wk fun _ _ _=>zdk fun _=>.int i
    | bool b=>obtain rfl:=sI h;exact z42.wk fun _ _ _=>zdk fun _=>.bl b
    | none=>obtain rfl:=sI h;exact z2f.wk fun _ _ _=>zdk fun _=>.non
    | str x=>obtain rfl:=sI h;exact z1d.wk fun _ _ _=>zdk fun _=>.str x
    | _=>exact noSome h
  | BinOp a op b p =>
    obtain ⟨x,hx,h⟩:=bS (show (zbx fE S a).bind _=_ from h);obtain ⟨y,hy,h⟩:=bS h;obtain ⟨o,ho,h⟩:=bS h;obtain rfl:=sI h;obtain ⟨r,h1,h2⟩:=zyp (X:=X) ho;exact (z4d h1 (zaj HE C hx) (zaj HE C hy)).wk fun _ _ _=>zer h2
  | UnaryOp op a p =>
    cases op with
    | USub =>
      obtain ⟨x,hx,h⟩:=bS (show (zbx fE S a).bind _=_ from h);obtain rfl:=sI h;exact (z4v z2z (zaj HE C hx)).wk fun _ _ _=>zs1 zx5
    | Not =>
      obtain ⟨x,hx,h⟩:=bS (show (fE S a).bind _=_ from h);obtain rfl:=sI h;exact (z1t (HE X S d C _ _ hx)).wk fun _ _ _=>zsr
    | _=>exact noSome h
  | BoolOp op vs p =>
    cases vs with
    | nil=>exact noSome h
    | cons v vs=>exact zl7 (fun e g=>HE X S d C e g) h
  | Compare a ops cs p=>exact (zrf HE C h).1
  | IfExp c a b p =>
    obtain ⟨t,ht,h⟩:=bS (show (fT S c).bind _=_ from h);obtain ⟨x,hx,h⟩:=bS h;obtain ⟨y,hy,h⟩:=bS h;obtain rfl:=sI h;exact (zup (HT X S d C _ _ ht) (HE X S d C _ _ hx) (HE X S d C _ _ hy)).wk fun _ _ _=>zyv
  | Subscript a s p =>
    have ix:∀s,(if zdj s then (zbx fE S a).bind fun x=>(zbx fE S s).bind fun y=>some (gOp2 oIx x y) else none)=some g->PE X (.Subscript a s p) (tE X.K g):=fun s h=>by
      split at h
      · rename_i z
        obtain ⟨x,hx,h⟩:=bS h;obtain ⟨y,hy,h⟩:=bS h;obtain rfl:=sI h;exact (z34 (zv9.or z07) (zaj HE C hx) (zaj HE C hy) (zns z)).wk fun _ _ _=>zer z2a
      · exact noSome h
    cases s with
    | Slice lo hi st p2 =>
      cases st with
      | some _=>exact noSome h
      | none =>
        obtain ⟨x,hx,h⟩:=bS (show (zbx fE S a).bind _=_ from h);obtain ⟨l,hl,h⟩:=bS h;obtain ⟨u,hu,h⟩:=bS h;obtain rfl:=sI h;exact (ztk ((zya.or z00).or zzk) (zaj HE C hx) (zmp HE C hl) (zmp HE C hu)).wk fun _ _ _=>zwn
    | _=>exact ix _ h
  | List es p =>
    obtain ⟨as,has,h⟩:=bS (show (asL _ es).bind _=_ from h);obtain rfl:=sI h;exact (z2x (zgu HA has).1).wk fun _ _ _=>zt3
  | Tuple es k p =>
    obtain ⟨as,has,h⟩:=bS (show (asL _ es).bind _=_ from h);obtain rfl:=sI h;exact (z20 (zgu HA has).1).wk fun _ _ _=>zu3
  | Call fu args kws p =>
    simp only [zvd] at h;split at h
    · cases fu with
      | Name x p2=>exact zu6 HE C h
      | Attribute o m ap=>exact zr7 HE C h
      | _=>exact noSome h
    · exact noSome h
  | ListComp elt gens scope p=>exact zqq C (ze4 HE HT C h)
  | _=>exact noSome h
theorem zsz (HE:zdl fE) (HT:zi3 fT):zi3 (zwu fE fT):=fun X S d C e g h=>by
  have plain:∀e,(if zme e then (fE S e).bind fun g=>some (zal g) else none)=some g->PT X e (tT X.K g):=fun e h=>by
    split at h
    · rename_i z
      obtain ⟨x,hx,h⟩:=bS h;obtain rfl:=sI h;exact (z2w (HE X S d C _ _ hx) (zmy z)).wk fun _ _ _=>ze3 fun _ _ _ q=>q
    · exact noSome h
  cases e with
  | BoolOp op vs p =>
    cases vs with
    | nil=>exact noSome h
    | cons v vs=>exact (zh2 (fun e g=>HT X S d C e g) h).pt
  | Compare a ops cs p =>
    obtain ⟨x,hx,h⟩:=bS (show (cmpE fE S a ops cs).bind _=_ from h);obtain rfl:=sI h;exact (zrf HE C hx).2
  | UnaryOp op a p =>
    cases op with
    | Not =>
      obtain ⟨x,hx,h⟩:=bS (show (fT S a).bind _=_ from h);obtain rfl:=sI h;exact (z2h (HT X S d C _ _ hx)).wk fun _ _ _=>zrm
    | _=>exact plain _ h
  | _=>exact plain _ h
end
noncomputable def zwd:GE:=fun _=>none
noncomputable def zq4:GT:=fun _=>none
mutual
noncomputable def compE:Nat->Sx->Expr->Option GE
 | 0,_,_=>some zwd
 | n+1,S,e=>some ((orX (extE (compE n) S e) (zvd (compE n) (compT n) S e)).getD zwd)
noncomputable def compT:Nat->Sx->Expr->Option GT
 | 0,_,_=>some zq4
 | n+1,S,e=>some ((zwu (compE n) (compT n) S e).getD zq4)
end
theorem zon {X:Cx}{e:Expr}:PE X e (tE X.K zwd):=fun _ _ _ _ _ _ q=>by obtain ⟨_,_,_,_,_,_,h,_⟩:=q;exact noSome h
theorem zl9 {X:Cx}{e:Expr}:PT X e (tT X.K zq4):=fun _ _ _ _ _ _ q=>by obtain ⟨_,_,_,_,_,_,h,_⟩:=q;exact noSome h
theorem zfq:∀n,zdl (compE n)/\zi3 (compT n)
  | 0=>⟨fun _ _ _ _ _ _ h=>by rw [compE] at h;obtain rfl:=sI h;exact zon,fun _ _ _ _ _ _ h=>by rw [compT] at h;obtain rfl:=sI h;exact zl9⟩
  | n+1=>by
    obtain ⟨a,b⟩:=zfq n;refine ⟨fun X S d C e g h=>?_,fun X S d C e g h=>?_⟩
    · rw [compE] at h
      cases q:orX (extE (compE n) S e) (zvd (compE n) (compT n) S e) with
      | none=>rw [q] at h;obtain rfl:=sI h;exact zon
      | some g'=>rw [q] at h;obtain rfl:=sI h;exact z2s (zza a C) (zvb a b X S d C) e _ q
    · rw [compT] at h
      cases q:zwu (compE n) (compT n) S e with
      | none=>rw [q] at h;obtain rfl:=sI h;exact zl9
      | some g'=>rw [q] at h;obtain rfl:=sI h;exact zsz a b X S d C e _ q
end L2
namespace L2
open PySem PySem.Spec PyProof.Rows
section
variable {X:Cx}{pos:Pos}
end
section
variable {K:PySem.W.Frag}{mp:List Nat}{D:Ends}{σ:St}{H:Hp}
end
section
variable {X:Cx}{S:Sx}{d:Nat}{fE:Sx->Expr->Option GE}
end
section
variable {X:Cx}{S:Sx}{d:Nat}{fE:Sx->Expr->Option GE}
theorem z2t {o k e:Expr}{p:Pos}{env:Env}:swappedStores [.Subscript o k p] e env=pure none:=by
 cases e<;>rfl
theorem zuv {o k e:Expr}{p:Pos}{l:Nat}{env:Env}:swapsWithSole [.Subscript o k p] e l env=pure false:=by
 cases e<;>rfl
theorem zn1 {o k:Expr}{p:Pos}{env:Env} (h:zdj k=true):∀v,assign (.Subscript o k p) env v=(do
   let ov <- holding [v] (eval o env)
   let iv <- holding [v,ov] (eval k env)
   standAt p
   holding [v,ov,iv] (setItem ov iv v)
   release [v,ov,iv] []):=by
 intro v;cases k<;>first | rfl | (cases h)
end
end L2
namespace L2
open PySem PySem.Spec PyProof.Rows
noncomputable def zdq (mp:List Nat) (i:Nat):GS:=fun en=>match en[i]? with
 | some (some (w,true))=>if mp.contains i then none else some (en.set i none,.ret (w,true))
 | some (some (w,false))=>some (en,.ret (w,false))
 | _=>none
theorem Rel.drop {K:PySem.W.Frag}{F H:Hp}{pr:Prt}{en:En}{σ:St} (R:Rel K F pr en σ H) {i:Nat}{w:W} (e:en[i]?=some (some (w,true))):∃v,σ[i]?=some (some v)/\Rel K F pr (en.set i none) σ H/\Res K F H pr (en.set i none) σ (w,true) v:=by
 have hi:i < en.length:=(List.getElem?_eq_some_iff.mp e).1;refine aG fun _ qG=>?_;obtain ⟨a,vs,ws,h1,h2,h3,h4,h5⟩:=R.own i w e;refine qG ?_;clear qG;have g:∀(j:Nat) (x:W × Bool),(en.set i none)[j]?=some (some x)->j≠i/\en[j]?=some (some x):=fun j x h=>by
  rcases zc5 hi h with ⟨_,q⟩ | z
  ·cases q
  ·exact z
 refine ⟨_,h2,⟨by rw [List.length_set];exact R.len,R.sub,fun j u q=>R.val j u (g j _ q).2,fun j u q=>R.own j u (g j _ q).2,fun j k b u u' q q'=>R.inj j k b u u' (g j _ q).2 (g k _ q').2,fun b o q=>⟨(R.prt b o q).1,(R.prt b o q).2.1,fun j u z=>(R.prt b o q).2.2 j u (g j _ z).2⟩,R.tb⟩,a,vs,ws,h1,rfl,h3,h4,h5,fun j u q z=>?_,fun b o q z=>?_⟩
 ·exact (g j _ q).1 (R.inj j i a _ _ (g j _ q).2 e z h2)
 ·subst z;exact (R.prt b o q).2.2 i w e h2
theorem zp2 {K:PySem.W.Frag}{mp:List Nat}{D:Ends}{σ:St}{H:Hp}{i:Nat} (h:tS K mp (zdq mp i) D σ H):tRet (tVar i) D σ H:=by
 obtain ⟨F,pr,en,en',fl,R,h,q⟩:=h;unfold zdq at h;split at h
 ·rename_i w e;split at h
  ·exact noSome h
  ·cases h;obtain ⟨v,hv,R',z⟩:=R.drop e;exact ⟨v,hv,q F σ H v (.refl F) R' (.refl _ _) z⟩
 ·rename_i w e;cases h;obtain ⟨v,hv,z⟩:=R.val i w e;exact ⟨v,hv,q F σ H v (.refl F) R (.refl _ _) z⟩
 ·exact noSome h
noncomputable def ztc (f:Sx->Stmt->Option GS):Prop:=∀X S d,CxOk X S d->∀st g,f S st=some g->PS X st (tS X.K S.mp g)
noncomputable def blk (f:Sx->Stmt->Option GS) (S:Sx):List Stmt->Option GS
  | []=>some zbk
  | st::sts=>match sts with
    | []=>f S st
    | _::_=>(f S st).bind fun a=>(blk f S sts).bind fun b=>some (gSeq a b)
noncomputable def zhn (S:Sx) (x:Str) (px:Pos) (scope:Scope) (pos:Pos):Bool:=S.kd.lookup x == some .local && px.line == pos.line && !(scope.names.any fun (n,k)=>n == x && (k == .local || k == .cell))
noncomputable def zkd (S:Sx) (x:Str):Bool:=S.top && S.kd.lookup x == some .cell
noncomputable def zsm (S:Sx) (x:Str) (px:Pos) (y:Str) (py:Pos) (a b:Expr):Bool:=S.kd.lookup x == some .local && S.kd.lookup y == some .local && px.line == py.line && !(x == y) && !(foldedForSure 8 a && foldedForSure 8 b) && !(constantsAlone 8 a && constantsAlone 8 b) && zai a && zai b
noncomputable def zxm:Expr->Bool
 | .Tuple ..=>true
 | _=>false
noncomputable def asgE (fE:Sx->Expr->Option GE) (fT:Sx->Expr->Option GT) (S:Sx) (tg e:Expr):Option GS:=match tg with
  | .Name x px=>(S.wr x).bind fun i=>(match e with
    | .ListComp elt gens scope pos=>(zp9 fE fT S elt gens scope).bind fun g=>if zhn S x px scope pos || zkd S x then some (gSet S.mp i g) else none
    | e=>if zfg e then (fE S e).bind fun g=>some (gSet S.mp i g) else none)
  | .Tuple es _ _=>(match es,e with
    | [.Name x px,.Name y py],.Tuple [a,b] _ _=>if zsm S x px y py a b then (S.wr x).bind fun i=>(S.wr y).bind fun j=>(fE S a).bind fun ga=>(fE S b).bind fun gb=>some (gPar S.mp i j ga gb) else none
    | es,e=>if zxm e then none else (ze8 S es).bind fun is=>(fE S e).bind fun g=>some (gAsg S.mp (.tp is) g))
  | .Subscript o k _=>(match o with
    | .Name x _=>if zdj k then (S.rd x).bind fun i=>(fE S k).bind fun gk=>(fE S e).bind fun g=>some (zay i gk g) else none
    | _=>none)
  | _=>none
noncomputable def zyl (fS:Sx->Stmt->Option GS) (fE:Sx->Expr->Option GE) (fT:Sx->Expr->Option GT) (S:Sx) (st:Stmt):Option GS:=match st with
  | .Return o _=>(match o with
    | none=>none
    | some e=>(match e with
      | .Name x _=>(S.rd x).bind fun i=>some (zdq S.mp i)
      | e=>(fE S e).bind fun g=>some (gRet g)))
  | .If c a b _=>(fT S c).bind fun t=>(blk fS S a).bind fun x=>(blk fS S b).bind fun y=>some (gIfS t x y)
  | .For tg it body els _=>(match els with
    | []=>(zow fE S tg it).bind fun gi=>(tgE S tg).bind fun T=>(blk fS S body).bind fun g=>some (gFor S.mp T gi g)
    | _=>none)
  | .Pass _=>some zbk
  | .Expr e _=>if zfg e then (fE S e).bind fun g=>some (zff g) else none
  | .Assign ts e _=>(match ts with
    | [tg]=>asgE fE fT S tg e
    | _=>none)
  | _=>none
section
variable {X:Cx}{S:Sx}{d:Nat}{fS:Sx->Stmt->Option GS}{fE:Sx->Expr->Option GE}{fT:Sx->Expr->Option GT}
theorem ziq (HS:ztc fS) (C:CxOk X S d):∀{sts:List Stmt}{g:GS},blk fS S sts=some g->PSs X sts (tS X.K S.mp g)
  | [],_,h=>by obtain rfl:=sI h;exact zyw.wk fun _ _ _=>ziv
  | [st],_,h=>zze (HS X S d C _ _ h)
  | st::st' :: sts,_,h=>by
    obtain ⟨a,ha,h⟩:=bS (show (fS S st).bind _=_ from h);obtain ⟨b,hb,h⟩:=bS h;obtain rfl:=sI h;exact (zux (HS X S d C _ _ ha) (ziq HS C hb)).wk fun _ _ _=>ztz
theorem z3s (C:CxOk X S d) {x:Str}{px pos:Pos}{elt:Expr}{gens:List Comprehension}{scope:Scope}{l:Nat} (h:zhn S x px scope pos=true):swapsWith (.ListComp elt gens scope pos) (some (.Name x px)) l X.env=pure true:=by
 unfold zhn at h;rw [Bool.and_eq_true,Bool.and_eq_true] at h;have h1:X.env.kindOf x=some .local:=C.loc x (by simpa using h.1.1);show (pure (X.env.blockKind == .function && X.env.kindOf x == some .local && px.line == pos.line && !(scope.names.any fun (n,k)=>n == x && (k == .local || k == .cell))):Sem Bool)=pure true;rw [C.bk,h1,h.1.2,h.2]
 rfl
theorem swNo (C:CxOk X S d) {x:Str}{px pos:Pos}{elt:Expr}{gens:List Comprehension}{scope:Scope}{l:Nat} (h:zkd S x=true):swapsWith (.ListComp elt gens scope pos) (some (.Name x px)) l X.env=pure false:=by
 unfold zkd at h;rw [Bool.and_eq_true] at h;have h1:X.env.kindOf x=some .cell:=(C.cel x (by simpa using h.2)).1;show (pure (X.env.blockKind == .function && X.env.kindOf x == some .local && px.line == pos.line && !(scope.names.any fun (n,k)=>n == x && (k == .local || k == .cell))):Sem Bool)=pure false;rw [h1];have:(some NameKind.cell == some NameKind.local)=false:=rfl;rw [this,Bool.and_false,Bool.false_and,Bool.false_and]
theorem zzs (C:CxOk X S d) {x y:Str}{px py pt pt2:Pos}{a b:Expr}{kt k2:Nat} (h:zsm S x px y py a b=true):swappedStores [.Tuple [.Name x px,.Name y py] kt pt] (.Tuple [a,b] k2 pt2) X.env=pure (some [x,y]):=by
 unfold zsm at h;simp only [Bool.and_eq_true] at h;refine aG fun _ qG=>?_;obtain ⟨⟨⟨⟨⟨⟨⟨h1,h2⟩,h3⟩,h4⟩,h5⟩,h6⟩,h7⟩,h8⟩:=h;refine qG ?_;clear qG;have k1:X.env.kindOf x=some .local:=C.loc x (by simpa using h1);have k2:X.env.kindOf y=some .local:=C.loc y (by simpa using h2);have e3:px.line=py.line:=by simpa using h3
 have ne:¬ x=y:=by simpa using h4
 have st:∀e,zai e=true->(match e with | .Starred ..=>true | _=>false)=false:=fun e h=>by cases e<;>first | rfl | (cases h)
 have st' : ([a,b].any fun e=>match e with | .Starred ..=>true | _=>false)=false:=by
  rw [List.any_cons,List.any_cons,List.any_nil,st a h7,st b h8];rfl
 unfold swappedStores;simp only [List.length_cons,List.length_nil,C.bk,pure_bind];rw [if_neg (by decide)]
 try simp only [pure_bind]
 refine (if_neg (fun z=>Bool.false_ne_true (st'.symm.trans z))).trans ?_;have nm:List.filterMap (fun e=>match e with | .Name id pos=>if (X.env.kindOf id == some .local && pos.line == (Option.map (fun e=>e.pos.line) ([Expr.Name x px,Expr.Name y py]:List Expr).head?).getD 0)=true then some id else none | _=>none) ([Expr.Name x px,Expr.Name y py]:List Expr)=[x,y]:=by
  have ex:((Expr.Name x px).pos.line)=px.line:=rfl;simp [k1,k2,ex,e3]
 try simp only [pure_bind]
 generalize hq:List.filterMap _ ([Expr.Name x px,Expr.Name y py]:List Expr)=names;have hq' : names=[x,y]:=hq.symm.trans nm;subst hq';have yx:(y == x)=false:=by
  cases q:y == x with
  | false=>rfl
  | true=>exact absurd (eq_of_beq q).symm ne
 have ed:([x,y]:List Str).eraseDups=[x,y]:=by
  rw [List.eraseDups_cons,List.filter_cons,yx];simp only [Bool.not_false,if_true,List.filter_nil];rw [List.eraseDups_cons,List.filter_nil,List.eraseDups_nil]
 rw [ed,if_neg (by simp)]
 try simp only [pure_bind]
 have n5:¬ (foldedForSure 8 a && foldedForSure 8 b)=true:=fun z=>by rw [z] at h5;cases h5
 have n6:¬ (constantsAlone 8 a && constantsAlone 8 b)=true:=fun z=>by rw [z] at h6;cases h6
 rw [if_neg (by simp only [List.all_cons,List.all_nil,Bool.and_true];exact n5),if_neg (by simp only [List.all_cons,List.all_nil,Bool.and_true];exact n6)]
theorem ztr {e:Expr}{es:List Expr}{kt:Nat}{p:Pos}{env:Env} (h:zxm e=false):swappedStores [.Tuple es kt p] e env=pure none:=by
 cases e with
 | Tuple _ _ _=>cases h
 | _=>rfl
theorem zlx {es:List Expr}{kt:Nat}{p:Pos}{e:Expr}{l:Nat}{env:Env}:swapsWithSole [.Tuple es kt p] e l env=pure false:=by
 cases e<;>rfl
theorem zxj (HE:zdl fE) (HT:zi3 fT) (C:CxOk X S d) {tg e:Expr}{g:GS}{pos:Pos} (h:asgE fE fT S tg e=some g):PS X (.Assign [tg] e pos) (tS X.K S.mp g):=by
  cases tg with
  | Name x px =>
    refine aG fun _ qG=>?_;obtain ⟨i,hi,h⟩:=bS (show (S.wr x).bind _=_ from h);obtain ⟨w1,w2,w3⟩:=zr0 C hi;refine qG ?_;clear qG;have plain:(if zfg e then (fE S e).bind fun g=>some (gSet S.mp i g) else none)=some g->PS X (.Assign [.Name x px] e pos) (tS X.K S.mp g):=fun h=>by
      split at h
      · rename_i z
        obtain ⟨ge,hg,h⟩:=bS h;obtain rfl:=sI h;exact (zvz (ndN C) w1 w2 (HE X S d C _ _ hg) (zly z) w3).wk fun _ _ _=>zhf
      · exact noSome h
    cases e with
    | ListComp elt gens scope pc =>
      obtain ⟨ge,hg,h⟩:=bS (show (zp9 fE fT S elt gens scope).bind _=_ from h);have cp:=ze4 HE HT C hg;split at h
      · rename_i z
        obtain rfl:=sI h;rw [Bool.or_eq_true] at z;rcases z with z | z
        · refine aG fun Gg qG => ?_
          obtain ⟨tg,iter,ifs,gs,gi,T,tc,em,tm,e1,e2,so,pi,pf,pg,pt,pe,rd⟩:=cp.ex;refine qG ?_;clear qG;subst e1;exact (zwh (ndN C) w1 w2 pi pg pt (pe pc) (e2 pc) (z3s C z) C.calm so.kind so.cap so.fr so.nc so.nm pf w3).wk fun D σ H q=>by
            have q':=zhf q;exact rd _ _ _ q'
        · exact (zvz (ndN C) w1 w2 (zqq C cp) (swNo C z) w3).wk fun _ _ _=>zhf
      · exact noSome h
    | _=>exact plain h
  | Tuple es kt p =>
    have gen:(if zxm e then none else (ze8 S es).bind fun is=>(fE S e).bind fun g=>some (gAsg S.mp (.tp is) g))=some g->PS X (.Assign [.Tuple es kt p] e pos) (tS X.K S.mp g):=fun h=>by
      split at h
      · exact noSome h
      · rename_i z
        refine aG fun _ qG=>?_;obtain ⟨is,his,h⟩:=bS h;obtain ⟨ge,hg,h⟩:=bS h;refine qG ?_;clear qG;obtain rfl:=sI h;obtain ⟨a,b,c⟩:=zgf C _ his;exact (zvu (HE X S d C _ _ hg) (zpe C.calm a b c) zlx (ztr (by simpa using z)) rfl).wk fun _ _ _=>zut
    unfold asgE at h;simp only at h;split at h
    · rename_i x px y py a b k2 p2
      split at h
      · rename_i z
        refine aG fun _ qG=>?_;obtain ⟨i,hi,h⟩:=bS h;obtain ⟨j,hj,h⟩:=bS h;obtain ⟨ga,hga,h⟩:=bS h;obtain ⟨gb,hgb,h⟩:=bS h;refine qG ?_;clear qG;obtain rfl:=sI h;have hsw:=zzs (pt:=p) (pt2:=p2) (kt:=kt) (k2:=k2) C z;unfold zsm at z;simp only [Bool.and_eq_true] at z;refine aG fun _ qG=>?_;obtain ⟨⟨⟨⟨⟨⟨⟨h1,h2⟩,h3⟩,h4⟩,h5⟩,h6⟩,h7⟩,h8⟩:=z;obtain ⟨x1,_,_⟩:=zr0 C hi;obtain ⟨y1,_,_⟩:=zr0 C hj;refine qG ?_;clear qG;have ne:i≠j:=fun e=>by
          subst e;rw [x1] at y1;obtain rfl:=sI y1;simp at h4
        exact (z01 C.calm (ndN C) x1 y1 ne (C.loc x (by simpa using h1)) (C.loc y (by simpa using h2)) (pac (HE X S d C _ _ hga) (pac (HE X S d C _ _ hgb) zdv h8) h7) hsw zlx).wk fun _ _ _=>ztv
      · exact noSome h
    · exact gen h
  | Subscript o k p =>
    cases o with
    | Name x px =>
      have h' : (if zdj k then (S.rd x).bind fun i=>(fE S k).bind fun gk=>(fE S e).bind fun g=>some (zay i gk g) else none)=some g:=h;split at h'
      · rename_i z
        refine aG fun _ qG=>?_;obtain ⟨i,hi,h⟩:=bS h';obtain ⟨gk,hgk,h⟩:=bS h;obtain ⟨ge,hg,h⟩:=bS h;refine qG ?_;clear qG;obtain rfl:=sI h;exact (zvu (HE X S d C _ _ hg) (z0h (zji C hi) (HE X S d C _ _ hgk) zug (zn1 z)) zuv z2t rfl).wk fun _ _ _=>znx
      · exact noSome h'
    | _=>exact noSome h
  | _=>exact noSome h
theorem zuz (HS:ztc fS) (HE:zdl fE) (HT:zi3 fT):ztc (zyl fS fE fT):=fun X S d C st g h=>by
  have pn:PassesOwn (model X.prog X.w) X.A X.env X.xe:=by rw [C.xe];exact PassesOwn.never
  cases st with
  | Return o p =>
    cases o with
    | none=>cases h
    | some e =>
      have gen:((fE S e).bind fun g=>some (gRet g))=some g->PS X (.Return (some e) p) (tS X.K S.mp g):=fun h=>by
        obtain ⟨ge,hg,h⟩:=bS h;obtain rfl:=sI h;exact (zvo (HE X S d C _ _ hg)).wk fun _ _ _=>zsi
      cases e with
      | Name x px =>
        obtain ⟨i,hi,h⟩:=bS (show (S.rd x).bind _=_ from h);obtain rfl:=sI h;exact (zvo (zji C hi)).wk fun _ _ _=>zp2
      | _=>exact gen h
  | If c a b p =>
    obtain ⟨t,ht,h⟩:=bS (show (fT S c).bind _=_ from h);obtain ⟨x,hx,h⟩:=bS h;obtain ⟨y,hy,h⟩:=bS h;obtain rfl:=sI h;exact (z3n (HT X S d C _ _ ht) (ziq HS C hx) (ziq HS C hy)).wk fun _ _ _=>ztf
  | For tg it body els p =>
    cases els with
    | cons _ _=>exact noSome h
    | nil =>
      obtain ⟨gi,hgi,h⟩:=bS (show (zow fE S tg it).bind _=_ from h);obtain ⟨T,hT,h⟩:=bS h;obtain ⟨gb,hb,h⟩:=bS h;obtain rfl:=sI h;obtain ⟨pi,pf⟩:=zlu HE C hgi;exact (z2g pn C.calm pi (zvw C hT) (ziq HS C hb) pf).wk fun _ _ _=>zu1
  | Pass p=>obtain rfl:=sI h;exact zyt.wk fun _ _ _=>ziv
  | Expr e p =>
    have h' : (if zfg e then (fE S e).bind fun g=>some (zff g) else none)=some g:=h;split at h'
    · rename_i z
      obtain ⟨ge,hg,h⟩:=bS h';obtain rfl:=sI h;exact (zyd (HE X S d C _ _ hg) (zly z)).wk fun _ _ _=>zru
    · exact noSome h'
  | Assign ts e p =>
    match ts,h with
    | [tg],h=>exact zxj HE HT C h
    | [],h=>exact noSome h
    | _::_::_,h=>exact noSome h
  | _=>exact noSome h
end
noncomputable def zrs:GS:=fun _=>none
noncomputable def zrj:Nat->Sx->Stmt->Option GS
 | 0,_,_=>some zrs
 | n+1,S,st=>some ((zyl (zrj n) (compE n) (compT n) S st).getD zrs)
theorem zl0 {X:Cx}{st:Stmt}{mp:List Nat}:PS X st (tS X.K mp zrs):=fun _ _ _ _ _ _ q=>by obtain ⟨_,_,_,_,_,_,h,_⟩:=q;exact noSome h
theorem zgd:∀n,ztc (zrj n)
  | 0=>fun _ _ _ _ _ _ h=>by obtain rfl:=sI h;exact zl0
  | n+1=>fun X S d C st g h=>by
    rw [zrj] at h;cases q:zyl (zrj n) (compE n) (compT n) S st with
    | none=>rw [q] at h;obtain rfl:=sI h;exact zl0
    | some g'=>rw [q] at h;obtain rfl:=sI h;exact zuz (zgd n) (zfq n).1 (zfq n).2 X S d C st _ q
structure Fd where
 nm:Str
 ps:List Str
 N:List Str
 m:List Bool
 st:Stmt
noncomputable def deep:Nat:=60
noncomputable def sxOf (T:List Fd) (bn:List Str) (Ψ:Str->Fn) (d:Nat) (t:Fd):Sx:={ N:=t.N,kd:=(zao t.st).names,bn:=bn,fs:=T.map fun u=>(u.nm,(u.m,Ψ u.nm)),mp:=mpOf t.m,top:=true,nm:=t.nm,dp:=d }
noncomputable def zat (T:List Fd) (bn:List Str) (Ψ:Str->Fn) (d:Nat) (t:Fd):Option GS:=blk (zrj deep) (sxOf T bn Ψ d t) (zc1 t.st)
noncomputable def fnAt (T:List Fd) (bn:List Str) (Ψ:Str->Fn) (d:Nat) (t:Fd):Fn:=match zat T bn Ψ d t with
 | some g=>zag t.m t.N.length g
 | none=>fun _=>none
noncomputable def sem (T:List Fd) (bn:List Str):Nat->Str->Fn
  | 0,_=>fun _=>none
  | d+1,x=>match T.find? (·.nm == x) with
    | some t=>fnAt T bn (sem T bn d) d t
    | none=>fun _=>none
noncomputable def zuk (K:PySem.W.Frag) (x:Str):Bool:=match PySem.W.tabIn K x with
 | some (c,P)=>PySem.W.codeHdIn K c P
 | none=>false
theorem Fun.okC {P:Program}{w:World}{K:PySem.W.Frag}{mg:Str->Option Value}{base:Heap}{x qual:Str}{st:Stmt}{f:Addr}{fd:FuncData}{N ps:List Str}{k:Nat}{sp:Sp} (F:Fun K x qual st f fd) (S:FnScope N ps (zao st)) (len:∀vs H Q E,sp vs H Q E->vs.length=ps.length)
  (hbody:∀(A:Around) (outer:List Env) (s:Shared) (H:Hp) (vs:List V) (Q:VK) (E:XK),(Room k (A.deeper (envOfC qual (zao st) s.heap.objs.size f fd.code))/\Room (k+1) A)->sp vs H Q E ->
   ∃t,PSs (cxOf CX0 P w K mg base N qual (zao st) f fd.code A outer s H E).nox (zc1 st) t/\t { nx:=fun _ H'=>Q .non H',rt:=Q } (start N vs) H):FnOk P w K mg base CX0 (k+1) f fd ps sp:=by
 refine aG fun _ qG=>?_;obtain ⟨oc,od,kV,doc,pm,an,cdv,ct,osl,rfl,lk,hcd⟩:=F.ex;refine qG ?_;clear qG;refine z3x lk hcd S len fun A outer s H vs Q E hr hsp=>?_;obtain ⟨t,h,q⟩:=hbody A outer s H vs Q E hr hsp;exact ⟨t,h.nox,q⟩
structure FdOk (K:PySem.W.Frag) (mg:Str->Option Value) (t:Fd):Prop where
 sc:FnScope t.N t.ps (zao t.st)
 m:t.m.length=t.ps.length
 ex:∃f fd,Fun K t.nm t.nm t.st f fd/\zj3 K fd t.ps []/\mg t.nm=some (.ref f)
 lam:t.nm∈lams->zuk K t.nm=true
theorem znv {T:List Fd}{Ψ:Str->Fn}{x:Str}{m:List Bool}{Φ:Fn} (h:(T.map fun u=>(u.nm,(u.m,Ψ u.nm))).lookup x=some (m,Φ)):∃t∈T,t.nm=x/\t.m=m/\Φ=Ψ x:=by
  induction T with
  | nil=>exact noSome h
  | cons t T ih =>
    rw [List.map_cons,List.lookup_cons] at h;cases q:x == t.nm with
    | true =>
      rw [q] at h;cases h;have:=eq_of_beq q;subst this;exact ⟨t,List.mem_cons_self,rfl,rfl,rfl⟩
    | false =>
      rw [q] at h;obtain ⟨u,h1,h2⟩:=ih h;exact ⟨u,List.mem_cons_of_mem _ h1,h2⟩
theorem zyj {T:List Fd} (nd:(T.map (·.nm)).Nodup) {t:Fd} (h:t∈T):T.find? (·.nm == t.nm)=some t:=by
  induction T with
  | nil=>cases h
  | cons u T ih =>
    rw [List.map_cons,List.nodup_cons] at nd;rw [List.find?_cons];rcases List.mem_cons.mp h with rfl | h
    · simp
    · have:(u.nm == t.nm)=false:=by
        cases q:u.nm == t.nm with
        | false=>rfl
        | true=>exact absurd (List.mem_map.mpr ⟨t,h,(eq_of_beq q).symm⟩) nd.1
      rw [this];exact ih nd.2 h
theorem zqy {P:Program}{w:World}{K:PySem.W.Frag}{mg:Str->Option Value}{base:Heap}{T:List Fd}{bn:List Str} (nd:(T.map (·.nm)).Nodup) (ok:∀t∈T,FdOk K mg t) (hb:∀x∈bn,mg x=none) (kb:K.In base) (nb:base.Ns mainGlobals mg) :
    ∀(d:Nat) (t:Fd),t∈T->∀f fd,Fun K t.nm t.nm t.st f fd->mg t.nm=some (.ref f)->FnOk P w K mg base CX0 d f fd t.ps (spF K t.m (sem T bn d t.nm))
  | 0,t,_,f,fd,_,_=>⟨fun vs H Q E h=>(by obtain ⟨_,_,_,_,_,_,_,_,h,_⟩:=h;cases h),fun A outer s H args us vs Q E hr he hbi hv h=>(by obtain ⟨_,_,_,_,_,_,_,_,h,_⟩:=h;cases h)⟩
  | d+1,t,ht,f,fd,F,M=>by
    have o:=ok t ht;refine F.okC (k:=d) o.sc (fun vs H Q E h=>(zrp h).trans o.m) (fun A outer s H vs Q E hr h=>?_);have es:sem T bn (d+1) t.nm=fnAt T bn (sem T bn d) d t:=by
      show (match T.find? (·.nm == t.nm) with | some t=>fnAt T bn (sem T bn d) d t | none=>fun _=>none)=_;rw [zyj nd ht]
    rw [es] at h;unfold fnAt at h;cases e:zat T bn (sem T bn d) d t with
    | none =>
      rw [e] at h;refine aG fun _ qG=>?_;obtain ⟨_,_,_,_,_,_,_,_,h,_⟩:=h;refine qG ?_;clear qG;exact noSome h
    | some g =>
      rw [e] at h;have C:CxOk (cxOf CX0 P w K mg base t.N t.nm (zao t.st) f fd.code A outer s H E).nox (sxOf T bn (sem T bn d) d t) d:={
        N:=rfl
        nd:=o.sc.nd
        loc:=fun x e=>e
        cel:=fun x e=>⟨e,rfl⟩
        vis:=fun x e=>e
        gl:=fun x e=>e
        calm:=rfl
        xe:=rfl
        bn:=hb
        fs:=fun x m Φ e=>by
          refine aG fun _ qG=>?_;obtain ⟨u,hu,e1,e2,e3⟩:=znv e;refine qG ?_;clear qG;subst e1 e2 e3;refine aG fun _ qG=>?_;obtain ⟨fa,fb,F',B',M'⟩:=(ok u hu).ex;refine qG ?_;clear qG;exact ⟨u.ps,(ok u hu).m.symm,⟨fa,fb,zqy nd ok hb kb nb d u hu fa fb F' M',B',F'.kp,M'⟩⟩
        room:=hr.1
        sl:=by have:=hr.2.un;show A.units+3+16 * d+205 < cLine;omega
        dpo:=Nat.le_refl _
        lam:=fun h=>by
          have q:=o.lam h;unfold zuk at q;split at q
          · rename_i c Pt e
            refine ⟨c,Pt,e,q,?_,rfl⟩;refine aG fun _ qG=>?_;obtain ⟨oc,od,kV,doc,pm,an,cdv,ct,osl,e1,lk,hcd⟩:=F.ex;refine qG ?_;clear qG;exact PySem.W.law_code kb nb e M (kb _ _ lk) rfl
          · cases q
        bk:=by
          show (if (zao t.st).kind.isAnnotationScope then ScopeKind.function else (zao t.st).kind)=.function;rw [o.sc.kind];rfl }
      exact ⟨_,ziq (zgd deep) C e,zwm h⟩
theorem zm6 {K:PySem.W.Frag}{F H:Hp}{a:Addr}{ns:List Int}{Φ:Fn}{ws' : List W} (hs:Same F H) (tb:znf K F (fun _ _=>False) H) (h:SqL K F a (ns.map V.int)) (e:Φ [.frl (ns.map W.int)]=some (ws',(.bl true,false))) (hl:ws'.length=1) {E:XK}:spF K [false] Φ [.ref a] H (fun v _=>v=.bl true) E:=by
 refine ⟨F,fun _ _=>False,_,ws',_,rfl,hl,⟨rfl,hs,fun i w q=>?_,fun i w q=>?_,fun i j a w w' q=>?_,fun b o q=>q.elim,tb⟩,e,fun F' H' v _ _ z=>?_⟩
 ·cases i with
  | zero=>cases q;exact ⟨_,rfl,.frl h (Reps.ofInts ns)⟩
  | succ i=>cases i<;>exact noSome q
 ·cases i with
  | zero=>cases q
  | succ i=>cases i<;>exact noSome q
 ·cases i with
  | zero=>cases q
  | succ i=>cases i<;>exact noSome q
 ·exact z.isBl
end L2
namespace L2
open PySem PySem.Spec PyProof.Rows
noncomputable def tabsOf (K:PySem.W.Frag):List Addr:=lams.filterMap fun x=>(PySem.W.tabIn K x).map (·.2)
theorem zhd {K:PySem.W.Frag}{b:Addr}:b∈tabsOf K↔∃x∈lams,∃c,PySem.W.tabIn K x=some (c,b):=by
 unfold tabsOf;rw [List.mem_filterMap];constructor
 ·rintro ⟨x, hx, e⟩;cases q:PySem.W.tabIn K x with
  | none=>rw [q] at e;exact noSome e
  | some p=>rw [q] at e;obtain rfl:=sI e;exact ⟨x,hx,p.1,q⟩
 ·rintro ⟨x, hx, c, e⟩;exact ⟨x,hx,by rw [e];rfl⟩
noncomputable def z1g (K:PySem.W.Frag) (h:Heap):Prop:=∀x∈lams,∀c P,PySem.W.tabIn K x=some (c,P)->PySem.W.CodeHd h c P/\h.get? P=some (PySem.W.tabObj #[])
structure Start (K:PySem.W.Frag) (F H:Hp):Prop where
 sub:Same F H
 tb:znf K F (fun _ _=>False) H
theorem zpa {P:Program}{w:World}{K:PySem.W.Frag}{mg mb:Str->Option Value}{CX:CXT}{k:Nat}{fa a:Addr}{fd:FuncData}{x:Str}{sp:Sp}{s₁:Shared}{vs:List Value}{ns:List Int}
    (KX:K.In s₁.heap) (nt:PySem.W.noTabs K=true) (nd:zwk K) (hT:z1g K s₁.heap) (hns:s₁.heap.Ns mainGlobals mg) (hb:s₁.heap.Ns builtinsNs mb) (hbb:∀x:Str,x≠"__name__" -> mb x=bootBuiltins x) (hlim:s₁.heap.NoLimit) (hbm:∃(b:Addr) (ob:Obj),mg "__builtins__" = some (.ref b)/\b≠builtinsNs/\s₁.heap.get? b=some ob/\ob.cls=.type "module"/\ob.dict=some builtinsNs/\ob.data=.plain) (hg:s₁.gens=#[])
    (ha:s₁.heap.get? a=some { cls:=.type "list",data:=.seq vs.toArray }) (hi:IntsAre vs ns) (hl:ns.length<=sizeLine) (hr:Room k callerA)
    (Fk:∀base:Heap,K.In base->base.Ns mainGlobals mg->FnOk P w K mg base CX k fa fd [x] sp) (hbind:∀(s:Shared) (u:Value),BindsTo s fd ⟨[u],[]⟩ [(x,u)])
    (hsp:∀F H:Hp,Start K F H->SqL K F a (ns.map V.int)->sp [.ref a] H (fun v _=>v=.bl true) fun _ _ _=>False)
    (hCX:∀H e s',CX [] H s₁ (fun _ _ _=>False) e s'->False) :
    codeAny (model P w) callerA (.call (.ref fa) ⟨[.ref a],[]⟩) (fun r s'=>r=.ok (.ret (.bool true))/\OldK s₁.heap s'.heap/\s'.os=s₁.os/\AllBare s'.gens) s₁:=by
  have rv:=zjm hi;have lenV:=hi.length;have tabAt:∀b∈tabsOf K,s₁.heap.get? b=some (PySem.W.tabObj #[]):=fun b h=>by
    refine aG fun _ qG=>?_;obtain ⟨x,hx,c,e⟩:=zhd.mp h;refine qG ?_;clear qG;exact (hT x hx c b e).2
  have na:a ∉ tabsOf K:=fun h=>by
    have:=tabAt a h;rw [ha] at this;cases this
  have core:∀F H:Hp,(∀b,H b=none\/(b∈tabsOf K/\H b=some (.tbl #[])/\F b=none)\/(b=a/\K.lookup a=none/\F b=H b/\∃o xs,H b=some (.frz o (.lst xs))))->(∀b,H b=none->F b=none)->(∀b∈tabsOf K,H b=some (.tbl #[]))->SqL K F a (ns.map V.int)->HOk P w H s₁.heap ->
      codeAny (model P w) callerA (.call (.ref fa) ⟨[.ref a],[]⟩) (fun r s'=>r=.ok (.ret (.bool true))/\OldK s₁.heap s'.heap/\s'.os=s₁.os/\AllBare s'.gens) s₁:=by
    intro F H hO hF hB hS hok;have base_of:∀{b:Addr}{o:Obj},s₁.heap.get? b=some o->H b=none->(hidT s₁.heap H).get? b=some o:=fun e n=>zt6 e n;have noA:∀{b:Addr}{o:Obj}{es:Array DictEntry}{ep:Nat},s₁.heap.get? b=some o->o.data=.dict es ep->H b=none:=fun {b o es ep} e d=>by
      rcases hO b with z | ⟨z,_⟩ | ⟨z,_⟩
      · exact z
      · rw [tabAt b z] at e;obtain rfl:=sI e;cases d
      · subst z
        rw [ha] at e;obtain rfl:=sI e;have d' : Data.seq vs.toArray _=Data.dict es ep:=d;cases d'
    have nsK:∀{b:Addr}{m:Str->Option Value},s₁.heap.Ns b m->(hidT s₁.heap H).Ns b m:=fun {b m} ⟨o,es,ep,e,d,r⟩=>⟨o,es,ep,base_of e (noA e d),d,r⟩;have hKb:K.In (hidT s₁.heap H):=fun b o e=>base_of (KX b o e) (by
      rcases hO b with z | ⟨z,_⟩ | ⟨z,n,_⟩
      · exact z
      · have e2 := KX b o e
        rw [tabAt b z] at e2;obtain rfl:=sI e2;have:=List.all_eq_true.mp nt (b,_) (PySem.W.mem_of_lookupK e);exact absurd (show false=true from this) Bool.false_ne_true
      · subst z
        rw [n] at e;cases e)
    have hM:Mod K mg (hidT s₁.heap H):=⟨hKb,nsK hns,⟨mb,nsK hb,hbb⟩,let ⟨mc,h1,h2⟩:=hlim;⟨mc,nsK h1,h2⟩,by
      refine aG fun _ qG=>?_;obtain ⟨b,ob,b1,b2,b3,b4,b5,b6⟩:=hbm;refine qG ?_;clear qG;refine ⟨b,ob,b1,b2,base_of b3 ?_,b4,b5,b6⟩;rcases hO b with z | ⟨z,_⟩ | ⟨z,_⟩
      · exact z
      · rw [tabAt b z] at b3;obtain rfl:=sI b3;cases b4
      · subst z;rw [ha] at b3;obtain rfl:=sI b3;exact absurd b4 (by simp)⟩
    have e0:Env0 P w K mg (hidT s₁.heap H) callerA [] s₁ H:=⟨rfl,hM,fun b o e=>zy7 e,Nat.le_of_eq (zpb _ _),trivial,fun b hb=>absurd (show b∈([]:List Addr) from hb) (by simp),hok,.of_eq hg⟩;have st:Start K F H:=⟨fun b o e=>by
      rcases hO b with z | ⟨_,_,z⟩ | ⟨_,_,z,_⟩
      · rw [hF b z] at e;cases e
      · rw [z] at e;cases e
      · rw [<-z];exact e,⟨nd,fun x hx c Pt e=>by
      have hm:Pt∈tabsOf K:=zhd.mpr ⟨x,hx,c,e⟩;refine ⟨#[],hB Pt hm,?_,fun _ z=>z,trivial,fun pos cv q=>by cases q⟩;rcases hO Pt with z | ⟨_,_,z⟩ | ⟨z,_⟩
      · exact hF Pt z
      · exact z
      · subst z;exact absurd hm na⟩⟩
    refine codeAny_mono ((Fk _ hKb (nsK hns)).run callerA [] s₁ H ⟨[.ref a],[]⟩ [.ref a] [.ref a] _ _ hr e0 (hbind s₁ (.ref a)) (.cons rfl .nil) (hsp F H st hS)) fun r s' h=>?_;cases r with
    | error e=>exact (hCX H e s' h).elim
    | ok fl =>
      cases fl with
      | next=>exact False.elim h
      | brk=>exact False.elim h
      | cont=>exact False.elim h
      | ret u =>
        refine aG fun _ qG=>?_;obtain ⟨v,H',os,bare,un,hok',r',q⟩:=h;refine qG ?_;clear qG;have q' : v=.bl true:=q;subst q';obtain rfl:u=Value.bool true:=r';refine ⟨rfl,⟨fun b o e=>?_,fun b o e=>un.there b o e (by simp)⟩,os,bare⟩;rcases hO b with z | ⟨z,z1,_⟩ | ⟨_,_,_,ob,xs,z⟩
        · exact .inl (un.keep b o e z (by intro y;exact absurd (show b∈([]:List Addr) from y) (by simp)) (by simp))
        · refine aG fun Gg qG => ?_
          obtain ⟨x,hx,c,ex⟩:=zhd.mp z;obtain ⟨t1,t2⟩:=hT x hx c b ex;refine qG ?_;clear qG;rw [e] at t2;obtain rfl:=sI t2;obtain ⟨more,e2⟩:=un.tbls b #[] z1;exact .inr (.inl ⟨(t1.tab e).isCodeTable,rfl,#[],more,rfl,hok' b _ e2⟩)
        · have z2 := un.frzs b ob _ z
          obtain ⟨e1,_⟩:=hok b _ z;obtain ⟨e2,_⟩:=hok' b _ z2;rw [e] at e1;obtain rfl:=sI e1;exact .inl e2
  have tOk:∀b,b∈tabsOf K->∀H,zb6 P w H s₁.heap b (.tbl #[]):=fun b h H=>tabAt b h;cases hk:K.lookup a with
  | some o =>
    have e:=KX a o hk;rw [ha] at e;obtain rfl:=sI e;refine core (fun _=>none) (fun b=>if b∈tabsOf K then some (.tbl #[]) else none) (fun b=>?_) (fun _ _=>rfl) (fun b h=>if_pos h) (.inr ⟨_,vs.toArray,_,hk,rfl,rfl,rfl,by rw [List.size_toArray,lenV];exact hl,by simpa using rv⟩) (fun b u z=>?_)
    · by_cases h : b ∈ tabsOf K
      · exact .inr (.inl ⟨h,if_pos h,rfl⟩)
      · exact .inl (if_neg h)
    · by_cases h : b ∈ tabsOf K
      · have z' := (if_pos h).symm.trans z
        obtain rfl:=sI z';exact tOk b h _
      · have z' := (if_neg h).symm.trans z
        cases z'
  | none =>
    refine core (fun b=>if b=a then some (.frz { cls:=.type "list",data:=.seq vs.toArray } (.lst (ns.map V.int))) else none) (fun b=>if b=a then some (.frz { cls:=.type "list",data:=.seq vs.toArray } (.lst (ns.map V.int))) else if b∈tabsOf K then some (.tbl #[]) else none) (fun b=>?_) (fun b z=>?_) (fun b h=>?_) (.inl (.inr ⟨{ cls:=.type "list",data:=.seq vs.toArray },if_pos rfl⟩)) (fun b u z=>?_)
    · by_cases h0 : b = a
      · exact .inr (.inr ⟨h0,hk,by simp only [if_pos h0],_,_,if_pos h0⟩)
      · by_cases h : b ∈ tabsOf K
        · exact .inr (.inl ⟨h,by simp only [if_neg h0,if_pos h],if_neg h0⟩)
        · exact .inl (by simp only [if_neg h0,if_neg h])
    · by_cases h0 : b = a
      · simp only [if_pos h0] at z;cases z
      · exact if_neg h0
    · have h0 : b ≠ a := fun z => by subst z; exact na h
      simp only [if_neg h0,if_pos h]
    · by_cases h0 : b = a
      · have z' : some (HO.frz { cls := .type "list", data := .seq vs.toArray } (.lst (ns.map V.int))) = some u := by simpa only [if_pos h0] using z
        obtain rfl:=sI z';subst h0;exact ⟨ha,by rw [List.length_map];exact hl,vs,_,rv,ha⟩
      · by_cases h : b ∈ tabsOf K
        · have z' : some (HO.tbl #[]) = some u := by simpa only [if_neg h0, if_pos h] using z
          obtain rfl:=sI z';exact tOk b h _
        · have z' : (none : Option HO) = some u := by simpa only [if_neg h0, if_neg h] using z
          cases z'
noncomputable def zou (K:PySem.W.Frag):Bool:=lams.all fun x=>lams.all fun x'=>match PySem.W.tabIn K x,PySem.W.tabIn K x' with
 | some p,some p'=>x == x' || !(p.2 == p'.2)
 | _,_=>true
theorem zst {K:PySem.W.Frag} (h:zou K=true):zwk K:=fun x hx x' hx' c c' P e e'=>by
 have:=List.all_eq_true.mp (List.all_eq_true.mp h x hx) x' hx';rw [e,e'] at this;simpa using this
theorem walk_ofT {l:PySem.W.OpenLaw}{n k:Nat}{q:Program}{loose:List Str}{XP:(Str->Option Value)->Heap->Prop}{YP:World->Heap->Prop}{d:DefRec}{K:Params->PySem.W.Frag}{CX:World->CXT}{sp:World->Sp}{x:Str}
  (hn:l.most=some n) (hn2:n<=sizeLine) (hdf:d.params.defaults=[]) (hr:Room k callerA)
  (hY:∀(w:World) (h:Heap),YP w h->(K w.params).In h)
  (nt:∀w:World,PySem.W.noTabs (K w.params)=true) (nd:∀w:World,zou (K w.params)=true) (hrec:∀(w:World),∀x∈lams,∀c P,PySem.W.tabIn (K w.params) x=some (c,P)->∃d,(recsOf q).find? (fun e=>e.name == x)=some d)
  (F:∀(w:World) (mg:Str->Option Value) (fa:Addr) (h:Heap),(K w.params).In h->h.Ns mainGlobals mg->mg d.name=some (.ref fa) ->
   ∃fd:FuncData,(∀(s:Shared) (u:Value),BindsTo s fd ⟨[u],[]⟩ [(x,u)]) /\
    ∀base:Heap,(K w.params).In base->base.Ns mainGlobals mg->FnOk l.prog w (K w.params) mg base (CX w) k fa fd [x] (sp w))
  (hsp:∀(w:World) (F H:Hp) (a:Addr) (ns:List Int),ns.length<=n->Start (K w.params) F H->SqL (K w.params) F a (ns.map V.int)->sp w [.ref a] H (fun v _=>v=.bl true) fun _ _ _=>False)
  (hCX:∀(w:World) (H:Hp) (s:Shared) (e:Value) (s' : Shared),CX w [] H s (fun _ _ _=>False) e s'->False) :
  PySem.W.WalkO q loose XP YP l.row.toRowW d [] (fun f vs=>PySem.call f vs):=by
 refine Att.attach_call hn hdf fun w s₀ s₁ mg mb fa o pm cd doc a vs ns G Y ho hd hcd hmg hobj hints hlen hg=>?_;have KX:=hY w _ Y;obtain ⟨fd,hb,hF⟩:=F w mg fa _ KX G.T.g hmg;refine zpa KX (nt w) (zst (nd w)) (fun x hx c Pt e=>?_) G.T.g G.T.b G.T.builtins G.T.nolimit G.T.bmain hg hobj hints (Nat.le_trans hlen hn2) hr hF hb (fun F H hO hS=>hsp w F H a ns hlen hO hS) fun H e s'=>hCX w H s₁ e s';obtain ⟨d,hd⟩:=hrec w x hx c Pt e;exact PySem.W.tab_of G.T KX hd e
end L2
namespace L2
open PySem PySem.Spec PyProof.Rows
theorem zrv (i j:Int):oAdd (.int i) (.int j)=some (.int (i+j),false):=rfl
theorem zpp {i j:Int} (h:cMul i j=true):oMult (.int i) (.int j)=some (.int (i * j),false):=by
 show (match (if cMul i j then some (W.int (i * j),false) else none) with | some p=>some p | none=>_)=_;rw [if_pos h]
theorem oMult_l {i j:Int} (h1:-(2 ^ 64) < i) (h2:i < 2 ^ 64):oMult (.int i) (.int j)=some (.int (i * j),false):=zpp (by
 unfold cMul;rw [Bool.or_eq_true,Bool.and_eq_true];exact .inl ⟨decide_eq_true h1,decide_eq_true h2⟩)
theorem zfa {i j:Int} (h1:-(2 ^ 64) < j) (h2:j < 2 ^ 64):oMult (.int i) (.int j)=some (.int (i * j),false):=zpp (by
 unfold cMul;rw [Bool.or_eq_true,Bool.and_eq_true,Bool.and_eq_true];exact .inr ⟨decide_eq_true h1,decide_eq_true h2⟩)
theorem zod {i j:Int} (h1:Builtin.Int.intBits i<=2 ^ 20) (h2:Builtin.Int.intBits j<=2 ^ 20):oMult (.int i) (.int j)=some (.int (i * j),false):=by
 have h:zni i j=true:=by
  unfold zni;rw [Bool.and_eq_true];exact ⟨decide_eq_true h1,decide_eq_true h2⟩
 show (match (if cMul i j then some (W.int (i * j),false) else none) with | some p=>some p | none=>(match (if zni i j then some (W.int (i * j),false) else none) with | some p=>some p | none=>_))=_;rw [if_pos h];split<;>simp_all
theorem zqd {xs:List W}{k:Int} (h:-(2 ^ 63)<=k/\k < 2 ^ 63/\xs.length * k.toNat<=sizeLine):oMult (.lst xs) (.int k)=some (.lst (List.replicate k.toNat xs).flatten,true):=by
 show (if -(2 ^ 63)<=k/\k < 2 ^ 63/\xs.length * k.toNat<=sizeLine then some (W.lst (List.replicate k.toNat xs).flatten,true) else none)=_;rw [if_pos h]
theorem zyh {xs ys:List W} (h:xs.length+ys.length<=sizeLine):oAdd (.lst xs) (.lst ys)=some (.lst (xs++ys),true):=by
 show (match (if xs.length+ys.length<=sizeLine then some (W.lst (xs++ys),true) else none) with | some p=>some p | none=>_)=_;rw [if_pos h]
theorem z0k {i j:Int} (h0:0 < j) (h:j < 2 ^ 200):cDiv i j=true:=by
 unfold cDiv;rw [Bool.and_eq_true];refine ⟨decide_eq_true h0,decide_eq_true ?_⟩;have hn:j.natAbs≠0:=by omega
 have h1:j.natAbs < 2 ^ 200:=by
  have:((j.natAbs:Nat):Int) < ((2 ^ 200:Nat):Int):=by
   rw [Int.natCast_pow];have e:((j.natAbs:Nat):Int)=j:=by omega
   rw [e];exact h
  exact Int.ofNat_lt.mp this
 exact Nat.lt_of_lt_of_le ((Nat.log2_lt hn).mpr h1) (by decide)
theorem zo9 {i j:Int} (h0:0 < j) (h:j < 18446744073709551617):cDiv i j=true:=z0k h0 (Int.lt_of_lt_of_le h (by decide))
theorem zll {mp:List Nat}{T:Tg}{body:GS} (P:Nat->En->Prop):∀(ws:List W) (k:Nat) (en:En),P k en->(∀i w e,ws[i]?=some w->P (k+i) e->∃e1 e2,tgSet mp T w e=some e1/\(body e1=some (e2,.nx)\/body e1=some (e2,.cnt))/\P (k+i+1) e2) ->
    ∃en',zim mp T body ws en=some (en',.nx)/\P (k+ws.length) en'
  | [],k,en,h0,_=>⟨en,rfl,h0⟩
  | w::ws,k,en,h0,hs=>by
    refine aG fun _ qG=>?_;obtain ⟨e1,e2,h1,h2,h3⟩:=hs 0 w en rfl h0;refine qG ?_;clear qG;obtain ⟨en',h4,h5⟩:=zll P ws (k+1) e2 h3 fun i u e hu hp=>by
      have:=hs (i+1) u e (by simpa using hu) (by rw [show k+(i+1)=k+1+i by omega];exact hp);rw [show k+(i+1)+1=k+1+i+1 by omega] at this;exact this
    refine ⟨en',?_,by rw [show k+(w::ws).length=k+1+ws.length by rw [List.length_cons];omega];exact h5⟩;show (tgSet mp T w en).bind _=_;rw [h1];show (match body e1 with | some (e2,.nx)=>zim mp T body ws e2 | some (e2,.cnt)=>zim mp T body ws e2 | some (e2,.brk)=>some (e2,.nx) | some (e2,.ret r)=>some (e2,.ret r) | none=>none)=_;rcases h2 with h2 | h2<;>(rw [h2];exact h4)
theorem zbl {mp:List Nat}{T:Tg}{it:GL}{body:GS} (P:Nat->En->Prop) {en e0:En}{ws:List W} (hi:it en=some (e0,ws)) (h0:P 0 e0) (hs:∀i w e,ws[i]?=some w->P i e->∃e1 e2,tgSet mp T w e=some e1/\(body e1=some (e2,.nx)\/body e1=some (e2,.cnt))/\P (i+1) e2) :
  ∃en',gFor mp T it body en=some (en',.nx)/\P ws.length en':=by
 obtain ⟨en',h1,h2⟩:=zll P ws 0 e0 h0 fun i w e hw hp=>by
  rw [Nat.zero_add] at hp ⊢;exact hs i w e hw hp
 refine ⟨en',?_,by rw [Nat.zero_add] at h2;exact h2⟩;unfold gFor;rw [hi];exact h1
theorem zi8 {mp:List Nat}{T:Tg}{tc:GT}{te:GE} (P:Nat->En->List W->Prop):∀(ws:List W) (k:Nat) (ce:En) (dn:List W),P k ce dn ->
    (∀i w c dn,ws[i]?=some w->P (k+i) c dn->∃c1,tgSet mp T w c=some c1/\((∃c2 c3 r,tc c1=some (c2,true)/\te c2=some (c3,r)/\P (k+i+1) c3 (dn++[r.1]))\/∃c2,tc c1=some (c2,false)/\P (k+i+1) c2 dn)) ->
    ∃ce' rest,ze2 mp T tc te ws ce=some (ce',rest)/\P (k+ws.length) ce' (dn++rest)
  | [],k,ce,dn,h0,_=>⟨ce,[],rfl,by rw [List.append_nil];exact h0⟩
  | w::ws,k,ce,dn,h0,hs=>by
    obtain ⟨c1,h1,h2⟩:=hs 0 w ce dn rfl h0;have next:∀c3 dn',P (k+1) c3 dn'->∃ce' rest,ze2 mp T tc te ws c3=some (ce',rest)/\P (k+1+ws.length) ce' (dn'++rest):=fun c3 dn' h=>zi8 P ws (k+1) c3 dn' h fun i u c d hu hp=>by
      have:=hs (i+1) u c d (by simpa using hu) (by rw [show k+(i+1)=k+1+i by omega];exact hp);rw [show k+(i+1)+1=k+1+i+1 by omega] at this;exact this
    have el:k+(w::ws).length=k+1+ws.length:=by rw [List.length_cons];omega
    rcases h2 with ⟨c2,c3,r,h3,h4,h5⟩ | ⟨c2,h3,h5⟩
    · obtain ⟨ce', rest, h6, h7⟩ := next c3 _ h5
      refine ⟨ce',r.1::rest,?_,by rw [el];rw [List.append_assoc] at h7;exact h7⟩;show (tgSet mp T w ce).bind _=_;rw [h1];show (match tc c1 with | some (c2,true)=>(te c2).bind fun p=>(ze2 mp T tc te ws p.1).bind fun q=>some (q.1,p.2.1::q.2) | some (c2,false)=>ze2 mp T tc te ws c2 | none=>none)=_;rw [h3];show (te c2).bind _=_;rw [h4];show (ze2 mp T tc te ws c3).bind _=_;rw [h6]
      rfl
    · obtain ⟨ce', rest, h6, h7⟩ := next c2 _ h5
      refine ⟨ce',rest,?_,by rw [el];exact h7⟩;show (tgSet mp T w ce).bind _=_;rw [h1];show (match tc c1 with | some (c2,true)=>(te c2).bind fun p=>(ze2 mp T tc te ws p.1).bind fun q=>some (q.1,p.2.1::q.2) | some (c2,false)=>ze2 mp T tc te ws c2 | none=>none)=_;rw [h3];exact h6
theorem zhw {cap:Cap}{T:Tg}{it:GL}{tc:GT}{te:GE} (P:Nat->En->List W->Prop) {en e0:En}{ws:List W} (hi:it en=some (e0,ws)) (hn:zb5 cap=true) (hz:ws.length<=sizeLine) (h0:P 0 (zeh cap e0) [])
  (hs:∀i w c dn,ws[i]?=some w->P i c dn->∃c1,tgSet (capKeep cap) T w c=some c1/\((∃c2 c3 r,tc c1=some (c2,true)/\te c2=some (c3,r)/\P (i+1) c3 (dn++[r.1]))\/∃c2,tc c1=some (c2,false)/\P (i+1) c2 dn)) :
  ∃ce' out,zcq cap T it tc te en=some (za1 cap e0 ce',(.lst out,true))/\P ws.length ce' out:=by
 obtain ⟨ce',rest,h1,h2⟩:=zi8 P ws 0 (zeh cap e0) [] h0 fun i w c dn hw hp=>by
  rw [Nat.zero_add] at hp ⊢;exact hs i w c dn hw hp
 refine ⟨ce',rest,?_,by rw [Nat.zero_add] at h2;exact h2⟩;unfold zcq;rw [hi];show (if zb5 cap && decide (ws.length<=sizeLine) then _ else none)=_;rw [if_pos (by rw [hn,decide_eq_true hz];rfl),h1]
 rfl
theorem zb3 {lo:Int}{n i:Nat}{w:W} (h:(rngW lo n)[i]?=some w):i < n/\w=.int (lo+i):=by
  unfold rngW at h;rw [List.getElem?_map] at h;cases q:(List.range n)[i]? with
  | none=>rw [q] at h;exact noSome h
  | some k =>
    rw [q] at h;obtain ⟨hl,e⟩:=List.getElem?_eq_some_iff.mp q;rw [List.length_range] at hl;rw [List.getElem_range] at e;subst e;exact ⟨hl,(sI h).symm⟩
theorem zbp (lo:Int) (n:Nat):(rngW lo n).length=n:=by unfold rngW;rw [List.length_map,List.length_range]
theorem za2 {xs:List W}{i:Nat}{x:W} (h:xs[i]?=some x):atI xs (i:Int)=some x:=zxg h
theorem zrr {en:En}:zce [] [] en=some []:=rfl
theorem zp6 {m:List Bool}{ws:List W}{en:En}{x w:W}:zce (true::m) (x::ws) (some (w,true)::en)=(zce m ws en).bind fun r=>some (w::r):=rfl
theorem zr3 {m:List Bool}{ws:List W}{en:En}{w:W}{o:Option (W × Bool)}:zce (false::m) (w::ws) (o::en)=(zce m ws en).bind fun r=>some (w::r):=rfl
noncomputable def HS (k:Nat) (w:W):Prop:=∃a b c:Int,w=.lst [.int a,.int b,.int c]/\0<=a/\0<=b/\b < MM/\0<=c/\c<=k
theorem HS.mono {k k' : Nat}{w:W} (h:HS k w) (hk:k<=k'):HS k' w:=by
 obtain ⟨a,b,c,e,h1,h2,h3,h4,h5⟩:=h;exact ⟨a,b,c,e,h1,h2,h3,h4,by omega⟩
noncomputable def ze0 (Φ:Fn):Prop:=∀(k:Nat) (st:W) (n:Int),HS k st->k < big->0 < n->n < 1073741824->∃st' r,Φ [st,.int n]=some ([st',.int n],(.int r,false))/\HS (k+1) st'/\0<=r/\r < n
noncomputable def zoy (Ψ:Str->Fn):GS:=(gSeq (gIfS (zal (gOp2 (oI yes2 fun i j=>.bl (decide (j < i))) (gArg (gOp2 oIx (zaa 0) (gArg (gC (.int 0))))) (gArg (gC (.int 0))))) (gSeq (gSet [0] 2 (gOp2 (oI (fun _ j=>decide (0 < j)) fun i j=>.int (i % j)) (gArg (gOp2 oIx (zaa 0) (gArg (gC (.int 0))))) (zaa 1))) (gSeq (zay 0 (gC (.int 0)) (gOp2 (oI cDiv fun i j=>.int (i / j)) (gArg (gOp2 oIx (zaa 0) (gArg (gC (.int 0))))) (zaa 1))) (zdq [0] 2))) zbk) (gSeq (zay 0 (gC (.int 2)) (gOp2 oAdd (gArg (gOp2 oIx (zaa 0) (gArg (gC (.int 2))))) (gArg (gC (.int 1))))) (gSeq (gSet [0] 3 (gOp2 (oI (fun _ j=>decide (0 < j)) fun i j=>.int (i % j)) (gArg (gOp2 oMult (gArg (gOp2 oAdd (gArg (gOp2 oAdd (gArg (gOp2 oIx (zaa 0) (gArg (gC (.int 1))))) (gArg (gOp2 oMult (gArg (gOp2 oMult (gArg (gC (.int 65537))) (gArg (gOp2 oIx (zaa 0) (gArg (gC (.int 2))))))) (gArg (gOp2 oIx (zaa 0) (gArg (gC (.int 2))))))))) (gArg (gC (.int 11))))) (gArg (gC (.int 48271))))) (gArg (gC (.int 2305843009213693921))))) (gSeq (gSet [0] 3 (gOp2 (oI (fun _ j=>decide (0 < j)) fun i j=>.int (i % j)) (gArg (gOp2 oMult (zaa 3) (gArg (gOp2 oAdd (gArg (gOp2 (oI (fun _ j=>decide (0 < j)) fun i j=>.int (i % j)) (zaa 3) (gArg (gC (.int 1000003))))) (gArg (gOp2 oMult (gArg (gC (.int 99991))) (gArg (gOp2 oIx (zaa 0) (gArg (gC (.int 2))))))))))) (gArg (gC (.int 2305843009213693907))))) (gRet (gOp2 (oI (fun _ j=>decide (0 < j)) fun i j=>.int (i % j)) (gArg (gOp2 oAdd (gArg (gOp2 (oI cDiv fun i j=>.int (i / j)) (zaa 3) (gArg (gC (.int 97))))) (gArg (gOp2 (oI cDiv fun i j=>.int (i / j)) (zaa 3) (gArg (gC (.int 1000033))))))) (zaa 1)))))))
theorem zj5 (Ψ:Str->Fn):ze0 (zag [true,false] 4 (zoy Ψ)):=by
 rintro k st n ⟨a,b,c,rfl,h0,h1,h2,h3,h4⟩ hk n0 n1;have hb:(k:Int) < 1099511627776:=by have:k < 1099511627776:=hk;omega
 by_cases c1:0 < a
 ·refine ⟨.lst [.int (a / n), .int b, .int c], a % n, ?_, ⟨_, _, _, rfl, Int.ediv_nonneg h0 (by omega), h1, h2, h3, by omega⟩, Int.emod_nonneg _ (by omega), Int.emod_lt_of_pos _ n0⟩;have hd:cDiv a n=true:=zo9 n0 (by omega);simp [zag,zoy,za4,gSeq,gIfS,zal,gOp2,gArg,zaa,gC,resA,oI,yes2,oIx,seqW,atI,ixN,gSet,zay,zdq,zrr,zp6,zr3,c1,n0,hd]
 ·have e1 : oMult (.int 65537) (.int (c + 1)) = some (.int (65537 * (c + 1)), false) := oMult_l (by decide) (by decide);have e2:oMult (.int (65537 * (c+1))) (.int (c+1))=some (.int (65537 * (c+1) * (c+1)),false):=zfa (by omega) (by omega);have e3:oMult (.int (b+65537 * (c+1) * (c+1)+11)) (.int 48271)=some (.int ((b+65537 * (c+1) * (c+1)+11) * 48271),false):=zfa (by decide) (by decide);generalize hx:(b+65537 * (c+1) * (c+1)+11) * 48271=x0 at e3;have e4:oMult (.int 99991) (.int (c+1))=some (.int (99991 * (c+1)),false):=oMult_l (by decide) (by decide);have x1:0<=x0 % 2305843009213693921:=Int.emod_nonneg _ (by decide);have x2:x0 % 2305843009213693921 < 2305843009213693921:=Int.emod_lt_of_pos _ (by decide);have e5:oMult (.int (x0 % 2305843009213693921)) (.int (x0 % 2305843009213693921 % 1000003+99991 * (c+1)))=some (.int (x0 % 2305843009213693921 * (x0 % 2305843009213693921 % 1000003+99991 * (c+1))),false):=oMult_l (by omega) (by omega);have d1:∀i,cDiv i 97=true:=fun i=>zo9 (by decide) (by decide);have d2:∀i,cDiv i 1000033=true:=fun i=>zo9 (by decide) (by decide);refine ⟨.lst [.int a,.int b,.int (c+1)],(x0 % 2305843009213693921 * (x0 % 2305843009213693921 % 1000003+99991 * (c+1)) % 2305843009213693907 / 97+x0 % 2305843009213693921 * (x0 % 2305843009213693921 % 1000003+99991 * (c+1)) % 2305843009213693907 / 1000033) % n,?_,⟨_,_,_,rfl,h0,h1,h2,by omega,by omega⟩,Int.emod_nonneg _ (by omega),Int.emod_lt_of_pos _ n0⟩
  ·simp [zag,zoy,za4,gSeq,gIfS,zal,gOp2,gArg,zaa,gC,resA,oI,yes2,oIx,seqW,atI,ixN,gSet,zay,gRet,zbk,zrr,zp6,zr3,c1,n0,zrv,e1,e2,e3,e4,e5,d1,d2]
end L2
namespace L2
open PySem PySem.Spec PyProof.Rows
theorem seq_nx {a b:GS}{en e1:En} (h:a en=some (e1,.nx)):gSeq a b en=b e1:=by unfold gSeq;rw [h]
theorem z1k {mp:List Nat}{i:Nat}{g:GE}{en e1:En}{r:W × Bool} (h:g en=some (e1,r)) (hi:(mp.contains i || !decide (i < e1.length))=false):gSet mp i g en=some (e1.set i (some r),.nx):=by
 unfold gSet;rw [h];show (if (mp.contains i || !decide (i < e1.length))=true then _ else _)=_;rw [hi]
 rfl
theorem z4z {c:GT}{a b:GS}{en e1:En} (h:c en=some (e1,true)):gIfS c a b en=a e1:=by unfold gIfS;rw [h]
theorem z0j {c:GT}{a b:GS}{en e1:En} (h:c en=some (e1,false)):gIfS c a b en=b e1:=by unfold gIfS;rw [h]
theorem zwi {g:GE}{en e1:En}{b f:Bool} (h:g en=some (e1,(.bl b,f))):zal g en=some (e1,b):=by unfold zal;rw [h]
theorem zyu {g:GE}{en e1:En}{r:W × Bool} (h:g en=some (e1,r)):zff g en=some (e1,.nx):=by unfold zff;rw [h];rfl
theorem zc4 {g:GE}{en e1:En}{r:W × Bool} (h:g en=some (e1,r)):gArg g en=some (e1,.inl r.1):=by unfold gArg;rw [h];rfl
theorem zcd {o:O2}{a b:GA}{en e1 e2:En}{x y:W ⊕ Nat}{w u:W}{r:W × Bool} (h1:a en=some (e1,x)) (h2:b e1=some (e2,y)) (h3:resA e2 x=some w) (h4:resA e2 y=some u) (h5:o w u=some r):gOp2 o a b en=some (e2,r):=by
 unfold gOp2;rw [h1];show (b e1).bind _=_;rw [h2];show (resA e2 x).bind _=_;rw [h3];show (resA e2 y).bind _=_;rw [h4];show (o w u).bind _=_;rw [h5]
 rfl
theorem zzt {o:ON}{as:GAs}{en e1:En}{xs:List (W ⊕ Nat)}{ws:List W}{r:W × Bool} (h1:as en=some (e1,xs)) (h2:zas e1 xs=some ws) (h3:o ws=some r):gOpN o as en=some (e1,r):=by
 unfold gOpN;rw [h1];show (zas e1 xs).bind _=_;rw [h2];show (o ws).bind _=_;rw [h3]
 rfl
theorem zi1 {m:List Bool}{n:Nat}{g:GS}{ws ws' : List W}{en:En}{r:W × Bool} (hl:ws.length=m.length) (h:g (za4 m ws++List.replicate (n - m.length) none)=some (en,.ret r)) (ho:zce m ws en=some ws'):zag m n g ws=some (ws',r):=by
 unfold zag;rw [if_pos hl,h];show (zce m ws en).bind _=_;rw [ho]
 rfl
theorem zcc:∀(ws:List W) (i:Nat),zar (za8 (ws.map Sum.inl)) i=none
  | [],i=>rfl
  | w::ws,i=>by
    have:=zcc ws i;unfold zar za8 at this ⊢;rw [List.map_cons,List.map_cons,List.findIdx?_cons,this]
    rfl
theorem zfm (ws:List W):zb5 (za8 (ws.map Sum.inl))=true:=by
  unfold zb5;refine List.all_eq_true.mpr fun j _=>?_;have:∀i,(za8 (ws.map Sum.inl))[j]?≠some (some i):=fun i=>zcs (zcc ws i) j;cases q:(za8 (ws.map Sum.inl))[j]? with
  | none=>rfl
  | some o =>
    cases o with
    | none=>rfl
    | some i=>exact absurd q (this i)
theorem zrx {cap:Cap}{en ce:En} (h:∀i,zar cap i=none):za1 cap en ce=en:=by
 unfold za1;apply List.ext_getElem?;intro i;rw [List.getElem?_mapIdx];cases en[i]? with
 | none=>rfl
 | some x=>simp only [Option.map_some,h i]
theorem zbv (en:En):∀ws:List W,zas en (ws.map Sum.inl)=some ws
 | []=>rfl
 | w::ws=>by show (some w).bind _=_;show (zas en (ws.map Sum.inl)).bind _=_;rw [zbv en ws];rfl
theorem zds (en:En) (ws:List W):zaq en (ws.map Sum.inl)=true:=by
 unfold zaq;refine List.all_eq_true.mpr fun x hx=>?_;obtain ⟨w,_,rfl⟩:=List.mem_map.mp hx
 rfl
theorem zrb {m:List Bool}{Φ:Fn}{as:GAs}{en e1:En}{ws ws' : List W}{r:W × Bool} (h:as en=some (e1,ws.map Sum.inl)) (hm:(ws.map fun _=>false)=m) (hΦ:Φ ws=some (ws',r)) (hl:ws'.length=ws.length):zae m Φ as en=some (e1,r):=by
 unfold zae;rw [h];show (if (decide ((ws.map Sum.inl).map isR=m) && zaq e1 (ws.map Sum.inl) && zb5 (za8 (ws.map Sum.inl)))=true then _ else _)=_;have e:(ws.map Sum.inl).map isR=m:=by rw [<-hm,List.map_map];rfl
 rw [decide_eq_true e,zds,zfm];show (zas e1 (ws.map Sum.inl)).bind _=_;rw [zbv];show (Φ ws).bind _=_;rw [hΦ];show (if ws'.length=m.length then _ else _)=_;rw [if_pos (by rw [hl,<-hm,List.length_map]),zrx (zcc ws)]
theorem zuu {m:List Bool}{Φ:Fn}{as:GAs}{en e1:En}{i:Nat}{ws wz:List W}{st st' : W}{r:W × Bool} (h:as en=some (e1,.inr i::ws.map Sum.inl)) (hm:(true::ws.map fun _=>false)=m) (hi:e1[i]?=some (some (st,true))) (hΦ:Φ (st::ws)=some (st' :: wz,r)) (hl:wz.length=ws.length):zae m Φ as en=some (e1.set i (some (st',true)),r):=by
  have cp:∀j,zar (za8 (.inr i::ws.map Sum.inl)) j=if j=i then some 0 else none:=fun j=>by
    have:=zcc ws j;unfold zar za8 at this ⊢;rw [List.map_cons,List.findIdx?_cons];by_cases e:j=i
    · subst e;simp
    · have : (some i == some j) = false := by simp; exact fun z => e z.symm
      simp only [this];rw [if_neg e]
      simp_all
  have nd:zb5 (za8 (.inr i::ws.map Sum.inl))=true:=by
    unfold zb5;refine List.all_eq_true.mpr fun j _=>?_;cases j with
    | zero =>
      show (match (za8 (.inr i::ws.map Sum.inl))[0]? with | some (some k)=>zar (za8 (.inr i::ws.map Sum.inl)) k == some 0 | _=>true)=true;show (zar (za8 (.inr i::ws.map Sum.inl)) i == some 0)=true;rw [cp i,if_pos rfl]
      rfl
    | succ j =>
      have:∀k,(za8 (ws.map Sum.inl))[j]?≠some (some k):=fun k=>zcs (zcc ws k) j;have e:(za8 (.inr i::ws.map Sum.inl))[j+1]?=(za8 (ws.map Sum.inl))[j]?:=rfl;rw [e];cases q:(za8 (ws.map Sum.inl))[j]? with
      | none=>rfl
      | some o =>
        cases o with
        | none=>rfl
        | some k=>exact absurd q (this k)
  unfold zae;rw [h];show (if (decide ((.inr i::ws.map Sum.inl).map isR=m) && zaq e1 (.inr i::ws.map Sum.inl) && zb5 (za8 (.inr i::ws.map Sum.inl)))=true then _ else _)=_;have e:(Sum.inr i::ws.map Sum.inl).map isR=m:=by rw [<-hm,List.map_cons,List.map_map];rfl
  have ow:zaq e1 (.inr i::ws.map Sum.inl)=true:=by
    have:=zds e1 ws;unfold zaq at this ⊢;rw [List.all_cons,this];simp only [hi,Bool.and_true]
  rw [decide_eq_true e,ow,nd];have rs:zas e1 (.inr i::ws.map Sum.inl)=some (st::ws):=by
    show (resA e1 (.inr i)).bind _=_;have:resA e1 (.inr i)=some st:=by unfold resA;simp only [hi]
    rw [this];show (zas e1 (ws.map Sum.inl)).bind _=_;rw [zbv]
    rfl
  show (zas e1 (.inr i::ws.map Sum.inl)).bind _=_;rw [rs];show (Φ (st::ws)).bind _=_;rw [hΦ];show (if (st' :: wz).length=m.length then _ else _)=_;rw [if_pos (by rw [<-hm,List.length_cons,List.length_cons,List.length_map,hl])];refine congrArg some (congrArg (·,r) ?_);unfold za1;apply List.ext_getElem?;intro j;rw [List.getElem?_mapIdx];have hi' : i < e1.length:=(List.getElem?_eq_some_iff.mp hi).1;by_cases ej:j=i
  · subst ej
    rw [List.getElem?_set_self hi',hi];simp only [Option.map_some,cp j,if_pos];rw [<-hm]
    rfl
  · rw [List.getElem?_set_ne (Ne.symm ej)]
    cases e1[j]? with
    | none=>rfl
    | some x=>simp only [Option.map_some,cp j,if_neg ej]
theorem zqk {a w:W}{ws:List W}{i:Int} (h:seqW a=some ws) (h2:atI ws i=some w):oIx a (.int i)=some (w,false):=by
 unfold oIx;cases a<;>simp_all
theorem oI_t {c:Int->Int->Bool}{g:Int->Int->W}{i j:Int} (h:c i j=true):oI c g (.int i) (.int j)=some (g i j,false):=by
 show (if c i j then some (g i j,false) else none)=_;rw [if_pos h]
theorem set_0 {mp:List Nat}{i:Nat}{g:GE}{en:En}{r:W × Bool} (h:g en=some (en,r)) (hi:(mp.contains i || !decide (i < en.length))=false):gSet mp i g en=some (en.set i (some r),.nx):=z1k h hi
theorem arg_0 {g:GE}{en:En}{r:W × Bool} (h:g en=some (en,r)):gArg g en=some (en,.inl r.1):=zc4 h
theorem op2_0 {o:O2}{a b:GA}{en:En}{x y:W ⊕ Nat}{w u:W}{r:W × Bool} (h1:a en=some (en,x)) (h2:b en=some (en,y)) (h3:resA en x=some w) (h4:resA en y=some u) (h5:o w u=some r):gOp2 o a b en=some (en,r):=zcd h1 h2 h3 h4 h5
theorem zlg {i:Nat}{k g:GE}{en:En}{w:W}{ws:List W}{n:Int}{j:Nat}{f f2:Bool} (h:g en=some (en,(w,f))) (hk:k en=some (en,(.int n,f2))) (hi:en[i]?=some (some (.lst ws,true))) (hj:ixN ws.length n=some j):zay i k g en=some (en.set i (some (.lst (ws.set j w),true)),.nx):=by
 unfold zay;simp only [h,Option.bind_some,hi,hk,hj]
end L2
namespace L2
open PySem PySem.Spec PyProof.Rows
theorem zmr {α:Type} (x:α):∀n:Nat,(List.replicate n [x]).flatten=List.replicate n x
 | 0=>rfl
 | n+1=>by rw [List.replicate_succ,List.flatten_cons,zmr x n];rfl
end L2
namespace L2
open PySem PySem.Spec PyProof.Rows
noncomputable def z0t (Ψ:Str->Fn):GS:=(gSeq (gSet [] 1 (zcl (gCns (gArg (gC (.int 0))) (gCns (gArg (gC (.int 0))) (gCns (gArg (gC (.int 0))) gA0))))) (gSeq (gIfS (zga (zal (gOp2 (oI yes2 fun i j=>.bl (decide (j < i))) (gArg (gOpN oLen (gCns (zaa 0) gA0))) (gArg (gC (.int 0))))) (zal (gOp2 (oI yes2 fun i j=>.bl (decide (j<=i))) (gArg (gOp2 oIx (zaa 0) (gArg (gC (.int 0))))) (gArg (gOp2 (oI cPow fun i j=>.int (i ^ j.toNat)) (gArg (gC (.int 10))) (gArg (gC (.int 18)))))))) (gSeq (gSet [] 2 (gC (.int 1))) (gFor [] (.nm 3) (zbw (gSl (zaa 0) zb8 (zew (gC (.int 63))))) (gSeq (zay 1 (gC (.int 0)) (gOp2 oAdd (gArg (gOp2 oIx (zaa 1) (gArg (gC (.int 0))))) (gArg (gOp2 oMult (gArg (gOp2 (oI (fun _ j=>decide (0 < j)) fun i j=>.int (i % j)) (gArg (gOpN oAbs (gCns (zaa 3) gA0))) (gArg (gOp2 (oI cPow fun i j=>.int (i ^ j.toNat)) (gArg (gC (.int 10))) (gArg (gC (.int 60))))))) (zaa 2))))) (gSet [] 2 (gOp2 oMult (zaa 2) (gArg (gOp2 (oI cPow fun i j=>.int (i ^ j.toNat)) (gArg (gC (.int 10))) (gArg (gC (.int 60)))))))))) zbk) (gSeq (gFor [] (.tp [4,3]) (zh4 (gSl (zaa 0) zb8 (zew (gC (.int 63))))) (gSeq (gSet [] 5 (gOp2 oAdd (gArg (gOp2 oAdd (gArg (gOp2 (oI (fun _ j=>decide (0 < j)) fun i j=>.int (i % j)) (zaa 3) (gArg (gC (.int 2305843009213693951))))) (gArg (gOp2 oMult (gArg (gC (.int 7919))) (zaa 4))))) (gArg (gC (.int 3))))) (zay 1 (gC (.int 1)) (gOp2 (oI (fun _ j=>decide (0 < j)) fun i j=>.int (i % j)) (gArg (gOp2 oAdd (gArg (gOp2 oMult (gArg (gOp2 oIx (zaa 1) (gArg (gC (.int 1))))) (gArg (gC (.int 48271))))) (zaa 5))) (gArg (gC (.int 2305843009213693951))))))) (zdq [] 1))))
noncomputable def zv3 (Φ:Fn):Prop:=∀ns:List Int,ns.length<=63->∃st,Φ [.frl (ns.map W.int)]=some ([.frl (ns.map W.int)],(st,true))/\HS 0 st
theorem z25 {ns:List Int} (h:ns.length<=63):cutW (ns.map W.int) none (some 63)=ns.map W.int:=by
 unfold cutW;have e1:HT.sIx (ns.map W.int).length 0 none=0:=rfl;have e2:HT.sIx (ns.map W.int).length (ns.map W.int).length (some 63)=(ns.map W.int).length:=by
  have:=HT.sIx_nat (ns.map W.int).length (ns.map W.int).length 63;rw [show ((63:Nat):Int)=63 from rfl] at this;rw [this,List.length_map];omega
 rw [e1,e2,List.drop_zero,Nat.sub_zero,List.take_length]
theorem zum {ns:List Int}{i:Nat}{w:W} (h:(zd3 (ns.map W.int) 0)[i]?=some w):∃hi:i < ns.length,w=.tup [.int i,.int ns[i]]:=by
 have hi:i < ns.length:=by have:=(List.getElem?_eq_some_iff.mp h).1;rw [zbj,List.length_map] at this;exact this
 have:=zcy (ws:=ns.map W.int) (k:=0) (i:=i) (w:=.int ns[i]) (by rw [List.getElem?_map,List.getElem?_eq_getElem hi];rfl);rw [h,Nat.zero_add] at this;exact ⟨hi,sI this⟩
theorem zym (Ψ:Str->Fn):zv3 (zag [false] 6 (z0t Ψ)):=by
  intro ns hl;have p18:cPow 10 18=true:=by decide
  have p60:cPow 10 60=true:=by decide
  have first:∃a0 v2 v3,0<=a0/\gIfS (zga (zal (gOp2 (oI yes2 fun i j=>.bl (decide (j < i))) (gArg (gOpN oLen (gCns (zaa 0) gA0))) (gArg (gC (.int 0))))) (zal (gOp2 (oI yes2 fun i j=>.bl (decide (j<=i))) (gArg (gOp2 oIx (zaa 0) (gArg (gC (.int 0))))) (gArg (gOp2 (oI cPow fun i j=>.int (i ^ j.toNat)) (gArg (gC (.int 10))) (gArg (gC (.int 18)))))))) (gSeq (gSet [] 2 (gC (.int 1))) (gFor [] (.nm 3) (zbw (gSl (zaa 0) zb8 (zew (gC (.int 63))))) (gSeq (zay 1 (gC (.int 0)) (gOp2 oAdd (gArg (gOp2 oIx (zaa 1) (gArg (gC (.int 0))))) (gArg (gOp2 oMult (gArg (gOp2 (oI (fun _ j=>decide (0 < j)) fun i j=>.int (i % j)) (gArg (gOpN oAbs (gCns (zaa 3) gA0))) (gArg (gOp2 (oI cPow fun i j=>.int (i ^ j.toNat)) (gArg (gC (.int 10))) (gArg (gC (.int 60))))))) (zaa 2))))) (gSet [] 2 (gOp2 oMult (zaa 2) (gArg (gOp2 (oI cPow fun i j=>.int (i ^ j.toNat)) (gArg (gC (.int 10))) (gArg (gC (.int 60)))))))))) zbk
      [some (.frl (ns.map W.int),false),some (.lst [.int 0,.int 0,.int 0],true),none,none,none,none]=some ([some (.frl (ns.map W.int),false),some (.lst [.int a0,.int 0,.int 0],true),v2,v3,none,none],.nx):=by
    have ln:(zal (gOp2 (oI yes2 fun i j=>.bl (decide (j < i))) (gArg (gOpN oLen (gCns (zaa 0) gA0))) (gArg (gC (.int 0))))) [some (.frl (ns.map W.int),false),some (.lst [.int 0,.int 0,.int 0],true),none,none,none,none]=some ([some (.frl (ns.map W.int),false),some (.lst [.int 0,.int 0,.int 0],true),none,none,none,none],decide ((0:Int) < ((ns.map W.int).length:Nat))):=rfl;cases ns with
    | nil=>exact ⟨0,none,none,by decide,(z0j (by unfold zga;rw [ln];rfl)).trans rfl⟩
    | cons n0 nr =>
      have t2:(zal (gOp2 (oI yes2 fun i j=>.bl (decide (j<=i))) (gArg (gOp2 oIx (zaa 0) (gArg (gC (.int 0))))) (gArg (gOp2 (oI cPow fun i j=>.int (i ^ j.toNat)) (gArg (gC (.int 10))) (gArg (gC (.int 18))))))) [some (.frl ((n0::nr).map W.int),false),some (.lst [.int 0,.int 0,.int 0],true),none,none,none,none]=some ([some (.frl ((n0::nr).map W.int),false),some (.lst [.int 0,.int 0,.int 0],true),none,none,none,none],decide (10 ^ 18<=n0)) :=
        zwi (zcd (zc4 (zcd rfl rfl rfl rfl (zqk rfl (za2 (i:=0) rfl)))) (zc4 (zcd (x:=.inl (.int 10)) rfl rfl rfl rfl (oI_t p18))) rfl rfl rfl)
      have ln' : decide ((0:Int) < (((n0::nr).map W.int).length:Nat))=true:=decide_eq_true (by simp);rw [ln'] at ln;by_cases c:(10:Int) ^ 18<=n0
      · rw [decide_eq_true c] at t2
        obtain ⟨en',hf,hp⟩:=zbl (mp:=[]) (T:=.nm 3) (it:=zbw (gSl (zaa 0) zb8 (zew (gC (.int 63))))) (body:=(gSeq (zay 1 (gC (.int 0)) (gOp2 oAdd (gArg (gOp2 oIx (zaa 1) (gArg (gC (.int 0))))) (gArg (gOp2 oMult (gArg (gOp2 (oI (fun _ j=>decide (0 < j)) fun i j=>.int (i % j)) (gArg (gOpN oAbs (gCns (zaa 3) gA0))) (gArg (gOp2 (oI cPow fun i j=>.int (i ^ j.toNat)) (gArg (gC (.int 10))) (gArg (gC (.int 60))))))) (zaa 2))))) (gSet [] 2 (gOp2 oMult (zaa 2) (gArg (gOp2 (oI cPow fun i j=>.int (i ^ j.toNat)) (gArg (gC (.int 10))) (gArg (gC (.int 60)))))))))
          (fun i e=>∃a0 wt v3,e=[some (.frl ((n0::nr).map W.int),false),some (.lst [.int a0,.int 0,.int 0],true),some (.int wt,false),v3,none,none]/\0<=a0/\0 < wt/\wt<=2 ^ (200 * i))
          (en:=[some (.frl ((n0::nr).map W.int),false),some (.lst [.int 0,.int 0,.int 0],true),some (.int 1,false),none,none,none]) (e0:=[some (.frl ((n0::nr).map W.int),false),some (.lst [.int 0,.int 0,.int 0],true),some (.int 1,false),none,none,none]) (ws:=(n0::nr).map W.int)
          (by
            show some (_,cutW ((n0::nr).map W.int) none (some 63))=_;rw [z25 hl])
          ⟨0,1,none,rfl,by decide,by decide,by decide⟩
          (by
            rintro i w e hw ⟨a0,wt,v3,rfl,q0,q1,q2⟩;rw [List.getElem?_map] at hw;have hi:i < (n0::nr).length:=by
              rcases Nat.lt_or_ge i (n0::nr).length with z | z
              · exact z
              · rw [List.getElem?_eq_none z] at hw;exact noSome hw
            rw [List.getElem?_eq_getElem hi] at hw;have ew:w=.int (n0::nr)[i]:=(sI hw).symm;subst ew;generalize (n0::nr)[i]=n;have y0:0<=(if n < 0 then -n else n) % (10:Int) ^ 60:=Int.emod_nonneg _ (by decide);have y1:(if n < 0 then -n else n) % (10:Int) ^ 60 < 10 ^ 60:=Int.emod_lt_of_pos _ (by decide);have hb:i<=63:=by omega
            have b1:Builtin.Int.intBits ((if n < 0 then -n else n) % (10:Int) ^ 60)<=2 ^ 20:=zhb (i:=1) y0 (Int.le_trans (Int.le_of_lt y1) (by decide)) (by decide);have b2:Builtin.Int.intBits wt<=2 ^ 20:=zhb (by omega) q2 hb;have m1:=zod b1 b2;have m2:=zod b2 (zhb (w:=10 ^ 60) (i:=1) (by decide) (by decide) (by decide));obtain ⟨r1,r2⟩:=zu2 q1 q2;refine ⟨_,[some (.frl ((n0::nr).map W.int),false),some (.lst [.int (a0+(if n < 0 then -n else n) % (10:Int) ^ 60 * wt),.int 0,.int 0],true),some (.int (wt * 10 ^ 60),false),some (.int n,false),none,none],rfl,.inl ?_,_,_,_,rfl,?_,r1,r2⟩
            · refine (seq_nx (e1 := [some (.frl ((n0 :: nr).map W.int), false), some (.lst [.int (a0 + (if n < 0 then -n else n) % (10 : Int) ^ 60 * wt), .int 0, .int 0], true), some (.int wt, false), some (.int n, false), none, none]) ?_).trans (set_0 (op2_0 rfl (arg_0 (op2_0 (x := .inl (.int 10)) rfl rfl rfl rfl (oI_t p60))) rfl rfl m2) rfl)
              have ge:gOp2 oAdd (gArg (gOp2 oIx (zaa 1) (gArg (gC (.int 0))))) (gArg (gOp2 oMult (gArg (gOp2 (oI (fun _ j=>decide (0 < j)) fun i j=>.int (i % j)) (gArg (gOpN oAbs (gCns (zaa 3) gA0))) (gArg (gOp2 (oI cPow fun i j=>.int (i ^ j.toNat)) (gArg (gC (.int 10))) (gArg (gC (.int 60))))))) (zaa 2))) [some (.frl ((n0::nr).map W.int),false),some (.lst [.int a0,.int 0,.int 0],true),some (.int wt,false),some (.int n,false),none,none]=some ([some (.frl ((n0::nr).map W.int),false),some (.lst [.int a0,.int 0,.int 0],true),some (.int wt,false),some (.int n,false),none,none],(.int (a0+(if n < 0 then -n else n) % (10:Int) ^ 60 * wt),false)) :=
                zcd (zc4 (zcd rfl rfl rfl rfl (zqk rfl (za2 (i:=0) rfl)))) (zc4 (zcd (zc4 (zcd (zc4 (zzt rfl rfl rfl)) (zc4 (zcd (x:=.inl (.int 10)) rfl rfl rfl rfl (oI_t p60))) rfl rfl (oI_t (by decide)))) rfl rfl rfl m1)) rfl rfl rfl
              exact zlg (n:=0) (j:=0) (ws:=[.int a0,.int 0,.int 0]) ge rfl rfl rfl
            · have := Int.mul_nonneg y0 (Int.le_of_lt q1)
              omega)
        refine aG fun _ qG=>?_;obtain ⟨a0,wt,v3,rfl,q0,_⟩:=hp;refine qG ?_;clear qG;exact ⟨a0,_,_,q0,(z4z (by unfold zga;rw [ln];exact t2)).trans ((seq_nx (e1:=[some (.frl ((n0::nr).map W.int),false),some (.lst [.int 0,.int 0,.int 0],true),some (.int 1,false),none,none,none]) rfl).trans hf)⟩
      · rw [decide_eq_false c] at t2
        exact ⟨0,none,none,by decide,(z0j (by unfold zga;rw [ln];exact t2)).trans rfl⟩
  refine aG fun _ qG=>?_;obtain ⟨a0,v2,v3,q0,hfirst⟩:=first
  refine qG ?_;clear qG;obtain ⟨en',hf,hp⟩:=zbl (mp:=[]) (T:=.tp [4,3]) (it:=zh4 (gSl (zaa 0) zb8 (zew (gC (.int 63))))) (body:=(gSeq (gSet [] 5 (gOp2 oAdd (gArg (gOp2 oAdd (gArg (gOp2 (oI (fun _ j=>decide (0 < j)) fun i j=>.int (i % j)) (zaa 3) (gArg (gC (.int 2305843009213693951))))) (gArg (gOp2 oMult (gArg (gC (.int 7919))) (zaa 4))))) (gArg (gC (.int 3))))) (zay 1 (gC (.int 1)) (gOp2 (oI (fun _ j=>decide (0 < j)) fun i j=>.int (i % j)) (gArg (gOp2 oAdd (gArg (gOp2 oMult (gArg (gOp2 oIx (zaa 1) (gArg (gC (.int 1))))) (gArg (gC (.int 48271))))) (zaa 5))) (gArg (gC (.int 2305843009213693951)))))))
    (fun i e=>∃b v3 v4 v5,e=[some (.frl (ns.map W.int),false),some (.lst [.int a0,.int b,.int 0],true),v2,v3,v4,v5]/\0<=b/\b < MM)
    (en:=[some (.frl (ns.map W.int),false),some (.lst [.int a0,.int 0,.int 0],true),v2,v3,none,none]) (e0:=[some (.frl (ns.map W.int),false),some (.lst [.int a0,.int 0,.int 0],true),v2,v3,none,none]) (ws:=zd3 (ns.map W.int) 0)
    (by
      show some (_,zd3 (cutW (ns.map W.int) none (some 63)) 0)=_;rw [z25 hl])
    ⟨0,v3,none,none,rfl,by decide,by decide⟩
    (by
      rintro i w e hw ⟨b,v3,v4,v5,rfl,q1,q2⟩;obtain ⟨hi,rfl⟩:=zum hw;generalize ns[i]=n;have hm:MM=2305843009213693951:=rfl;have m1:oMult (.int 7919) (.int (i:Nat))=some (.int (7919 * (i:Nat)),false):=oMult_l (by decide) (by decide);have m2:oMult (.int b) (.int 48271)=some (.int (b * 48271),false):=zfa (by decide) (by decide);refine ⟨_,[some (.frl (ns.map W.int),false),some (.lst [.int a0,.int ((b * 48271+(n % 2305843009213693951+7919 * (i:Nat)+3)) % 2305843009213693951),.int 0],true),v2,some (.int n,false),some (.int (i:Nat),false),some (.int (n % 2305843009213693951+7919 * (i:Nat)+3),false)],rfl,.inl ?_,_,_,_,_,rfl,Int.emod_nonneg _ (by decide),Int.emod_lt_of_pos _ (by decide)⟩;refine (seq_nx (e1:=[some (.frl (ns.map W.int),false),some (.lst [.int a0,.int b,.int 0],true),v2,some (.int n,false),some (.int (i:Nat),false),some (.int (n % 2305843009213693951+7919 * (i:Nat)+3),false)]) (set_0 (op2_0 (arg_0 (op2_0 (arg_0 (op2_0 rfl rfl rfl rfl (oI_t (by decide)))) (arg_0 (op2_0 (x:=.inl (.int 7919)) rfl rfl rfl rfl m1)) rfl rfl rfl)) rfl rfl rfl rfl) rfl)).trans ?_;have ge:gOp2 (oI (fun _ j=>decide (0 < j)) fun i j=>.int (i % j)) (gArg (gOp2 oAdd (gArg (gOp2 oMult (gArg (gOp2 oIx (zaa 1) (gArg (gC (.int 1))))) (gArg (gC (.int 48271))))) (zaa 5))) (gArg (gC (.int 2305843009213693951))) [some (.frl (ns.map W.int),false),some (.lst [.int a0,.int b,.int 0],true),v2,some (.int n,false),some (.int (i:Nat),false),some (.int (n % 2305843009213693951+7919 * (i:Nat)+3),false)]=some ([some (.frl (ns.map W.int),false),some (.lst [.int a0,.int b,.int 0],true),v2,some (.int n,false),some (.int (i:Nat),false),some (.int (n % 2305843009213693951+7919 * (i:Nat)+3),false)],(.int ((b * 48271+(n % 2305843009213693951+7919 * (i:Nat)+3)) % 2305843009213693951),false)) :=
        zcd (zc4 (zcd (zc4 (zcd (zc4 (zcd rfl rfl rfl rfl (zqk rfl (za2 (i:=1) rfl)))) rfl rfl rfl m2)) rfl rfl rfl rfl)) rfl rfl rfl (oI_t (by decide))
      exact zlg (n:=1) (j:=1) (ws:=[.int a0,.int b,.int 0]) ge rfl rfl rfl)
  refine aG fun _ qG=>?_;obtain ⟨b,w3,w4,w5,rfl,q1,q2⟩:=hp;refine qG ?_;clear qG;refine ⟨.lst [.int a0,.int b,.int 0],zi1 (en:=[some (.frl (ns.map W.int),false),none,v2,w3,w4,w5]) rfl ?_ rfl,⟨_,_,_,rfl,q0,q1,q2,by decide,by decide⟩⟩;exact (seq_nx (e1:=[some (.frl (ns.map W.int),false),some (.lst [.int 0,.int 0,.int 0],true),none,none,none,none]) rfl).trans ((seq_nx hfirst).trans ((seq_nx hf).trans rfl))
end L2
namespace L2
open PySem PySem.Spec PyProof.Rows
noncomputable def zx2 (Φ:Fn):Prop:=∀a b:Int,Φ [.int a,.int b]=some ([.int a,.int b],(.bl (decide (a=b)),false))
end L2
namespace L2
open PySem PySem.Spec PyProof.Rows
theorem zqx (a b x y:Nat) (hx:x < 2) (hy:y < 2):(2 * a+x) &&& (2 * b+y)=2 * (a &&& b)+x * y:=by
 have h1:((2 * a+x) &&& (2 * b+y)) / 2=a &&& b:=by
  have:=Nat.and_div_two_pow (n:=1) (a:=2 * a+x) (b:=2 * b+y);rw [Nat.pow_one] at this;rw [this];have e1:(2 * a+x) / 2=a:=by omega
  have e2:(2 * b+y) / 2=b:=by omega
  rw [e1,e2]
 have h2:((2 * a+x) &&& (2 * b+y)) % 2=x * y:=by
  have:=Nat.and_mod_two_pow (n:=1) (a:=2 * a+x) (b:=2 * b+y);rw [Nat.pow_one] at this;rw [this];have e1:(2 * a+x) % 2=x:=by omega
  have e2:(2 * b+y) % 2=y:=by omega
  rw [e1,e2];have:x=0\/x=1:=by omega
  have:y=0\/y=1:=by omega
  rcases ‹x=0\/x=1› with rfl | rfl<;>rcases ‹y=0\/y=1› with rfl | rfl<;>rfl
 omega
noncomputable def Bit (x:Int):Prop:=x=0\/x=1
theorem zsc {a b x y:Int} (ha:0<=a) (hb:0<=b) (hx:Bit x) (hy:Bit y):Builtin.bitAnd (2 * a+x) (2 * b+y)=2 * Builtin.bitAnd a b+x * y:=by
 have x0:0<=x/\x < 2:=by rcases hx with rfl | rfl<;>decide
 have y0:0<=y/\y < 2:=by rcases hy with rfl | rfl<;>decide
 rw [bitAnd_pp (by omega) (by omega),bitAnd_pp ha hb];have e1:(2 * a+x).toNat=2 * a.toNat+x.toNat:=by omega
 have e2:(2 * b+y).toNat=2 * b.toNat+y.toNat:=by omega
 rw [e1,e2,zqx _ _ _ _ (by omega) (by omega)];rcases hx with rfl | rfl<;>rcases hy with rfl | rfl<;>simp
theorem zhc (x y:Int):Builtin.bitXor x y=x+y - 2 * Builtin.bitAnd x y:=by
 show Builtin.bitOr x y - Builtin.bitAnd x y=_;rw [bitOr_and];omega
theorem zsb {a b x y:Int} (ha:0<=a) (hb:0<=b) (hx:Bit x) (hy:Bit y):Builtin.bitXor (2 * a+x) (2 * b+y)=2 * Builtin.bitXor a b+(x+y - 2 * (x * y)):=by
 rw [zhc,zhc,zsc ha hb hx hy];omega
theorem xor_zero (x:Int):Builtin.bitXor x 0=x:=by rw [zhc,bitAnd_zero];omega
theorem zero_xor (x:Int):Builtin.bitXor 0 x=x:=by rw [zhc,bitAnd_comm,bitAnd_zero];omega
theorem Bits.head {x:Int}{xs:List Int} (h:Bits (x::xs)):Bit x:=h x List.mem_cons_self
theorem Bits.tail {x:Int}{xs:List Int} (h:Bits (x::xs)):Bits xs:=fun y hy=>h y (List.mem_cons_of_mem _ hy)
theorem zp5 {xs:List Int} (h:Bits xs):0<=zbm xs:=(zfp h).1
theorem zjh (x:Int) (xs:List Int):zbm (x::xs)=2 * zbm xs+x:=rfl
end L2
namespace L2
open PySem PySem.Spec PyProof.Rows
noncomputable def dif (a b:Int):Int:=if !decide (a=b) then 1 else 0
theorem zye {a b:Int} (ha:Bit a) (hb:Bit b):a+b - 2 * (a * b)=dif a b:=by
 rcases ha with rfl | rfl<;>rcases hb with rfl | rfl<;>decide
theorem zju:∀{xs ys:List Int},Bits xs->Bits ys->xs.length=ys.length->Builtin.bitXor (zbm xs) (zbm ys)=zbm (List.zipWith dif xs ys)
  | [],[],_,_,_=>xor_zero 0
  | [],_::_,_,_,h=>by cases h
  | _::_,[],_,_,h=>by cases h
  | x::xs,y::ys,h1,h2,hl=>by
    rw [zjh,zjh,zsb (zp5 h1.tail) (zp5 h2.tail) h1.head h2.head,zju h1.tail h2.tail (by simpa using hl),zye h1.head h2.head]
    rfl
noncomputable def zs4 (Φ:Fn):Prop:=∀xs:List Int,Bits xs->xs.length<=1000->Φ [.int (zbm xs)]=some ([.int (zbm xs)],(.int xs.sum,false))
end L2
namespace L2
open PySem PySem.Spec PyProof.Rows
theorem zxr {as:GAs}{en e1:En}{xs:List (W ⊕ Nat)}{j:Int} (h:as en=some (e1,xs)) (h2:zas e1 xs=some [.int j]) (h3:zcu j=true):zca as en=some (e1,rngW 0 j.toNat):=by
 unfold zca;rw [h];show (match zas e1 xs with | some [.int j]=>if zcu j then some (e1,rngW 0 j.toNat) else none | _=>none)=_;rw [h2];show (if zcu j then some (e1,rngW 0 j.toNat) else none)=_;rw [if_pos h3]
theorem zy5 {as:GAs}{en e1:En}{xs:List (W ⊕ Nat)}{i j:Int} (h:as en=some (e1,xs)) (h2:zas e1 xs=some [.int i,.int j]) (h3:zcu i=true) (h4:zcu j=true):zk3 as en=some (e1,rngW i (j - i).toNat):=by
 unfold zk3;rw [h];show (match zas e1 xs with | some [.int i,.int j]=>if zcu i && zcu j then some (e1,rngW i (j - i).toNat) else none | _=>none)=_;rw [h2];show (if zcu i && zcu j then some (e1,rngW i (j - i).toNat) else none)=_;rw [if_pos (by rw [h3,h4];rfl)]
end L2
namespace L2
open PySem PySem.Spec PyProof.Rows
noncomputable def tab (n:Nat) (f:Nat->Int):List Int:=(List.range n).map f
theorem zdm (n:Nat) (f:Nat->Int):(tab n f).length=n:=by unfold tab;rw [List.length_map,List.length_range]
theorem zhq {n:Nat}{f:Nat->Int}{i:Nat} (h:i < n):(tab n f)[i]?=some (f i):=by unfold tab;rw [List.getElem?_map,List.getElem?_range h];rfl
theorem zy4 {n:Nat}{f g:Nat->Int} (h:∀i,i < n->f i=g i):tab n f=tab n g:=by
 unfold tab;refine List.map_congr_left fun i hi=>h i (List.mem_range.mp hi)
theorem tab_of (xs:List Int):tab xs.length (fun i=>xs.getD i 0)=xs:=by
 apply List.ext_getElem?;intro i;by_cases h:i < xs.length
 ·rw [zhq h,List.getD_eq_getElem?_getD,List.getElem?_eq_getElem h];rfl
 ·rw [List.getElem?_eq_none (by rw [zdm];omega),List.getElem?_eq_none (by omega)]
theorem zht {n:Nat}{f:Nat->Int} (h:∀i,i < n->Bit (f i)):Bits (tab n f):=fun x hx=>by
 obtain ⟨i,hi,rfl⟩:=List.mem_map.mp hx;exact h i (List.mem_range.mp hi)
noncomputable def six6 (m j:Int):Prop:=(0<=j/\j < m/\m<=6)
theorem pairs {m j:Int} (h:six6 m j):(m=1/\j=0)\/(m=2/\(j=0\/j=1))\/(m=3/\(j=0\/j=1\/j=2))\/(m=4/\(j=0\/j=1\/j=2\/j=3))\/(m=5/\(j=0\/j=1\/j=2\/j=3\/j=4))\/(m=6/\(j=0\/j=1\/j=2\/j=3\/j=4\/j=5)):=by
 obtain ⟨h1,h2,h3⟩:=h;omega
end L2
namespace L2
open PySem PySem.Spec PyProof.Rows
theorem zue (n:Nat) (f:Nat->Int):tab (n+1) f=tab n f++[f n]:=by unfold tab;rw [List.range_succ,List.map_append];rfl
theorem ztu {n:Nat}{f:Nat->Int}{i:Nat} (h:i < n):((tab n f).map W.int)[i]?=some (.int (f i)):=by rw [List.getElem?_map,zhq h];rfl
end L2
namespace L2
open PySem PySem.Spec PyProof.Rows
noncomputable def zbg (p:Nat):List Nat:=(List.range (p+1)).filter fun o=>o &&& p == o
noncomputable def coefF (f:Nat->Int) (p:Nat):Int:=((zbg p).map f).sum % 2
noncomputable def evS (L:List Nat) (f:Nat->Int) (S:Nat):Int:=((L.filter fun i=>S.testBit i).map f).sum
theorem zvf (f:Nat->Int) (A B:Nat):∀L:List Nat,evS L f (A ^^^ B) % 2=(evS L f A+evS L f B) % 2
  | []=>rfl
  | i::L=>by
    have ih:=zvf f A B L;unfold evS at ih ⊢;rw [List.filter_cons,List.filter_cons,List.filter_cons,Nat.testBit_xor];cases A.testBit i<;>cases B.testBit i<;>simp only [Bool.xor_false,Bool.xor_true,Bool.not_true,Bool.not_false,if_true,if_false,List.map_cons,List.sum_cons,Bool.false_eq_true]<;>omega
noncomputable def itS:Nat->Nat->Nat
 | 0,i=>2 ^ i
 | k+1,i=>if i / 2 ^ k % 2=1 then itS k i ^^^ itS k (i - 2 ^ k) else itS k i
theorem zwf:∀i:Fin 64,(List.range 64).filter (fun j=>(2 ^ i.val).testBit j)=[i.val]:=by decide +kernel
theorem zxz:∀m:Fin 7,∀p:Fin (2 ^ m.val),(List.range 64).filter (fun j=>(itS m.val p.val).testBit j)=zbg p.val:=by decide +kernel
theorem zj1 {p o:Nat} (h:o∈zbg p):o<=p:=by
 have:=List.mem_range.mp (List.mem_filter.mp h).1;omega
end L2
namespace L2
open PySem PySem.Spec PyProof.Rows
theorem zxn (g:Nat->Int) {t:Nat} (ht:t < 64):coefF g t=evS (List.range 64) g (itS 6 t) % 2:=by
 unfold evS coefF;rw [zxz ⟨6,by decide⟩ ⟨t,ht⟩]
end L2
namespace L2
open PySem PySem.Spec PyProof.Rows
noncomputable def dueL (f:Nat->Int) (n:Nat):List Nat:=(List.range n).filter fun p=>decide (f p=1)
noncomputable def zab (M:List Nat):List W:=M.map fun p:Nat=>W.int p
theorem zso (M:List Nat):zab M=(M.map fun p:Nat=>(p:Int)).map W.int:=by unfold zab;rw [List.map_map];rfl
theorem zap (M:List Nat):(zab M).length=M.length:=List.length_map ..
theorem zcb {M:List Nat}{i:Nat}{w:W} (h:(zab M)[i]?=some w):∃p,M[i]?=some p/\w=.int (p:Nat):=by
 unfold zab at h;rw [List.getElem?_map] at h;obtain ⟨p,h1,h2⟩:=Option.map_eq_some_iff.mp h;exact ⟨p,h1,h2.symm⟩
theorem z0a {i:Nat}{g g' : GE}{en e1 e2:En}{us ws:List W}{k:Int}{f:Bool}{r:W × Bool} (h0:en[i]?=some (some (.lst us,true))) (h1:g en=some (e1,(.int k,f))) (h2:g' e1=some (e2,r)) (h3:e2[i]?=some (some (.lst ws,true))) (hk:0<=k/\k.toNat<=ws.length/\ws.length < sizeLine):gIns i g g' en=some (e2.set i (some (.lst (ws.take k.toNat++r.1::ws.drop k.toNat),true)),(.non,false)):=by
 unfold gIns;rw [h0];show (g en).bind _=_;rw [h1];show (g' e1).bind _=_;rw [h2];show (match e2[i]? with | some (some (.lst ws,true))=>if 0<=k/\k.toNat<=ws.length/\ws.length < sizeLine then some (e2.set i (some (.lst (ws.take k.toNat++r.1::ws.drop k.toNat),true)),(W.non,false)) else none | _=>none)=_;rw [h3];exact if_pos hk
end L2
namespace L2
open PySem PySem.Spec PyProof.Rows
theorem zcf:∀ws:List W,za3 (ws.map Sum.inl)=some ws
 | []=>rfl
 | w::ws=>by show (za3 (ws.map Sum.inl)).bind _=_;rw [zcf ws];rfl
theorem zev:∀{xs:List (W ⊕ Nat)}{ws:List W},za3 xs=some ws->xs=ws.map Sum.inl
  | [],_,e=>by obtain rfl:=sI e;rfl
  | .inl w::xs,_,e=>by
    obtain ⟨ws,h,e⟩:=bS (show (za3 xs).bind _=_ from e);obtain rfl:=sI e;rw [zev h];rfl
  | .inr _::_,_,e=>by exact noSome e
theorem zjy {xs:List (W ⊕ Nat)} (m:List Bool) (hm:(m.all fun b=>!b)=true) (h:xs.map isR=m):∃ws:List W,xs=ws.map Sum.inl:=by
  induction xs generalizing m with
  | nil=>exact ⟨[],rfl⟩
  | cons x xs ih =>
    cases m with
    | nil=>cases h
    | cons b m =>
      rw [List.map_cons] at h;injection h with h1 h2;rw [List.all_cons,Bool.and_eq_true] at hm;obtain ⟨ws,e⟩:=ih m hm.2 h2;cases x with
      | inl w=>exact ⟨w::ws,by rw [e];rfl⟩
      | inr i=>rw [<-h1] at hm;cases hm.1
theorem zeu:∀{m:List Bool} (hm:(m.all fun b=>!b)=true) (ws:List W),ws.length=m.length->(ws.map fun _=>false)=m
  | [],_,[],_=>rfl
  | [],_,_::_,h=>by cases h
  | _::_,_,[],h=>by cases h
  | b::m,hm,w::ws,h=>by
    rw [List.all_cons,Bool.and_eq_true] at hm;rw [List.map_cons,zeu hm.2 ws (by simpa using h)];cases b with
    | false=>rfl
    | true=>cases hm.1
theorem zcg (m:List Bool) (Φ:Fn) (as:GAs) (en:En) (hm:(m.all fun b=>!b)=true):zae m Φ as en=(as en).bind fun p=>(za3 p.2).bind fun ws=>if ws.length=m.length then (Φ ws).bind fun q=>if q.1.length=m.length then some (p.1,q.2) else none else none:=by
  cases ha:as en with
  | none=>unfold zae;rw [ha];rfl
  | some p =>
    obtain ⟨e1,xs⟩:=p;show _=(za3 xs).bind _;cases hf:za3 xs with
    | none =>
      unfold zae;rw [ha];show (if (decide (xs.map isR=m) && _ && _)=true then _ else none)=none;rw [decide_eq_false (fun z=>by obtain ⟨ws,e⟩:=zjy m hm z;rw [e,zcf] at hf;cases hf)]
      rfl
    | some ws =>
      have ex:=zev hf;subst ex;show _=if ws.length=m.length then _ else none;by_cases hl:ws.length=m.length
      · rw [if_pos hl]
        have h1:=zeu hm ws hl;cases hq:Φ ws with
        | none =>
          unfold zae;rw [ha];show (if (decide ((ws.map Sum.inl).map isR=m) && zaq e1 (ws.map Sum.inl) && zb5 (za8 (ws.map Sum.inl)))=true then _ else _)=_;have e:(ws.map Sum.inl).map isR=m:=by rw [<-h1,List.map_map];rfl
          rw [decide_eq_true e,zds,zfm];show (zas e1 (ws.map Sum.inl)).bind _=_;rw [zbv];show (Φ ws).bind _=_;rw [hq]
          rfl
        | some q =>
          obtain ⟨ws',r⟩:=q;show _=if ws'.length=m.length then some (e1,r) else none;by_cases hl2:ws'.length=m.length
          · rw [if_pos hl2]
            exact zrb ha h1 hq (by omega)
          · rw [if_neg hl2]
            unfold zae;rw [ha];show (if (decide ((ws.map Sum.inl).map isR=m) && zaq e1 (ws.map Sum.inl) && zb5 (za8 (ws.map Sum.inl)))=true then _ else _)=_;have e:(ws.map Sum.inl).map isR=m:=by rw [<-h1,List.map_map];rfl
            rw [decide_eq_true e,zds,zfm];show (zas e1 (ws.map Sum.inl)).bind _=_;rw [zbv];show (Φ ws).bind _=_;rw [hq];show (if ws'.length=m.length then _ else none)=none;rw [if_neg hl2]
      · rw [if_neg hl]
        unfold zae;rw [ha];show (if (decide ((ws.map Sum.inl).map isR=m) && _ && _)=true then _ else none)=none;rw [decide_eq_false (fun z=>hl (by rw [<-z,List.length_map,List.length_map]))]
        rfl
theorem zdb (m:List Bool) (Φ:Fn) (as:GAs) (en:En) (hm:(m.all fun b=>!b)=true):zae (true::m) Φ as en=(as en).bind fun p=>match p.2 with
    | .inr i::xs=>(za3 xs).bind fun ws=>(match p.1[i]? with
      | some (some (st,true))=>if ws.length=m.length then (Φ (st::ws)).bind fun q=>(match q.1 with
        | st' :: wz=>if wz.length=m.length then some (p.1.set i (some (st',true)),q.2) else none
        | []=>none) else none
      | _=>none)
    | _=>none:=by
  cases ha:as en with
  | none=>unfold zae;rw [ha];rfl
  | some p =>
    obtain ⟨e1,xs⟩:=p;have base:zae (true::m) Φ as en=if decide (xs.map isR=true::m) && zaq e1 xs && zb5 (za8 xs) then (zas e1 xs).bind fun ws=>(Φ ws).bind fun q=>if q.1.length=(true::m).length then some (za1 (za8 xs) e1 (za4 (true::m) q.1),q.2) else none else none:=by
      unfold zae;rw [ha];rfl
    have bad:xs.map isR≠true::m->zae (true::m) Φ as en=none:=fun z=>by rw [base,decide_eq_false z];rfl
    have bad2:zaq e1 xs=false->zae (true::m) Φ as en=none:=fun z=>by rw [base,z,Bool.and_false];rfl
    simp only [Option.bind_some]
    match xs,ha,base,bad,bad2 with
    | [],ha,_,bad,_=>rw [bad (by simp)]
    | .inl w::xs,ha,_,bad,_=>rw [bad (by simp [isR])]
    | .inr i::xs,ha,base,bad,bad2 =>
      simp only;cases hf:za3 xs with
      | none=>rw [bad (fun z=>by
          rw [List.map_cons] at z;injection z with _ z;obtain ⟨ws,e⟩:=zjy m hm z;rw [e,zcf] at hf;cases hf)];rfl
      | some ws =>
        have ex:=zev hf;subst ex;simp only [Option.bind_some];have no:(∀st,e1[i]?≠some (some (st,true)))->zaq e1 (.inr i::ws.map Sum.inl)=false:=fun z=>by
          unfold zaq;rw [List.all_cons];have:(match e1[i]? with | some (some (_,true))=>true | _=>false)=false:=by
            split
            · rename_i q;exact absurd q (z _)
            · rfl
          simp only [this,Bool.false_and]
        split
        · rename_i st hst
          by_cases hl:ws.length=m.length
          · rw [if_pos hl]
            have h1:=zeu hm ws hl;cases hq:Φ (st::ws) with
            | none =>
              rw [base];split
              · have rs:zas e1 (.inr i::ws.map Sum.inl)=some (st::ws):=by
                  show (resA e1 (.inr i)).bind _=_;have:resA e1 (.inr i)=some st:=by unfold resA;simp only [hst]
                  rw [this];show (zas e1 (ws.map Sum.inl)).bind _=_;rw [zbv]
                  rfl
                rw [rs];show (Φ (st::ws)).bind _=_;rw [hq]
                rfl
              · rfl
            | some q =>
              obtain ⟨ws',r⟩:=q;simp only [Option.bind_some];have nn:ws'.length≠(true::m).length->zae (true::m) Φ as en=none:=fun z=>by
                rw [base];split
                · have rs:zas e1 (.inr i::ws.map Sum.inl)=some (st::ws):=by
                    show (resA e1 (.inr i)).bind _=_;have:resA e1 (.inr i)=some st:=by unfold resA;simp only [hst]
                    rw [this];show (zas e1 (ws.map Sum.inl)).bind _=_;rw [zbv]
                    rfl
                  rw [rs];show (Φ (st::ws)).bind _=_;rw [hq];show (if ws'.length=(true::m).length then _ else none)=none;rw [if_neg z]
                · rfl
              match ws',hq,nn with
              | [],hq,nn=>rw [nn (by simp)]
              | st' :: wz,hq,nn =>
                simp only;by_cases hl2:wz.length=m.length
                · rw [if_pos hl2]
                  exact zuu ha (by rw [h1]) hst hq (by omega)
                · rw [if_neg hl2,nn (by simpa using hl2)]
          · rw [if_neg hl,bad (fun z=>hl (by
              have:=congrArg List.length z;simpa using this))]
        · rename_i hst
          exact bad2 (no fun st z=>hst st z)
end L2
namespace L2
open PySem PySem.Spec PyProof.Rows
theorem oI_e {c:Int->Int->Bool}{g:Int->Int->W}{i j:Int}:oI c g (.int i) (.int j)=if c i j then some (g i j,false) else none:=rfl
theorem zzr {i j:Int}:yes2 i j=true:=rfl
theorem zr4 {ws:List W}:seqW (.tup ws)=some ws:=rfl
theorem zui {ws:List W}:seqW (.lst ws)=some ws:=rfl
theorem ztl {ws:List W}:seqL (.lst ws)=some ws:=rfl
theorem z3j {a:W}{i:Int}:oIx a (.int i)=(seqW a).bind fun ws=>(atI ws i).bind fun w=>some (w,false):=by cases a<;>rfl
theorem z23 {en:En}{w:W}:resA en (.inl w)=some w:=rfl
theorem z1y {en:En}{i:Nat}:resA en (.inr i)=match en[i]? with | some (some (w,_))=>some w | _=>none:=by
 unfold resA;rfl
theorem z4i {i j:Int}:oEq (.int i) (.int j)=some (.bl (decide (i=j)),false):=rfl
theorem z3f {i j:Int}:oNe (.int i) (.int j)=some (.bl (!decide (i=j)),false):=rfl
theorem zr9 {w:W}{xs:List (W ⊕ Nat)}:za3 (.inl w::xs)=(za3 xs).bind fun ws=>some (w::ws):=rfl
theorem ztw:za3 []=some []:=rfl
theorem zzc {en:En}{x:W ⊕ Nat}{xs:List (W ⊕ Nat)}:zas en (x::xs)=(resA en x).bind fun w=>(zas en xs).bind fun ws=>some (w::ws):=rfl
theorem zzm {en:En}:zas en []=some []:=rfl
theorem zyq {b:Bool}{m:List Bool}{w:W}{ws:List W}:za4 (b::m) (w::ws)=some (w,b)::za4 m ws:=rfl
theorem zwv {ws:List W}:za4 [] ws=[]:=by unfold za4;simp
theorem z0f {en:En}:zce [] [] en=some []:=rfl
theorem zzz {m:List Bool}{w u:W}{ws:List W}{en:En}:zce (true::m) (u::ws) (some (w,true)::en)=(zce m ws en).bind fun r=>some (w::r):=rfl
theorem z1m {m:List Bool}{w:W}{ws:List W}{x:Option (W × Bool)}{en:En}:zce (false::m) (w::ws) (x::en)=(zce m ws en).bind fun r=>some (w::r):=rfl
theorem z4w {x:W}{xs:List W}:atI (x::xs) 0=some x:=by
 have:=za2 (xs:=x::xs) (i:=0) rfl;exact this
theorem z4o {x y:W}{xs:List W}:atI (x::y::xs) 1=some y:=by
 have:=za2 (xs:=x::y::xs) (i:=1) rfl;exact this
theorem z4e {x y z:W}{xs:List W}:atI (x::y::z::xs) 2=some z:=by
 have:=za2 (xs:=x::y::z::xs) (i:=2) rfl;exact this
theorem zsh {n:Nat}:((no_index (OfNat.ofNat n):Nat):Int)=(OfNat.ofNat n:Int):=rfl
theorem zsu {xs ys:List W}:oAdd (.lst xs) (.lst ys)=if xs.length+ys.length<=sizeLine then some (.lst (xs++ys),true) else none:=by
 by_cases h:xs.length+ys.length<=sizeLine
 ·rw [if_pos h];exact zyh h
 ·rw [if_neg h];show oOr oCat (oOr zul (oOr zxc zs7)) (.lst xs) (.lst ys)=none;have e:oCat (.lst xs) (.lst ys)=none:=by
   show (if xs.length+ys.length<=sizeLine then _ else none)=none;rw [if_neg h]
  unfold oOr;rw [e]
  rfl
theorem zvh {ws:List W}{r:Int} (h0:0<=r) (h:r < (ws.length:Nat)):∃w,atI ws r=some w/\w∈ws:=by
 have lt:r.toNat < ws.length:=by omega
 refine ⟨ws[r.toNat],?_,List.getElem_mem _⟩;have:=za2 (xs:=ws) (i:=r.toNat) (List.getElem?_eq_getElem lt);rw [Int.toNat_of_nonneg h0] at this;exact this
theorem zj6:oIsi .int .non=some (.bl false,false):=rfl
theorem zna {b:Bool}:oIsi .int (.bl b)=some (.bl true,false):=rfl
theorem zla {n:Int}:oIsi .int (.int n)=some (.bl true,false):=rfl
theorem zkb {x:Str}:oIsi .int (.str x)=some (.bl false,false):=rfl
theorem zkq {xs:List W}:oIsi .int (.tup xs)=some (.bl false,false):=rfl
theorem zlf {xs:List W}:oIsi .int (.lst xs)=some (.bl false,false):=rfl
theorem zkh:oIsi .int .dic=some (.bl false,false):=rfl
theorem zib:oIsi .bool .non=some (.bl false,false):=rfl
theorem zk4 {b:Bool}:oIsi .bool (.bl b)=some (.bl true,false):=rfl
theorem zjp {n:Int}:oIsi .bool (.int n)=some (.bl false,false):=rfl
theorem zh6 {x:Str}:oIsi .bool (.str x)=some (.bl false,false):=rfl
theorem zi6 {xs:List W}:oIsi .bool (.tup xs)=some (.bl false,false):=rfl
theorem zi7 {xs:List W}:oIsi .bool (.lst xs)=some (.bl false,false):=rfl
theorem zil:oIsi .bool .dic=some (.bl false,false):=rfl
theorem zk7:oIsi .str .non=some (.bl false,false):=rfl
theorem zmz {b:Bool}:oIsi .str (.bl b)=some (.bl false,false):=rfl
theorem zkz {n:Int}:oIsi .str (.int n)=some (.bl false,false):=rfl
theorem zkj {x:Str}:oIsi .str (.str x)=some (.bl true,false):=rfl
theorem zkx {xs:List W}:oIsi .str (.tup xs)=some (.bl false,false):=rfl
theorem zka {xs:List W}:oIsi .str (.lst xs)=some (.bl false,false):=rfl
theorem zj8:oIsi .str .dic=some (.bl false,false):=rfl
theorem zg9:oIsi .tuple .non=some (.bl false,false):=rfl
theorem zi4 {b:Bool}:oIsi .tuple (.bl b)=some (.bl false,false):=rfl
theorem zhl {n:Int}:oIsi .tuple (.int n)=some (.bl false,false):=rfl
theorem zg6 {x:Str}:oIsi .tuple (.str x)=some (.bl false,false):=rfl
theorem zhs {xs:List W}:oIsi .tuple (.tup xs)=some (.bl true,false):=rfl
theorem zgw {xs:List W}:oIsi .tuple (.lst xs)=some (.bl false,false):=rfl
theorem zha:oIsi .tuple .dic=some (.bl false,false):=rfl
theorem zjq:oIsi .list .non=some (.bl false,false):=rfl
theorem zks {b:Bool}:oIsi .list (.bl b)=some (.bl false,false):=rfl
theorem zjw {n:Int}:oIsi .list (.int n)=some (.bl false,false):=rfl
theorem zid {x:Str}:oIsi .list (.str x)=some (.bl false,false):=rfl
theorem zio {xs:List W}:oIsi .list (.tup xs)=some (.bl false,false):=rfl
theorem zjx {xs:List W}:oIsi .list (.lst xs)=some (.bl true,false):=rfl
theorem zja:oIsi .list .dic=some (.bl false,false):=rfl
theorem z3g {i j:Bool}:oEq (.bl i) (.bl j)=some (.bl (decide (i=j)),false):=rfl
theorem z3v {i j:Bool}:oNe (.bl i) (.bl j)=some (.bl (!decide (i=j)),false):=rfl
theorem z3o {i j:Str}:oEq (.str i) (.str j)=some (.bl (decide (i=j)),false):=rfl
theorem z39 {i j:Str}:oNe (.str i) (.str j)=some (.bl (!decide (i=j)),false):=rfl
theorem z4g {i j:Bool}:oIs (.bl i) (.bl j)=some (.bl (decide (i=j)),false):=rfl
theorem z0d {f:List Bool->Bool}{bs:List Bool}:oBl f [.lst (bs.map W.bl)]=some (.bl (f bs),false):=by
 show (zj7 (bs.map W.bl)).bind _=_;rw [zh5];rfl
theorem zgo {cap:Cap}{it:GL}{te:GE}{en e0:En}{ws rs:List W}{xs:En} (hi:it en=some (e0,ws)) (hz:ws.length<=1000) (hl:rs.length=ws.length) (hn:zb5 cap=true) (hk:(capKeep cap).contains 1=false) (hx:zeh cap e0=none::none::xs) (hb:∀v0 v1,za1 cap e0 (v0::v1::xs)=e0)
  (ht:∀(i:Nat) v0 w r,ws[i]?=some w->rs[i]?=some r->∃u f,te (v0::some (w,false)::xs)=some (v0::u::xs,(r,f))) :
  zcq cap (.nm 1) it gYes te en=some (e0,(.lst rs,true)):=by
 have s9:(1000:Nat)<=sizeLine:=by decide
 obtain ⟨ce',out,hc,hp⟩:=zhw (cap:=cap) (T:=.nm 1) (tc:=gYes) (te:=te) (fun i c dn=>(∃v0 v1,c=v0::v1::xs)/\dn=rs.take i) hi hn (by omega) ⟨⟨_,_,hx⟩,rfl⟩
  (fun i w c dn hw hp=>by
   obtain ⟨⟨v0,v1,rfl⟩,rfl⟩:=hp;have lt:i < ws.length:=(List.getElem?_eq_some_iff.mp hw).1;have hr:rs[i]?=some rs[i]:=List.getElem?_eq_getElem (by omega);obtain ⟨u,f,h⟩:=ht i v0 w _ hw hr;refine ⟨v0::some (w,false)::xs,?_,.inl ⟨_,_,_,rfl,h,⟨_,_,rfl⟩,?_⟩⟩
   ·show (if (capKeep cap).contains 1 || !decide (1 < (v0 :: v1 :: xs).length) then none else _) = _;rw [hk,decide_eq_true (by rw [List.length_cons,List.length_cons];omega)]
    rfl
   ·show rs.take i ++ [rs[i]] = rs.take (i + 1);rw [List.take_succ,hr];rfl)
 obtain ⟨⟨v0,v1,rfl⟩,rfl⟩:=hp;rw [hb,<-hl,List.take_length] at hc;exact hc
theorem zcw {T:List Fd}{bn:List Str}{d:Nat}{x:Str}{t:Fd}{g:GS} (h:T.find? (·.nm == x)=some t) (hb:zat T bn (sem T bn (d+2)) (d+2) t=some g):sem T bn (d+3) x=zag t.m t.N.length g:=by
 show (match T.find? (·.nm == x) with | some t=>fnAt T bn (sem T bn (d+2)) (d+2) t | none=>fun _=>none)=_;rw [h];show fnAt T bn (sem T bn (d+2)) (d+2) t=_;unfold fnAt;rw [hb]
noncomputable def evA:=And.intro @oI_e ( And.intro @zzr ( And.intro @zrv ( And.intro @zsu ( And.intro @zr4 ( And.intro @zui ( And.intro @ztl ( And.intro @z3j ( And.intro @z23 ( And.intro @z1y ( And.intro @z4i ( And.intro @z3f ( And.intro @z3g ( And.intro @z3v ( And.intro @z3o ( And.intro @z39 ( And.intro @z4g ( And.intro @z0d ( And.intro @zr9 ( And.intro @ztw ( And.intro @zzc ( And.intro @zzm ( And.intro @zyq ( And.intro @zwv ( And.intro @z0f ( And.intro @zzz ( And.intro @z1m ( And.intro (fun Φ as en=>zcg [false] Φ as en rfl) ( And.intro (fun Φ as en=>zcg [false,false] Φ as en rfl) ( And.intro (fun Φ as en=>zcg [false,false,false] Φ as en rfl) ( And.intro (fun Φ as en=>zcg [false,false,false,false] Φ as en rfl) ( And.intro (fun Φ as en=>zdb [] Φ as en rfl) ( And.intro (fun Φ as en=>zdb [false] Φ as en rfl) ( And.intro (fun Φ as en=>zdb [false,false] Φ as en rfl) ( And.intro (fun Φ as en=>zdb [false,false,false] Φ as en rfl) ( And.intro @z4w ( And.intro @z4o ( And.intro @z4e ( And.intro @sizeLine_eq ( And.intro @zj6 ( And.intro @zna ( And.intro @zla ( And.intro @zkb ( And.intro @zkq ( And.intro @zlf ( And.intro @zkh ( And.intro @zib ( And.intro @zk4 ( And.intro @zjp ( And.intro @zh6 ( And.intro @zi6 ( And.intro @zi7 ( And.intro @zil ( And.intro @zk7 ( And.intro @zmz ( And.intro @zkz ( And.intro @zkj ( And.intro @zkx ( And.intro @zka ( And.intro @zj8 ( And.intro @zg9 ( And.intro @zi4 ( And.intro @zhl ( And.intro @zg6 ( And.intro @zhs ( And.intro @zgw ( And.intro @zha ( And.intro @zjq ( And.intro @zks ( And.intro @zjw ( And.intro @zid ( And.intro @zio ( And.intro @zjx ( And.intro @zja ( And.intro @zsh ( And.intro @Option.bind_some.{0,0} ( And.intro @Option.bind_none.{0,0} ( And.intro @List.length_cons.{0} ( And.intro @List.length_nil.{0} ( And.intro @List.getElem?_cons_zero.{0} ( And.intro @List.getElem?_cons_succ.{0} ( And.intro @List.set_cons_zero.{0} ( And.intro @List.set_cons_succ.{0} ( And.intro @List.nil_append.{0} ( And.intro @List.cons_append.{0} ( And.intro @List.contains_nil.{0} ( And.intro @Bool.false_or ( And.intro @Bool.or_false ( And.intro @Bool.not_true ( And.intro @Bool.not_false ( And.intro @Nat.zero_add ( And.intro @Nat.lt_add_one ( And.intro @Nat.zero_lt_succ ( And.intro @decide_true ( And.intro @decide_false ( And.intro @decide_eq_true_eq ( And.intro @List.elem_nil.{0} ( And.intro @List.elem_cons.{0} ( And.intro @Bool.false_eq_true ( And.intro @Bool.true_eq_false ( And.intro @Bool.or_self ( And.intro @Bool.and_self ( And.intro @Bool.true_and ( And.intro @Bool.false_and ( And.intro @Bool.and_true ( And.intro @Bool.and_false ( And.intro @Bool.true_or ( And.intro @Bool.or_true ( And.intro @Int.toNat_natCast ( And.intro @gVar.eq_1 ( And.intro @zaa.eq_1 ( And.intro @gC.eq_1 ( And.intro @gArg.eq_1 ( And.intro @gA0.eq_1 ( And.intro @gCns.eq_1 ( And.intro @gOp1.eq_1 ( And.intro @gOp2.eq_1 ( And.intro @gOpN.eq_1 ( And.intro @zal.eq_1 ( And.intro @gAnd.eq_1 ( And.intro @gOr.eq_1 ( And.intro @gNot.eq_1 ( And.intro @zga.eq_1 ( And.intro @gOrT.eq_1 ( And.intro @zec.eq_1 ( And.intro @gIf.eq_1 ( And.intro @zba.eq_1 ( And.intro @zcl.eq_1 ( And.intro @zln.eq_1 ( And.intro @zb8.eq_1 ( And.intro @zew.eq_1 ( And.intro @gSl.eq_1 ( And.intro @zbw.eq_1 ( And.intro @zca.eq_1 ( And.intro @zk3.eq_1 ( And.intro @gRev.eq_1 ( And.intro @zbk.eq_1 ( And.intro @gBrk.eq_1 ( And.intro @gCnt.eq_1 ( And.intro @gSeq.eq_1 ( And.intro @gRet.eq_1 ( And.intro @z4j.eq_1 ( And.intro @gIfS.eq_1 ( And.intro @zff.eq_1 ( And.intro @gSet.eq_1 ( And.intro @gAsg.eq_1 ( And.intro @gPar.eq_1 ( And.intro @zay.eq_1 ( And.intro @gApp.eq_1 ( And.intro @gExt.eq_1 ( And.intro @gAug.eq_1 ( And.intro @gYes.eq_1 ( And.intro @zdq.eq_1 ( And.intro @gZip.eq_1 ( And.intro @zh4.eq_1 ( And.intro @zag.eq_1 ( And.intro @z4x.eq_1 (@z4b.eq_1)))))))))))))))))))))))))))))))))))))))))))))))))))))))))))))))))))))))))))))))))))))))))))))))))))))))))))))))))))))))))))))))))))))))))))))))))))))))))))))
end L2
local macro_rules | `(tactic| simp! [$xs,*])=>`(tactic| simp only [L2.evA,L2.tgSet,L2.keyW,L2.oNeg,L2.oLen,L2.setAll,List.replicate,List.contains,eq_self,Nat.reduceAdd,Nat.reduceSub,Nat.reduceLT,Nat.reduceLeDiff,reduceIte,reduceCtorEq,Nat.reduceEqDiff,Nat.reduceBEq,↓reduceIte,Int.reduceEq,Int.reduceLE,Int.reduceLT,Int.reduceAdd,Int.reduceSub,Int.reduceMul,Int.reduceNeg,$xs,*])
namespace L2
open PySem PySem.Spec PyProof.Rows
noncomputable def zd7 (Ψ:Str->Fn):GE:=zcq [none,none,some 2] (.nm 1) (zbw (gVar 1)) gYes (gOp2 oEq (gArg (gOp2 (oI (fun _ j=>decide (0 < j)) fun i j=>.int (i % j)) (gArg (gOp2 (oI cDiv fun i j=>.int (i / j)) (zaa 2) (gArg (gOp2 (oI cPow fun i j=>.int (i * 2 ^ j.toNat)) (gArg (gC (.int 1))) (zaa 1))))) (gArg (gC (.int 2))))) (gArg (gC (.int 1))))
noncomputable def zd9 (Ψ:Str->Fn):GE:=zcq [none,none,some 3] (.nm 1) (zbw (gVar 1)) (zal (gOpN (oBl fun bs=>bs.all id) (gCns (gArg (zd7 Ψ)) gA0))) (gVar 1)
noncomputable def zdc (Ψ:Str->Fn):GS:=(gSeq (gSet [] 4 (zd9 Ψ)) (zff (gApp 2 (gOp2 (oI (fun _ j=>decide (0 < j)) fun i j=>.int (i % j)) (gArg (gOpN oLen (gCns (zaa 4) gA0))) (gArg (gC (.int 2)))))))
noncomputable def zd4 (Ψ:Str->Fn):GS:=gFor [] (.nm 3) (zca (gCns (gArg (gOp2 (oI cPow fun i j=>.int (i * 2 ^ j.toNat)) (gArg (gC (.int 1))) (zaa 0))) gA0)) (zdc Ψ)
noncomputable def ziz (Ψ:Str->Fn):GS:=(gSeq (gSet [] 2 (zcl gA0)) (gSeq (zd4 Ψ) (zdq [] 2)))
noncomputable def tmW (t:List Nat):W:=.tup (t.map fun l=>.int (l:Nat))
noncomputable def zpz:Nat->Nat->Nat->Nat->List (List Nat)
 | _,_,_,0=>[[]]
 | 0,_,_,_+1=>[]
 | fu+1,lo,m,k+1=>(if lo < m then (zpz fu (lo+1) m k).map (lo :: ·)++zpz fu (lo+1) m (k+1) else [])
noncomputable def zak (m most:Nat):List (List Nat):=(List.range (most+1)).flatMap fun k=>zpz (m+1) 0 m k
noncomputable def zw2 (Φ:Fn):Prop:=∀m most:Nat,m<=6->most<=6->Φ [.int m,.int most]=some ([.int m,.int most],(.lst ((zak m most).map tmW),true))
end L2
namespace L2
open PySem PySem.Spec PyProof.Rows
theorem zzd {α:Type}{cap:Cap}{it:GL}{tc:GT}{te:GE}{en e0:En}{ts:List α}{xs:En} (f:α->W) (p:α->Bool) (g:α->W) (hi:it en=some (e0,ts.map f)) (hz:ts.length<=1000) (hn:zb5 cap=true) (hk:(capKeep cap).contains 1=false) (hx:zeh cap e0=none::none::xs) (hb:∀v0 v1,za1 cap e0 (v0::v1::xs)=e0)
    (ht:∀v0 a,a∈ts->∃u,tc (v0::some (f a,false)::xs)=some (v0::u::xs,p a)/\(p a=true->∃u' b,te (v0::u::xs)=some (v0::u' :: xs,(g a,b)))) :
    zcq cap (.nm 1) it tc te en=some (e0,(.lst ((ts.filter p).map g),true)):=by
  have s9:(1000:Nat)<=sizeLine:=by decide
  obtain ⟨ce',out,hc,hp⟩:=zhw (cap:=cap) (T:=.nm 1) (tc:=tc) (te:=te) (fun i c dn=>(∃v0 v1,c=v0::v1::xs)/\dn=((ts.take i).filter p).map g) hi hn (by rw [List.length_map];omega) ⟨⟨_,_,hx⟩,rfl⟩
    (fun i w c dn hw hp=>by
      obtain ⟨⟨v0,v1,rfl⟩,rfl⟩:=hp;rw [List.getElem?_map] at hw;cases ha:ts[i]? with
      | none=>rw [ha] at hw;exact noSome hw
      | some a =>
        rw [ha] at hw;obtain rfl:=sI hw;obtain ⟨u,h1,h2⟩:=ht v0 a (List.mem_of_getElem? ha);have tk:ts.take (i+1)=ts.take i++[a]:=by rw [List.take_succ,ha];rfl
        refine ⟨v0::some (f a,false)::xs,?_,?_⟩
        · show (if (capKeep cap).contains 1 || !decide (1 < (v0 :: v1 :: xs).length) then none else _) = _
          rw [hk,decide_eq_true (by rw [List.length_cons,List.length_cons];omega)]
          rfl
        · cases q : p a with
          | true =>
            obtain ⟨u',b,h3⟩:=h2 q;rw [q] at h1;refine .inl ⟨_,_,_,h1,h3,⟨_,_,rfl⟩,?_⟩;rw [tk,List.filter_append,List.map_append,List.filter_cons_of_pos q];rfl
          | false =>
            rw [q] at h1;refine .inr ⟨_,h1,⟨_,_,rfl⟩,?_⟩;rw [tk,List.filter_append,List.filter_cons_of_neg (by rw [q];decide),List.filter_nil,List.append_nil])
  obtain ⟨⟨v0,v1,rfl⟩,rfl⟩:=hp;rw [hb,List.length_map,List.take_length] at hc;exact hc
theorem zfs {a:GA}{en e1:En}{n:Nat} (h:a en=some (e1,.inl (.int (n:Nat)))) (hn:n<=1000000):zca (gCns a gA0) en=some (e1,rngW 0 n):=by
 have r:zcu (n:Int)=true:=by
  unfold zcu;rw [decide_eq_true (by omega),decide_eq_true (by omega)];rfl
 have h2:gCns a gA0 en=some (e1,[.inl (.int (n:Nat))]):=by unfold gCns;rw [h];rfl
 have:=zxr h2 rfl r;rw [Int.toNat_natCast] at this;exact this
theorem pow1 {l:Nat} (h:l<=100):cPow 1 (l:Int)=true:=by
 unfold cPow;rw [decide_eq_true (by omega),decide_eq_true (by omega)];rfl
theorem one_mul_pow (l:Nat):(1:Int) * 2 ^ l=((2 ^ l:Nat):Int):=by rw [Int.one_mul];norm_cast
theorem zs3 (l:Nat):(((2 ^ l:Nat):Int)).natAbs.log2=l:=by
 rw [Int.natAbs_natCast];exact Nat.log2_two_pow
theorem divP {p:Int}{l:Nat} (h:l<=100):cDiv p ((2 ^ l:Nat):Int)=true:=by
 unfold cDiv;have:0 < 2 ^ l:=Nat.pow_pos (by decide);rw [decide_eq_true (by omega),decide_eq_true (by rw [zs3];omega)];rfl
noncomputable def hasT (t:List Nat) (p:Nat):Bool:=t.all fun l=>decide (p / 2 ^ l % 2=1)
noncomputable def valF (ts:List (List Nat)) (p:Nat):Int:=(((ts.filter fun t=>hasT t p).length % 2:Nat):Int)
theorem c1v {Ψ:Str->Fn}{v0:Option (W × Bool)}{t:List Nat}{p:Nat} (h6:∀l∈t,l < 64) (hl:t.length<=64):zd7 Ψ [v0,some (tmW t,false),some (.int (p:Nat),false)]=some ([v0,some (tmW t,false),some (.int (p:Nat),false)],(.lst ((t.map fun l=>decide (p / 2 ^ l % 2=1)).map W.bl),true)):=by
  unfold zd7;refine zgo (xs:=[some (.int (p:Nat),false)]) (e0:=[v0,some (tmW t,false),some (.int (p:Nat),false)]) (ws:=t.map fun l=>.int (l:Nat)) (by unfold tmW;simp! []) (by rw [List.length_map];omega) (by rw [List.length_map,List.length_map,List.length_map]) rfl rfl rfl (fun _ _=>rfl) fun i v0 w r hw hr=>?_;rw [List.getElem?_map] at hw;rw [List.getElem?_map,List.getElem?_map] at hr;cases ha:t[i]? with
  | none=>rw [ha] at hw;exact noSome hw
  | some l =>
    rw [ha] at hw hr;obtain rfl:=sI hw;obtain rfl:=sI hr;have ll:=h6 l (List.mem_of_getElem? ha);have e1:=pow1 (l:=l) (by omega);have e2:=divP (p:=(p:Int)) (l:=l) (by omega);have e3:((p:Int) / ((2 ^ l:Nat):Int) % 2=1)=(p / 2 ^ l % 2=1):=by
      rw [<-Int.natCast_ediv];apply propext;constructor<;>intro h<;>omega
    refine ⟨some (.int (l:Nat),false),false,?_⟩;simp! [e1,one_mul_pow,e2,e3]
theorem c2v {Ψ:Str->Fn}{a c e:Option (W × Bool)}{ts:List (List Nat)}{p:Nat} (h6:∀t∈ts,∀l∈t,l < 64) (hl:∀t∈ts,t.length<=64) (hz:ts.length<=64):zd9 Ψ [a,some (.tup (ts.map tmW),false),c,some (.int (p:Nat),false),e]=some ([a,some (.tup (ts.map tmW),false),c,some (.int (p:Nat),false),e],(.lst ((ts.filter fun t=>hasT t p).map tmW),true)):=by
 unfold zd9;refine zzd (xs:=[some (.int (p:Nat),false)]) tmW (fun t=>hasT t p) tmW (e0:=[a,some (.tup (ts.map tmW),false),c,some (.int (p:Nat),false),e]) (by simp! []) (by omega) rfl rfl rfl (fun _ _=>rfl) fun v0 t ht=>?_;have c1:=c1v (Ψ:=Ψ) (v0:=v0) (t:=t) (p:=p) (h6 t ht) (hl t ht);have al:(t.map fun l=>decide (p / 2 ^ l % 2=1)).all id=hasT t p:=by unfold hasT;rw [List.all_map];rfl
 refine ⟨some (tmW t,false),?_,fun _=>⟨some (tmW t,false),false,?_⟩⟩
 ·simp! [c1,al]
 ·simp! []
noncomputable def zlo (Φ:Fn):Prop:=∀(m:Nat) (ts:List (List Nat)),m<=6->ts.length<=64->(∀t∈ts,∀l∈t,l < 64)->(∀t∈ts,t.length<=64)->Φ [.int (m:Nat),.tup (ts.map tmW)]=some ([.int (m:Nat),.tup (ts.map tmW)],(.lst ((tab (2 ^ m) (valF ts)).map W.int),true))
theorem zcz {m:Nat} (h:m<=6):2 ^ m<=64:=Nat.pow_le_pow_right (by decide) h
theorem b3v {Ψ:Str->Fn}{m i:Nat}{ts:List (List Nat)}{v4:Option (W × Bool)} (hi:i<=64) (hz:ts.length<=64) (h6:∀t∈ts,∀l∈t,l < 64) (hl:∀t∈ts,t.length<=64):zdc Ψ [some (.int (m:Nat),false),some (.tup (ts.map tmW),false),some (.lst ((tab i (valF ts)).map W.int),true),some (.int (i:Nat),false),v4]=some ([some (.int (m:Nat),false),some (.tup (ts.map tmW),false),some (.lst ((tab (i+1) (valF ts)).map W.int),true),some (.int (i:Nat),false),some (.lst ((ts.filter fun t=>hasT t i).map tmW),true)],.nx):=by
 have c2:=c2v (Ψ:=Ψ) (a:=some (.int (m:Nat),false)) (c:=some (.lst ((tab i (valF ts)).map W.int),true)) (e:=v4) (ts:=ts) (p:=i) h6 hl hz;have lt:(tab i (valF ts)).length < 16777216:=by rw [zdm];omega
 have em:(((ts.filter fun t=>hasT t i).length:Nat):Int) % 2=valF ts i:=by unfold valF;omega
 rw [zue i,List.map_append];unfold zdc;simp! [c2,List.length_map,em,lt,List.map_cons,List.map_nil]
theorem i3v {m:Nat}{b c d e:Option (W × Bool)} (hm:m<=6):zca (gCns (gArg (gOp2 (oI cPow fun i j=>.int (i * 2 ^ j.toNat)) (gArg (gC (.int 1))) (zaa 0))) gA0) [some (.int (m:Nat),false),b,c,d,e]=some ([some (.int (m:Nat),false),b,c,d,e],rngW 0 (2 ^ m)):=by
 have p6:=zcz hm;have e1:=pow1 (l:=m) (by omega);refine zfs ?_ (by omega);simp! [e1,one_mul_pow]
theorem l3v {Ψ:Str->Fn}{m:Nat}{ts:List (List Nat)} (hm:m<=6) (hz:ts.length<=64) (h6:∀t∈ts,∀l∈t,l < 64) (hl:∀t∈ts,t.length<=64):∃v3 v4,zd4 Ψ [some (.int (m:Nat),false),some (.tup (ts.map tmW),false),some (.lst [],true),none,none]=some ([some (.int (m:Nat),false),some (.tup (ts.map tmW),false),some (.lst ((tab (2 ^ m) (valF ts)).map W.int),true),v3,v4],.nx):=by
 have p6:=zcz hm;unfold zd4;obtain ⟨en',h,v3,v4,rfl⟩:=zbl (mp:=[]) (T:=.nm 3) (body:=zdc Ψ) (fun i e=>∃v3 v4,e=[some (.int (m:Nat),false),some (.tup (ts.map tmW),false),some (.lst ((tab i (valF ts)).map W.int),true),v3,v4]) (i3v (m:=m) (b:=some (.tup (ts.map tmW),false)) (c:=some (.lst [],true)) (d:=none) (e:=none) hm) ⟨_,_,rfl⟩ fun i w e hw hp=>by
  obtain ⟨v3,v4,rfl⟩:=hp;obtain ⟨li,rfl⟩:=zb3 hw;rw [Int.zero_add];exact ⟨_,_,rfl,.inl (b3v (by omega) hz h6 hl),_,_,rfl⟩
 rw [zbp] at h;exact ⟨v3,v4,h⟩
theorem zqp (Ψ:Str->Fn):zlo (zag [false,false] 5 (ziz Ψ)):=fun m ts hm hz h6 hl=>by
 obtain ⟨v3,v4,lp⟩:=l3v (Ψ:=Ψ) hm hz h6 hl;unfold ziz;simp! [lp]
end L2
namespace L2
open PySem PySem.Spec PyProof.Rows
theorem zos:∀m most:Fin 7,(zak m.val most.val).length<=64/\∀t∈zak m.val most.val,t.length<=6/\∀l∈t,l < m.val:=by decide +kernel
theorem zoo {m most:Nat} (hm:m<=6) (hk:most<=6):(zak m most).length<=64/\∀t∈zak m most,t.length<=6/\∀l∈t,l < m:=zos ⟨m,by omega⟩ ⟨most,by omega⟩
theorem zwj {n q:Nat} (h:q < n):ixN n (q:Int)=some q:=by
 unfold ixN;rw [if_pos (by omega),if_pos (by omega),Int.toNat_natCast]
end L2
namespace L2
open PySem PySem.Spec PyProof.Rows
theorem zlq {c:Nat}:∀{ts:List Str},(∀t∈ts,t.length<=c)->piled ts<=(c+2) * ts.length
  | [],_=>by rw [piled_nil];omega
  | t::ts,h=>by
    have h1:=h t (List.mem_cons_self ..);have h2:=zlq (c:=c) (ts:=ts) fun x hx=>h x (List.mem_cons_of_mem _ hx);rw [piled_cons,List.length_cons,Nat.mul_succ];omega
theorem zm8 {c:Nat}{ts:List Str} (h:∀t∈ts,t.length<=c):(tupleText ts).length<=(c+2) * ts.length+3:=by
 have hp:=zlq h;have hj:(Str.join ", " ts).length<=piled ts:=by
  cases ts with
  | nil=>exact Nat.zero_le _
  | cons x xs=>have:=join_length_add (x::xs) (by simp);omega
 unfold tupleText;rw [Str.length_append,Str.length_append];have a:(Str.ofString "(").length=1:=by decide
 have b:(Str.ofString (if (ts.length == 1)=true then ",)" else ")")).length<=2:=by
  split
  ·decide
  ·decide
 omega
theorem zeg {α:Type} (f:α->PyData):∀l:List α,PyData.shownAll (l.map f)=l.map fun x=>(f x).shown
 | []=>rfl
 | x::l=>by rw [List.map_cons,PyData.shownAll,zeg f l];rfl
theorem zfc {α:Type} (f:α->PyData):∀l:List α,(∀x∈l,(f x).showable=true)->PyData.showableAll (l.map f)=true
 | [],_=>rfl
 | x::l,h=>by rw [List.map_cons,PyData.showableAll,h x (List.mem_cons_self ..),zfc f l fun y hy=>h y (List.mem_cons_of_mem _ hy)];rfl
theorem zfi {α:Type} (f:α->PyData):∀l:List α,(∀x∈l,(f x).hasDict=false)->PyData.hasDictAll (l.map f)=false
 | [],_=>rfl
 | x::l,h=>by rw [List.map_cons,PyData.hasDictAll,h x (List.mem_cons_self ..),zfi f l fun y hy=>h y (List.mem_cons_of_mem _ hy)];rfl
theorem depAll_map {α:Type}{c:Nat} (f:α->PyData):∀l:List α,(∀x∈l,(f x).depth<=c)->PyData.depthAll (l.map f)<=c
  | [],_=>Nat.zero_le _
  | x::l,h=>by
    rw [List.map_cons,PyData.depthAll];have:=h x (List.mem_cons_self ..);have:=depAll_map f l fun y hy=>h y (List.mem_cons_of_mem _ hy);omega
theorem zgc {α:Type} (f:α->PyData):∀l:List α,(∀x∈l,(f x).canLay0=true)->PyData.canLayAll0 (l.map f)=true
 | [],_=>rfl
 | x::l,h=>by rw [List.map_cons,PyData.canLayAll0,h x (List.mem_cons_self ..),zgc f l fun y hy=>h y (List.mem_cons_of_mem _ hy)];rfl
theorem zol {α:Type} (f:α->W) (g:α->PyData) (h:∀x,dW (f x)=some (g x)):∀l:List α,dWs (l.map f)=some (l.map g)
 | []=>rfl
 | x::l=>by rw [List.map_cons,dWs,h x,zol f g h l];rfl
noncomputable def zh8 (n:Int):Prop:=n.natAbs.log2 < 1920
noncomputable def ndI (ns:List Int):PyData:=.tuple (ns.map .int)
theorem zqe (ns:List Int):dW (.tup (ns.map W.int))=some (ndI ns):=by
 rw [dW,zol W.int .int (fun _=>by rw [dW]) ns];rfl
theorem zv0 {ns:List Int} (h:∀n∈ns,zh8 n):(ndI ns).showable=true/\(ndI ns).hasDict=false/\(ndI ns).depth<=1/\(ndI ns).canLay0=true/\(ndI ns).shown.length<=1923 * ns.length+3:=by
 refine ⟨?_,?_,?_,?_,?_⟩
 ·unfold ndI;rw [PyData.showable];exact zfc _ _ fun n hn=>by rw [PyData.showable];exact decide_eq_true (h n hn)
 ·unfold ndI;rw [PyData.hasDict];exact zfi _ _ fun n hn=>by rw [PyData.hasDict]
 ·unfold ndI; rw [PyData.depth]; have := depAll_map (c := 0) PyData.int ns fun n hn => by rw [PyData.depth]; exact Nat.le_refl _
  omega
 ·unfold ndI;rw [PyData.canLay0];exact zgc _ _ fun n hn=>by rw [PyData.canLay0]
 ·unfold ndI;rw [PyData.shown,zeg];have:=zm8 (c:=1921) (ts:=ns.map fun x=>(PyData.int x).shown) fun t ht=>by
   obtain ⟨n,hn,rfl⟩:=List.mem_map.mp ht;rw [PyData.shown];exact int_text_len_1921 (h n hn)
  rw [List.length_map] at this;exact this
theorem ztj {n:Int}{k:Nat} (h:n.natAbs < 2 ^ k) (hk:k<=1919):zh8 n:=by
 unfold zh8;by_cases z:n.natAbs=0
 ·rw [z];decide
 ·have := (Nat.log2_lt z).mpr h;omega
end L2
namespace L2
open PySem PySem.Spec PyProof.Rows
end L2
namespace L2
open PySem PySem.Spec PyProof.Rows
noncomputable def linL (m p q:Nat):List Nat:=(List.range m).filter fun l=>decide (p / 2 ^ l % 2=1) && decide (q / 2 ^ l % 2=1)
noncomputable def lin (m p q:Nat):Int:=(((linL m p q).length % 2:Nat):Int)
end L2
namespace L2
open PySem PySem.Spec PyProof.Rows
theorem seq_e {a b:GS}{en e1:En}{r:Option (En × Fl)} (h1:a en=some (e1,.nx)) (h2:b e1=r):gSeq a b en=r:=(seq_nx h1).trans h2
noncomputable def bitF (p i:Nat):Int:=((p / 2 ^ i % 2:Nat):Int)
theorem zr1:∀p:Fin 64,zbm (tab 6 (bitF p.val))=(p.val:Int):=by decide +kernel
theorem zuq (p i:Nat):Bit (bitF p i):=by unfold bitF Bit;omega
noncomputable def letL (p:Nat):List Nat:=dueL (bitF p) 6
noncomputable def zby (t:List Nat):Nat:=(t.map fun l=>2 ^ l).sum
theorem zdd:∀p:Fin 64,zby (letL p.val)=p.val:=by decide +kernel
theorem zez:∀q p:Fin 64,hasT (letL q.val) p.val=(q.val &&& p.val == q.val):=by decide +kernel
theorem zgp:∀m:Fin 7,((List.range (2 ^ m.val)).map letL).isPerm (zak m.val m.val)=true:=by decide +kernel
theorem zgh:∀m:Fin 7,∀p:Fin (2 ^ m.val),(List.range (2 ^ m.val)).filter (fun q=>q &&& p.val == q)=zbg p.val:=by decide +kernel
theorem zud:∀p:Fin 64,(zbg p.val).foldr (fun q a=>itS 6 q ^^^ a) 0=2 ^ p.val:=by decide +kernel
theorem zxf {p q:Nat} (hp:p < 64) (h:q∈zbg p):q < 64:=by have:=zj1 h;omega
theorem zif (f:Nat->Int):∀L:List Nat,(∀q∈L,q < 64)->((L.map (coefF f)).sum) % 2=evS (List.range 64) f (L.foldr (fun q a=>itS 6 q ^^^ a) 0) % 2
  | [],_=>by
    have:evS (List.range 64) f 0=0:=by
      unfold evS;rw [List.filter_eq_nil_iff.mpr (fun i _=>by rw [Nat.zero_testBit];decide)];rfl
    show (0:Int) % 2=evS (List.range 64) f 0 % 2;rw [this]
  | q::L,h=>by
    have ih:=zif f L fun x hx=>h x (List.mem_cons_of_mem _ hx);have c:=zxn f (h q (List.mem_cons_self ..));rw [List.map_cons,List.sum_cons,List.foldr_cons,zvf,c];omega
theorem zlr {f:Nat->Int} (h:∀i,Bit (f i)) {p:Nat} (hp:p < 64):coefF (coefF f) p=f p:=by
 show ((zbg p).map (coefF f)).sum % 2=f p;rw [zif f (zbg p) fun q hq=>zxf hp hq,zud ⟨p,hp⟩];unfold evS;rw [zwf ⟨p,hp⟩];show (f p+0) % 2=f p;rcases h p with e | e<;>rw [e]<;>rfl
theorem coef_bit (f:Nat->Int) (p:Nat):Bit (coefF f p):=by unfold coefF Bit;omega
noncomputable def duT (m:Nat) (f:Nat->Int):List (List Nat):=(zak m m).filter fun t=>decide (coefF f (zby t)=1)
noncomputable def plL (m:Nat) (f:Nat->Int):List Nat:=(List.range (2 ^ m)).filter fun q=>decide (coefF f q=1)
theorem zx4 {m:Nat} (f:Nat->Int) (hm:m<=6):((plL m f).map letL).Perm (duT m f):=by
 have p6:=zcz hm;have p:=(List.isPerm_iff.mp (zgp ⟨m,by omega⟩)).filter fun t=>decide (coefF f (zby t)=1);rw [List.filter_map] at p;have e:(List.range (2 ^ m)).filter ((fun t=>decide (coefF f (zby t)=1)) ∘ letL)=plL m f:=List.filter_congr fun q hq=>by
  show decide (coefF f (zby (letL q))=1)=_;have:=List.mem_range.mp hq;rw [zdd ⟨q,by omega⟩]
 rw [e] at p;exact p
theorem zey {m:Nat}{t:List Nat} (hm:m<=6) (h:t∈zak m m):∃q,q < 2 ^ m/\t=letL q:=by
 have:=(List.isPerm_iff.mp (zgp ⟨m,by omega⟩)).mem_iff.mpr h;obtain ⟨q,hq,rfl⟩:=List.mem_map.mp this;exact ⟨q,List.mem_range.mp hq,rfl⟩
theorem zpg (g:Nat->Int) (h:∀i,Bit (g i)):∀L:List Nat,(L.map g).sum=((L.filter fun q=>decide (g q=1)).length:Nat)
  | []=>rfl
  | q::L=>by
    rw [List.map_cons,List.sum_cons,zpg g h L,List.filter_cons];rcases h q with e | e
    · rw [e,if_neg (by decide)];omega
    · rw [e,if_pos (by decide),List.length_cons];omega
theorem z03 {m p:Nat}{f:Nat->Int} (h:∀i,Bit (f i)) (hm:m<=6) (hp:p < 2 ^ m):valF (duT m f) p=f p:=by
 have p6:=zcz hm;have l:=((zx4 f hm).filter fun t=>hasT t p).length_eq;rw [List.filter_map,List.length_map] at l;have e:(plL m f).filter ((fun t=>hasT t p) ∘ letL)=(zbg p).filter fun q=>decide (coefF f q=1):=by
  rw [<-zgh ⟨m,by omega⟩ ⟨p,hp⟩];unfold plL;rw [List.filter_filter,List.filter_filter];refine List.filter_congr fun q hq=>?_;have:=List.mem_range.mp hq;show (hasT (letL q) p && _)=_;rw [zez ⟨q,by omega⟩ ⟨p,by omega⟩,Bool.and_comm]
 rw [e] at l;unfold valF;rw [<-l];have c:=zlr h (p:=p) (by omega);have s:=zpg (coefF f) (coef_bit f) (zbg p);have c:((zbg p).map (coefF f)).sum % 2=f p:=c;rw [s] at c;omega
noncomputable def indF (M:List Nat) (i:Nat):Int:=if i∈M then 1 else 0
theorem zww (M:List Nat) (i:Nat):Bit (indF M i):=by unfold indF;split<;>first | exact .inr rfl | exact .inl rfl
theorem zqg {M:List Nat}{x:Nat} (hx:x ∉ M):∀{S:List Nat},S.Nodup->(S.map (indF (x::M))).sum=(S.map (indF M)).sum+(if x∈S then 1 else 0)
  | [],_=>rfl
  | q::S,h=>by
    have ih:=zqg hx (List.nodup_cons.mp h).2;rw [List.map_cons,List.sum_cons,List.map_cons,List.sum_cons,ih];by_cases e:q=x
    · subst e
      have n1:q ∉ S:=(List.nodup_cons.mp h).1;have a:indF (q::M) q=1:=by unfold indF;rw [if_pos List.mem_cons_self]
      have b:indF M q=0:=by unfold indF;rw [if_neg hx]
      rw [a,b,if_neg n1,if_pos List.mem_cons_self];omega
    · have a:indF (x::M) q=indF M q:=by
        unfold indF;by_cases c:q∈M
        · rw [if_pos c,if_pos (List.mem_cons_of_mem _ c)]
        · rw [if_neg c,if_neg fun z=>(List.mem_cons.mp z).elim e c]
      rw [a];by_cases c:x∈S
      · rw [if_pos c,if_pos (List.mem_cons_of_mem _ c)];omega
      · rw [if_neg c,if_neg fun z=>(List.mem_cons.mp z).elim (fun z=>e z.symm) c];omega
theorem zmo {S:List Nat} (hS:S.Nodup):∀{ts:List (List Nat)},(ts.map zby).Nodup->(S.map (indF (ts.map zby))).sum=((ts.filter fun t=>decide (zby t∈S)).length:Nat)
  | [],_=>by
    have:∀L:List Nat,(L.map (indF [])).sum=0:=fun L=>by
      induction L with
      | nil=>rfl
      | cons a l ih=>rw [List.map_cons,List.sum_cons,ih];rfl
    exact this S
  | t::ts,h=>by
    rw [List.map_cons] at h;have h':=List.nodup_cons.mp h;rw [List.map_cons,zqg h'.1 hS,zmo hS h'.2,List.filter_cons];by_cases c:zby t∈S
    · rw [if_pos c,if_pos (decide_eq_true c),List.length_cons];omega
    · rw [if_neg c,if_neg (by rw [decide_eq_false c];exact Bool.false_ne_true)];omega
theorem znj (p:Nat):(zbg p).Nodup:=List.nodup_range.filter _
theorem zu9 {m p:Nat}{t:List Nat} (hm:m<=6) (ht:t∈zak m m) (hp:p < 64):hasT t p=decide (zby t∈zbg p):=by
 have p6:=zcz hm;obtain ⟨q,hq,rfl⟩:=zey hm ht;rw [zez ⟨q,by omega⟩ ⟨p,hp⟩,zdd ⟨q,by omega⟩];show (q &&& p == q)=decide (q∈zbg p);unfold zbg;by_cases c:q &&& p=q
 ·have : q ≤ p := by have := Nat.and_le_right (n := q) (m := p); omega
  have h:q∈(List.range (p+1)).filter fun o=>o &&& p == o:=List.mem_filter.mpr ⟨List.mem_range.mpr (by omega),beq_iff_eq.mpr c⟩;rw [beq_iff_eq.mpr c,decide_eq_true h]
 ·have h : ¬ q ∈ (List.range (p + 1)).filter fun o => o &&& p == o := fun z => c (beq_iff_eq.mp (List.mem_filter.mp z).2);rw [beq_eq_false_iff_ne.mpr c,decide_eq_false h]
theorem ztp {m:Nat}{t u:List Nat} (hm:m<=6) (ht:t∈zak m m) (hu:u∈zak m m) (e:zby t=zby u):t=u:=by
 have p6:=zcz hm;obtain ⟨q,hq,rfl⟩:=zey hm ht;obtain ⟨r,hr,rfl⟩:=zey hm hu;rw [zdd ⟨q,by omega⟩,zdd ⟨r,by omega⟩] at e;have e:q=r:=e;rw [e]
noncomputable def zmj (m:Nat) (ts:List (List Nat)):Prop:=ts.Nodup/\∀t∈ts,t∈zak m m
theorem zgl {m:Nat} (hm:m<=6):∀{ts:List (List Nat)},zmj m ts->(ts.map zby).Nodup
  | [],_=>List.nodup_nil
  | t::ts,h=>by
    have n:=List.nodup_cons.mp h.1;rw [List.map_cons];refine List.nodup_cons.mpr ⟨fun z=>?_,zgl hm ⟨n.2,fun u hu=>h.2 u (List.mem_cons_of_mem _ hu)⟩⟩;obtain ⟨u,hu,e⟩:=List.mem_map.mp z;have:=ztp hm (h.2 u (List.mem_cons_of_mem _ hu)) (h.2 t List.mem_cons_self) e;subst this;exact n.1 hu
theorem zr8 {m p:Nat}{ts:List (List Nat)} (hm:m<=6) (h:zmj m ts) (hp:p < 64):coefF (indF (ts.map zby)) p=valF ts p:=by
 unfold coefF valF;rw [zmo (znj p) (zgl hm h)];have e:(ts.filter fun t=>decide (zby t∈zbg p))=ts.filter fun t=>hasT t p:=List.filter_congr fun t ht=>(zu9 hm (h.2 t ht) hp).symm;rw [e];omega
noncomputable def kdW (m t:Nat):W:=.tup [.int (m:Nat),.int (t:Nat)]
theorem zmg:∀m u:Fin 7,u.val<=m.val->∀t∈zak m.val u.val,t∈zak m.val m.val:=by decide +kernel
theorem zur:∀m u:Fin 7,(zak m.val u.val).Nodup:=by decide +kernel
noncomputable def chkT (m t:Nat):List (List Nat):=if t=m then [] else zak m (m - t - 1)
end L2
namespace L2
open PySem PySem.Spec PyProof.Rows
noncomputable def dotP (xs ys:List Int):Int:=(List.zipWith (· * ·) xs ys).sum % 2
noncomputable def zfw (m:Nat) (x:List Nat):List Int:=tab (2 ^ m) (valF [x])
theorem zg2 (f g:Nat->Int):∀L:List Nat,List.zipWith (· * ·) (L.map f) (L.map g)=L.map fun p=>f p * g p
 | []=>rfl
 | a::l=>by rw [List.map_cons,List.map_cons,List.zipWith_cons_cons,zg2 f g l,List.map_cons]
theorem zpm (x:List Nat) (p:Nat):valF [x] p=if hasT x p then 1 else 0:=by
 unfold valF;rw [List.filter_cons];by_cases c:hasT x p=true
 ·rw [if_pos c,if_pos c];rfl
 ·rw [if_neg c,if_neg c];rfl
theorem zu0 (s:List Nat) (ts:List (List Nat)) (p:Nat):valF (s::ts) p=(valF ts p+if hasT s p then 1 else 0) % 2:=by
 unfold valF;rw [List.filter_cons];by_cases c:hasT s p=true
 ·rw [if_pos c,if_pos c,List.length_cons];omega
 ·rw [if_neg c,if_neg c];omega
theorem zmd (s x:List Nat) (ts:List (List Nat)):∀L:List Nat,(L.map fun p=>valF (s::ts) p * valF [x] p).sum % 2=((L.map fun p=>valF ts p * valF [x] p).sum+(((L.filter fun p=>hasT s p && hasT x p).length:Nat):Int)) % 2
  | []=>rfl
  | p::L=>by
    have ih:=zmd s x ts L;rw [List.map_cons,List.sum_cons,List.map_cons,List.sum_cons,List.filter_cons,zu0,zpm];have b:valF ts p=0\/valF ts p=1:=by unfold valF;omega
    cases hs:hasT s p<;>cases hx:hasT x p<;>simp only [Bool.and_true,Bool.and_false,Bool.false_eq_true,if_true,if_false,List.length_cons]<;>rcases b with b | b<;>rw [b]<;>omega
theorem zop:∀m:Fin 7,∀u:Fin (2 ^ m.val),u.val≠2 ^ m.val - 1->((List.range (2 ^ m.val)).filter fun p=>u.val &&& p == u.val).length % 2=0:=by decide +kernel
theorem zsw:∀m:Fin 7,∀q r:Fin (2 ^ m.val),(letL q.val).length+(letL r.val).length < m.val->q.val ||| r.val≠2 ^ m.val - 1:=by decide +kernel
theorem bl1:∀a b c:Bool,((a || b) && c)=(a || b)->(a && c)=a:=by decide
theorem bl2:∀a b c:Bool,((a || b) && c)=(a || b)->(b && c)=b:=by decide
theorem bl3:∀a b c:Bool,(a && c)=a->(b && c)=b->((a || b) && c)=(a || b):=by decide
theorem zoj {q p:Nat} (h:q &&& p=q) (i:Nat):(q.testBit i && p.testBit i)=q.testBit i:=by rw [<-Nat.testBit_and,h]
theorem zz2 (q r p:Nat):((q &&& p == q) && (r &&& p == r))=((q ||| r) &&& p == (q ||| r)):=by
 by_cases h:(q ||| r) &&& p=q ||| r
 ·have t:∀i,((q.testBit i || r.testBit i) && p.testBit i)=(q.testBit i || r.testBit i):=fun i=>by
   have:=zoj h i;rw [Nat.testBit_or] at this;exact this
  have hq:q &&& p=q:=Nat.eq_of_testBit_eq fun i=>by rw [Nat.testBit_and];exact bl1 _ _ _ (t i)
  have hr:r &&& p=r:=Nat.eq_of_testBit_eq fun i=>by rw [Nat.testBit_and];exact bl2 _ _ _ (t i)
  rw [beq_iff_eq.mpr h,beq_iff_eq.mpr hq,beq_iff_eq.mpr hr];rfl
 ·rw [beq_eq_false_iff_ne.mpr h];by_cases hq:q &&& p=q
  ·by_cases hr : r &&& p = r
   ·refine absurd ?_ h;exact Nat.eq_of_testBit_eq fun i=>by rw [Nat.testBit_and,Nat.testBit_or];exact bl3 _ _ _ (zoj hq i) (zoj hr i)
   ·rw [beq_eq_false_iff_ne.mpr hr,Bool.and_false]
  ·rw [beq_eq_false_iff_ne.mpr hq,Bool.false_and]
theorem z32 {m q r:Nat} (hq:q < 2 ^ m) (hr:r < 2 ^ m):q ||| r < 2 ^ m:=Nat.or_lt_two_pow hq hr
theorem zpt {m:Nat}{s x:List Nat} (hm:m<=6) (hs:s∈zak m m) (hx:x∈zak m m) (hl:s.length+x.length < m):(((List.range (2 ^ m)).filter fun p=>hasT s p && hasT x p).length) % 2=0:=by
 have p6:=zcz hm;obtain ⟨q,hq,rfl⟩:=zey hm hs;obtain ⟨r,hr,rfl⟩:=zey hm hx;have e:((List.range (2 ^ m)).filter fun p=>hasT (letL q) p && hasT (letL r) p)=(List.range (2 ^ m)).filter fun p=>(q ||| r) &&& p == (q ||| r):=List.filter_congr fun p hp=>by
  have:=List.mem_range.mp hp;rw [zez ⟨q,by omega⟩ ⟨p,by omega⟩,zez ⟨r,by omega⟩ ⟨p,by omega⟩];exact zz2 q r p
 rw [e];exact zop ⟨m,by omega⟩ ⟨q ||| r,z32 hq hr⟩ (zsw ⟨m,by omega⟩ ⟨q,hq⟩ ⟨r,hr⟩ hl)
theorem ziw {m:Nat}{x:List Nat} (hm:m<=6) (hx:x∈zak m m):∀{ts:List (List Nat)},(∀s∈ts,s∈zak m m/\s.length+x.length < m)->dotP (tab (2 ^ m) (valF ts)) (zfw m x)=0
  | [],_=>by
    unfold dotP zfw tab;rw [zg2];have:∀L:List Nat,(L.map fun p=>valF [] p * valF [x] p).sum=0:=fun L=>by
      induction L with
      | nil=>rfl
      | cons a l ih=>rw [List.map_cons,List.sum_cons,ih];show (0:Int) * _+0=0;omega
    rw [this];rfl
  | s::ts,h=>by
    have ih:=ziw hm hx (fun s hs=>h s (List.mem_cons_of_mem _ hs));obtain ⟨h1,h2⟩:=h s List.mem_cons_self;have b:=zpt hm h1 hx h2;unfold dotP zfw tab at ih ⊢;rw [zg2] at ih ⊢;rw [zmd];omega
theorem zrk:∀m u:Fin 7,∀t∈zak m.val u.val,t.length<=u.val:=by decide +kernel
end L2
namespace L2
open PySem PySem.Spec PyProof.Rows
end L2
namespace L2
open PySem PySem.Spec PyProof.Rows
noncomputable def pop (p:Nat):Int:=(tab 6 (bitF p)).sum
noncomputable def z4l (Φ:Fn):Prop:=∀p:Nat,p < 64->Φ [.int (p:Nat)]=some ([.int (p:Nat)],(.int (pop p),false))
theorem wt_ok {Φ:Fn} (h:zs4 Φ):z4l Φ:=fun p hp=>by
 have:=h (tab 6 (bitF p)) (zht fun i _=>zuq p i) (by rw [zdm];decide);rw [zr1 ⟨p,hp⟩] at this;exact this
end L2
namespace L2
open PySem PySem.Spec PyProof.Rows
theorem zgq {f g:Nat->Int}{p:Nat} (h:∀q,q<=p->f q=g q):coefF f p=coefF g p:=by
 unfold coefF;rw [List.map_congr_left fun q hq=>h q (zj1 hq)]
end L2
namespace L2
open PySem PySem.Spec PyProof.Rows
noncomputable def zpy (Ψ:Str->Fn):GE:=zcq [none,none,some 5] (.nm 1) (zbw (gVar 4)) gYes (gOp2 oAdd (zaa 1) (gArg (gOp2 (oI cPow fun i j=>.int (i * 2 ^ j.toNat)) (gArg (gC (.int 1))) (zaa 2))))
noncomputable def zpn (Ψ:Str->Fn):GS:=(gSet [] 4 (gOp2 oAdd (zaa 4) (gArg (zpy Ψ))))
noncomputable def zph (Ψ:Str->Fn):GS:=gFor [] (.nm 5) (zbw (gVar 3)) (zpn Ψ)
noncomputable def zqh (Ψ:Str->Fn):GE:=zcq [none,none,some 1] (.nm 1) (zbw (gVar 4)) gYes (gOp2 oIx (zaa 2) (zaa 1))
noncomputable def zmx (Ψ:Str->Fn):GS:=(gSeq (gSet [] 4 (zcl (gCns (gArg (gC (.int 0))) gA0))) (gSeq (zph Ψ) (gIfS (zal (gOp2 oEq (gArg (gOp2 (oI (fun _ j=>decide (0 < j)) fun i j=>.int (i % j)) (gArg (gOpN oSum (gCns (gArg (zqh Ψ)) gA0))) (gArg (gC (.int 2))))) (gArg (gC (.int 1))))) (zff (gApp 2 (gVar 3))) zbk)))
noncomputable def zn8 (Ψ:Str->Fn):GS:=gFor [] (.nm 3) (zbw (zae [false,false] (Ψ "_law_terms") (gCns (gArg (gVar 0)) (gCns (gArg (gVar 0)) gA0)))) (zmx Ψ)
noncomputable def z0x (Ψ:Str->Fn):GS:=(gSeq (gSet [] 2 (zcl gA0)) (gSeq (zn8 Ψ) (gRet (gOpN zee (gCns (zaa 2) gA0)))))
theorem zy9 (ns:List Int):oSum [.lst (ns.map W.int)]=some (.int ns.sum,false):=by
 show (zbi (ns.map W.int)).bind _=_;rw [zc9];rfl
theorem zu8 (n:Nat):(List.replicate n true).all id=true:=by
 induction n with
 | zero=>rfl
 | succ n ih=>rw [List.replicate_succ,List.all_cons,ih];rfl
theorem zmb (f:Nat->Int) {l l' : List Nat} (p:l.Perm l'):(l.map f).sum=(l'.map f).sum:=by
 induction p with
 | nil=>rfl
 | cons a _ ih=>rw [List.map_cons,List.map_cons,List.sum_cons,List.sum_cons,ih]
 | swap a b l=>rw [List.map_cons,List.map_cons,List.map_cons,List.map_cons,List.sum_cons,List.sum_cons,List.sum_cons,List.sum_cons];omega
 | trans _ _ i1 i2=>exact i1.trans i2
noncomputable def innL (t:List Nat):List Nat:=t.foldl (fun a l=>a++a.map fun p=>p+2 ^ l) [0]
theorem zsa:∀q:Fin 64,(innL (letL q.val)).isPerm (zbg q.val)=true:=by decide +kernel
theorem zl8:∀q:Fin 64,∀k:Fin 7,(innL ((letL q.val).take k.val)).length<=64/\(letL q.val).length<=6:=by decide +kernel
theorem ztx {t:List Nat}{i l:Nat} (h:t[i]?=some l):innL (t.take (i+1))=innL (t.take i)++(innL (t.take i)).map fun p=>p+2 ^ l:=by
 unfold innL;rw [List.take_succ,h,List.foldl_append];rfl
theorem z44 {Ψ:Str->Fn}{L:List Nat}{l:Nat}{o:Bool}{v0 v1 v2 v3:Option (W × Bool)} (hL:L.length<=64) (hl:l < 64):zpy Ψ [v0,v1,v2,v3,some (.lst (zab L),o),some (.int (l:Nat),false)]=some ([v0,v1,v2,v3,some (.lst (zab L),false),some (.int (l:Nat),false)],(.lst (zab (L.map fun p=>p+2 ^ l)),true)):=by
 have e1:=pow1 (l:=l) (by omega);unfold zpy;refine zgo (cap:=[none,none,some 5]) (it:=zbw (gVar 4)) (xs:=[some (.int (l:Nat),false)]) (en:=[v0,v1,v2,v3,some (.lst (zab L),o),some (.int (l:Nat),false)]) (e0:=[v0,v1,v2,v3,some (.lst (zab L),false),some (.int (l:Nat),false)]) (ws:=zab L) (rs:=zab (L.map fun p=>p+2 ^ l)) (by cases o<;>simp! []) (by rw [zap];omega) (by rw [zap,zap,List.length_map]) rfl rfl rfl (fun _ _=>rfl) fun i v w r hw hr=>?_;obtain ⟨p,hp,rfl⟩:=zcb hw;obtain ⟨q,hq,rfl⟩:=zcb hr;rw [List.getElem?_map,hp] at hq;cases hq;have ea:(p:Int)+((2 ^ l:Nat):Int)=((p+2 ^ l:Nat):Int):=by omega
 refine ⟨some (.int (p:Nat),false),false,?_⟩;simp! [e1,one_mul_pow,ea]
theorem zpc (a b:List Nat):zab (a++b)=zab a++zab b:=by unfold zab;exact List.map_append ..
theorem z37 {Ψ:Str->Fn}{q:Nat}{v0 v1 v2 v5:Option (W × Bool)} (hq:q < 64):∃o w5,zph Ψ [v0,v1,v2,some (tmW (letL q),false),some (.lst [.int 0],true),v5]=some ([v0,v1,v2,some (tmW (letL q),false),some (.lst (zab (innL (letL q))),o),w5],.nx):=by
 have l6:(letL q).length<=6:=(zl8 ⟨q,hq⟩ 0).2;unfold zph;obtain ⟨en',h,o,w5,rfl⟩:=zbl (mp:=[]) (T:=.nm 5) (body:=zpn Ψ) (it:=zbw (gVar 3)) (fun i e=>∃o w5,e=[v0,v1,v2,some (tmW (letL q),false),some (.lst (zab (innL ((letL q).take i))),o),w5]) (en:=[v0,v1,v2,some (tmW (letL q),false),some (.lst [.int 0],true),v5]) (e0:=[v0,v1,v2,some (tmW (letL q),false),some (.lst [.int 0],true),v5]) (ws:=zab (letL q)) (by unfold tmW;simp! [];rfl) ⟨true,v5,rfl⟩ fun i w e hw hp=>by
  obtain ⟨o,w5,rfl⟩:=hp;obtain ⟨l,hl,rfl⟩:=zcb hw;have li:i < (letL q).length:=(List.getElem?_eq_some_iff.mp hl).1;have ll:l < 64:=by
   have w:=List.mem_of_getElem? hl;unfold letL dueL at w;have:=List.mem_range.mp (List.mem_filter.mp w).1;omega
  have z:=(zl8 ⟨q,hq⟩ ⟨i,by omega⟩).1;have z:(innL ((letL q).take i)).length<=64:=z;have c1:=z44 (Ψ:=Ψ) (L:=innL ((letL q).take i)) (l:=l) (o:=o) (v0:=v0) (v1:=v1) (v2:=v2) (v3:=some (tmW (letL q),false)) z ll;have lz:((innL ((letL q).take i)).length+(innL ((letL q).take i)).length<=16777216)=True:=eq_true (by omega);refine ⟨[v0,v1,v2,some (tmW (letL q),false),some (.lst (zab (innL ((letL q).take i))),o),some (.int (l:Nat),false)],[v0,v1,v2,some (tmW (letL q),false),some (.lst (zab (innL ((letL q).take (i+1)))),true),some (.int (l:Nat),false)],rfl,.inl ?_,true,_,rfl⟩;rw [ztx hl,zpc];unfold zpn;cases o<;>simp! [c1,zap,List.length_map,lz]
 rw [zap,List.take_length] at h;exact ⟨o,w5,h⟩
theorem z31 {Ψ:Str->Fn}{m:Nat}{xs:List Int}{L:List Nat}{o:Bool}{v0 v2 v3 v5:Option (W × Bool)} (hL:L.length<=64) (hx:∀p∈L,p < xs.length):zqh Ψ [v0,some (.lst (xs.map W.int),false),v2,v3,some (.lst (zab L),o),v5]=some ([v0,some (.lst (xs.map W.int),false),v2,v3,some (.lst (zab L),false),v5],(.lst ((L.map fun p=>xs.getD p 0).map W.int),true)):=by
 unfold zqh;refine zgo (cap:=[none,none,some 1]) (it:=zbw (gVar 4)) (xs:=[some (.lst (xs.map W.int),false)]) (en:=[v0,some (.lst (xs.map W.int),false),v2,v3,some (.lst (zab L),o),v5]) (e0:=[v0,some (.lst (xs.map W.int),false),v2,v3,some (.lst (zab L),false),v5]) (ws:=zab L) (rs:=(L.map fun p=>xs.getD p 0).map W.int) (by cases o<;>simp! []) (by rw [zap];omega) (by rw [zap,List.length_map,List.length_map]) rfl rfl rfl (fun _ _=>rfl) fun i v w r hw hr=>?_;obtain ⟨p,hp,rfl⟩:=zcb hw;rw [List.getElem?_map,List.getElem?_map,hp] at hr;cases hr;have a1:atI (xs.map W.int) (p:Int)=some (.int (xs.getD p 0)):=za2 (by
  rw [List.getElem?_map,List.getD_eq_getElem?_getD,List.getElem?_eq_getElem (hx p (List.mem_of_getElem? hp))];rfl)
 refine ⟨some (.int (p:Nat),false),false,?_⟩;simp! [a1]
noncomputable def zqt (Φ:Fn):Prop:=∀(m:Nat) (xs:List Int),m<=6->Bits xs->xs.length=2 ^ m->Φ [.int (m:Nat),.lst (xs.map W.int)]=some ([.int (m:Nat),.lst (xs.map W.int)],(.tup ((duT m fun i=>xs.getD i 0).map tmW),false))
theorem z43 {Ψ:Str->Fn}{m q:Nat}{xs:List Int}{D:List (List Nat)}{v4 v5:Option (W × Bool)} (hm:m<=6) (hl:xs.length=2 ^ m) (hq:q < 2 ^ m) (hD:D.length<=64):∃w4 w5,zmx Ψ [some (.int (m:Nat),false),some (.lst (xs.map W.int),false),some (.lst (D.map tmW),true),some (tmW (letL q),false),v4,v5]=some ([some (.int (m:Nat),false),some (.lst (xs.map W.int),false),some (.lst ((D++[letL q].filter fun t=>decide (coefF (fun i=>xs.getD i 0) (zby t)=1)).map tmW),true),some (tmW (letL q),false),w4,w5],.nx):=by
 have p6:=zcz hm;have q6:q < 64:=by omega
 obtain ⟨o,w5,l2⟩:=z37 (Ψ:=Ψ) (v0:=some (.int (m:Nat),false)) (v1:=some (.lst (xs.map W.int),false)) (v2:=some (.lst (D.map tmW),true)) (v5:=v5) q6;have pm:=List.isPerm_iff.mp (zsa ⟨q,q6⟩);have pm:(innL (letL q)).Perm (zbg q):=pm;have l6:(innL (letL q)).length<=64:=by
  have a:=(zl8 ⟨q,q6⟩ 6).1;have b:=(zl8 ⟨q,q6⟩ 0).2;have a:(innL ((letL q).take 6)).length<=64:=a;rw [List.take_of_length_le b] at a;exact a
 have c3:=z31 (Ψ:=Ψ) (m:=m) (L:=innL (letL q)) (o:=o) (v0:=some (.int (m:Nat),false)) (v2:=some (.lst (D.map tmW),true)) (v3:=some (tmW (letL q),false)) (v5:=w5) l6 (xs:=xs) fun p hp=>by
  have:=zj1 (pm.mem_iff.mp hp);omega
 have s1:=zy9 ((innL (letL q)).map fun p=>xs.getD p 0);rw [zmb (fun p=>xs.getD p 0) pm] at s1;have cf:((zbg q).map fun p=>xs.getD p 0).sum % 2=coefF (fun i=>xs.getD i 0) q:=rfl;have lt:(D.length < 16777216)=True:=eq_true (by omega);refine ⟨some (.lst (zab (innL (letL q))),false),w5,?_⟩;have e:[letL q].filter (fun t=>decide (coefF (fun i=>xs.getD i 0) (zby t)=1))=if coefF (fun i=>xs.getD i 0) q=1 then [letL q] else []:=by
  rw [List.filter_cons,zdd ⟨q,q6⟩];by_cases c:coefF (fun i=>xs.getD i 0) q=1
  ·rw [if_pos (decide_eq_true c),if_pos c];rfl
  ·rw [if_neg (by rw [decide_eq_false c];decide),if_neg c];rfl
 rw [e];unfold zmx;refine seq_e (e1:=[some (.int (m:Nat),false),some (.lst (xs.map W.int),false),some (.lst (D.map tmW),true),some (tmW (letL q),false),some (.lst [.int 0],true),v5]) ?_ (seq_e l2 ?_)
 ·simp! []
 ·by_cases c : coefF (fun i => xs.getD i 0) q = 1
  ·rw [if_pos c, List.map_append];rw [c] at cf;simp! [c3,s1,cf,List.length_map,lt,List.map_cons,List.map_nil]
  ·rw [if_neg c, List.append_nil];have cz:decide (((zbg q).map fun p=>xs.getD p 0).sum % 2=1)=false:=by rw [cf];exact decide_eq_false c
   simp! [c3,s1,cz]
theorem zs6 {Ψ:Str->Fn} (hT:zw2 (Ψ "_law_terms")):zqt (zag [false,false] 6 (z0x Ψ)):=fun m xs hm hx hl=>by
  have p6:=zcz hm;obtain ⟨tl,ta⟩:=zoo (m:=m) (most:=m) hm hm;have e0:=hT m m hm hm;have lp:∃w3 w4 w5,zn8 Ψ [some (.int (m:Nat),false),some (.lst (xs.map W.int),false),some (.lst [],true),none,none,none]=some ([some (.int (m:Nat),false),some (.lst (xs.map W.int),false),some (.lst ((duT m fun i=>xs.getD i 0).map tmW),true),w3,w4,w5],.nx):=by
    unfold zn8;obtain ⟨en',h,w3,w4,w5,rfl⟩:=zbl (mp:=[]) (T:=.nm 3) (body:=zmx Ψ) (it:=zbw (zae [false,false] (Ψ "_law_terms") (gCns (gArg (gVar 0)) (gCns (gArg (gVar 0)) gA0)))) (fun i e=>∃w3 w4 w5,e=[some (.int (m:Nat),false),some (.lst (xs.map W.int),false),some (.lst ((((zak m m).take i).filter fun t=>decide (coefF (fun i=>xs.getD i 0) (zby t)=1)).map tmW),true),w3,w4,w5]) (en:=[some (.int (m:Nat),false),some (.lst (xs.map W.int),false),some (.lst [],true),none,none,none]) (e0:=[some (.int (m:Nat),false),some (.lst (xs.map W.int),false),some (.lst [],true),none,none,none]) (ws:=(zak m m).map tmW) (by simp! [e0]) ⟨_,_,_,rfl⟩ fun i w e hw hp=>by
      obtain ⟨w3,w4,w5,rfl⟩:=hp;rw [List.getElem?_map] at hw;cases ht:(zak m m)[i]? with
      | none=>rw [ht] at hw;cases hw
      | some t =>
        rw [ht] at hw;cases hw;obtain ⟨q,hq,rfl⟩:=zey hm (List.mem_of_getElem? ht);obtain ⟨x4,x5,hb⟩:=z43 (Ψ:=Ψ) (xs:=xs) (D:=((zak m m).take i).filter fun t=>decide (coefF (fun i=>xs.getD i 0) (zby t)=1)) (v4:=w4) (v5:=w5) hm hl hq (by
          have a:=List.length_filter_le (fun t=>decide (coefF (fun i=>xs.getD i 0) (zby t)=1)) ((zak m m).take i);rw [List.length_take] at a;omega)
        rw [<-List.filter_append] at hb;have tk:(zak m m).take (i+1)=(zak m m).take i++[letL q]:=by rw [List.take_succ,ht];rfl
        rw [<-tk] at hb;exact ⟨_,_,rfl,.inl hb,_,_,_,rfl⟩
    rw [List.length_map,List.take_length] at h;exact ⟨w3,w4,w5,h⟩
  obtain ⟨w3,w4,w5,lp⟩:=lp;have ot:zee [.lst ((duT m fun i=>xs.getD i 0).map tmW)]=some (.tup ((duT m fun i=>xs.getD i 0).map tmW),false):=rfl;unfold z0x;refine zi1 (en:=[some (.int (m:Nat),false),some (.lst (xs.map W.int),false),some (.lst ((duT m fun i=>xs.getD i 0).map tmW),true),w3,w4,w5]) rfl (seq_e (e1:=[some (.int (m:Nat),false),some (.lst (xs.map W.int),false),some (.lst [],true),none,none,none]) ?_ (seq_e lp ?_)) rfl
  · simp! []
  · simp! [ot]
theorem zt0 (f g:Nat->Int) (p:Nat):coefF (fun q=>(f q+g q) % 2) p=(coefF f p+coefF g p) % 2:=by
 unfold coefF;have go:∀L:List Nat,(L.map fun q=>(f q+g q) % 2).sum % 2=((L.map f).sum+(L.map g).sum) % 2:=by
  intro L
  induction L with
  | nil=>rfl
  | cons a L ih=>rw [List.map_cons,List.map_cons,List.map_cons,List.sum_cons,List.sum_cons,List.sum_cons];omega
 rw [go];omega
theorem zse {m q:Nat}{ts:List (List Nat)} (hm:m<=6) (h:zmj m ts) (hq:q < 64):coefF (valF ts) q=indF (ts.map zby) q:=by
 rw [<-zlr (zww (ts.map zby)) hq];exact zgq fun p hp=>(zr8 hm h (by omega)).symm
theorem zw0 (ts:List (List Nat)) (p:Nat):Bit (valF ts p):=by unfold valF Bit;omega
theorem zsg {m most:Nat}{ts:List (List Nat)} (hm:m<=6) (hk:most<=m) (h:ts.Sublist (zak m most)):zmj m ts:=⟨(zur ⟨m,by omega⟩ ⟨most,by omega⟩).sublist h,fun t ht=>zmg ⟨m,by omega⟩ ⟨most,by omega⟩ hk t (h.mem ht)⟩
theorem zsf:∀m k:Fin 7,∀t∈zak m.val k.val,(letL (zby t)).length<=k.val:=by decide +kernel
noncomputable def Deg (m most:Nat) (f:Nat->Int):Prop:=∀q,q < 2 ^ m->coefF f q=1->(letL q).length<=most
theorem z38 {m most:Nat}{ts:List (List Nat)} (hm:m<=6) (hk:most<=m) (h:ts.Sublist (zak m most)):Deg m most (valF ts):=fun q hq e=>by
 have p6:=zcz hm;rw [zse hm (zsg hm hk h) (by omega)] at e;unfold indF at e;split at e
 ·rename_i z;obtain ⟨t,ht,rfl⟩:=List.mem_map.mp z;exact zsf ⟨m,by omega⟩ ⟨most,by omega⟩ t (h.mem ht)
 ·cases e
theorem z36 {m most:Nat}{f g:Nat->Int} (hf:Deg m most f) (hg:Deg m most g):Deg m most fun p=>(f p+g p) % 2:=fun q hq e=>by
 rw [zt0] at e;rcases coef_bit f q with a | a
 ·rcases coef_bit g q with b | b
  ·rw [a,b] at e;cases e
  ·exact hg q hq b
 ·exact hf q hq a
theorem z2m {m most:Nat}{f g:Nat->Int} (h:∀p,p < 2 ^ m->f p=g p) (hf:Deg m most f):Deg m most g:=fun q hq e=>hf q hq ((zgq fun p hp=>h p (by omega)).trans e)
theorem zva {m most:Nat}{f:Nat->Int} (hm:m<=6) (h:Deg m most f):∀t∈duT m f,t.length<=most:=fun t ht=>by
 have p6:=zcz hm;unfold duT at ht;obtain ⟨h1,h2⟩:=List.mem_filter.mp ht;obtain ⟨q,hq,rfl⟩:=zey hm h1;have e:=of_decide_eq_true h2;rw [zdd ⟨q,by omega⟩] at e;exact h q hq e
theorem z5i (c:Int) {m:Nat} (hm:m<=6):oMult (.lst [.int c]) (.int ((2 ^ m:Nat):Int))=some (.lst ((tab (2 ^ m) fun _=>c).map W.int),true):=by
 have p6:=zcz hm;generalize 2 ^ m=z at p6;have line:sizeLine=16777216:=sizeLine_eq;have tc:tab z (fun _=>c)=List.replicate z c:=by unfold tab;rw [List.map_const',List.length_range]
 rw [zqd (xs:=[.int c]) (k:=(z:Int)) (by refine ⟨by omega,by omega,?_⟩;show 1 * (z:Int).toNat<=sizeLine;omega),zmr,Int.toNat_natCast,tc,List.map_replicate]
theorem z3l {b n:Nat} (hb:b<=100):∃(i j:Nat),oMin [.int (b:Nat),.int (n:Nat)]=some (.int (i:Nat),false)/\oMax [.int 3,.int (i:Nat)]=some (.int (j:Nat),false)/\j<=100:=by
 have om:∃i:Nat,oMin [.int (b:Nat),.int (n:Nat)]=some (.int (i:Nat),false)/\i<=b:=by
  by_cases c:(n:Int) < b
  ·exact ⟨n,by show some (W.int (if (n:Int) < b then _ else _),false)=_;rw [if_pos c],by omega⟩
  ·exact ⟨b,by show some (W.int (if (n:Int) < b then _ else _),false)=_;rw [if_neg c],by omega⟩
 obtain ⟨i,om,hi⟩:=om;have ox:∃j:Nat,oMax [.int 3,.int (i:Nat)]=some (.int (j:Nat),false)/\j<=100:=by
  by_cases c:(i:Int) > 3
  ·exact ⟨i,by show some (W.int (if (i:Int) > 3 then _ else _),false)=_;rw [if_pos c],by omega⟩
  ·exact ⟨3,by show some (W.int (if (i:Int) > 3 then _ else _),false)=_;rw [if_neg c];rfl,by omega⟩
 obtain ⟨j,ox,hj⟩:=ox;exact ⟨i,j,om,ox,hj⟩
noncomputable def z4y (Φ:Fn):Prop:=∀(k:Nat) (st:W),HS k st->k+10 < big->∃(st' : W) (m t:Nat),Φ [st]=some ([st'],(kdW m t,false))/\HS (k+2) st'/\1<=m/\m<=6/\t<=m
noncomputable def zl1 (Ψ:Str->Fn):GS:=(gSeq (gSet [0] 1 (gOp2 oAdd (gArg (gC (.int 1))) (gArg (zae [true,false] (Ψ "_law_take") (gCns (zaa 0) (gCns (gArg (gC (.int 6))) gA0)))))) (gRet (zba (gCns (gArg (gVar 1)) (gCns (gArg (zae [true,false] (Ψ "_law_take") (gCns (zaa 0) (gCns (gArg (gOp2 oAdd (zaa 1) (gArg (gC (.int 1))))) gA0)))) gA0)))))
theorem z3a {Ψ:Str->Fn} (hT:ze0 (Ψ "_law_take")):z4y (zag [true] 2 (zl1 Ψ)):=fun k st hs hk=>by
 obtain ⟨st1,r,e1,g1,m1,m6⟩:=hT k st 6 hs (by omega) (by decide) (by decide);obtain ⟨r,rfl⟩:=Int.eq_ofNat_of_zero_le m1;have ec:(1:Int)+(r:Int)=((1+r:Nat):Int):=by omega
 obtain ⟨st2,t,e2,g2,t0,t1⟩:=hT (k+1) st1 (((1+r:Nat):Int)+1) g1 (by omega) (by omega) (by omega);obtain ⟨t,rfl⟩:=Int.eq_ofNat_of_zero_le t0;refine ⟨st2,1+r,t,?_,g2,by omega,by omega,by omega⟩;unfold zl1 kdW;simp! [e1,ec,e2]
theorem z4k {m:Nat}{f g:Nat->Int} (hf:∀p,Bit (f p)) (hg:∀p,Bit (g p)):Builtin.bitXor (zbm (tab (2 ^ m) f)) (zbm (tab (2 ^ m) g))=zbm (tab (2 ^ m) fun p=>(f p+g p) % 2):=by
  rw [zju (zht fun i _=>hf i) (zht fun i _=>hg i) (by rw [zdm,zdm])];congr 1;have go:∀L:List Nat,List.zipWith dif (L.map f) (L.map g)=L.map fun p=>(f p+g p) % 2:=by
    intro L
    induction L with
    | nil=>rfl
    | cons a L ih =>
      rw [List.map_cons,List.map_cons,List.zipWith_cons_cons,List.map_cons,ih];congr 1;rcases hf a with h | h<;>rcases hg a with h' | h'<;>rw [h,h']<;>rfl
  exact go _
theorem z22 (n:Nat):W.tup (rngW 0 n)=tmW (List.range n):=by
 unfold rngW tmW;exact congrArg W.tup (List.map_congr_left fun i _=>by rw [Int.zero_add])
theorem z48 {a:GA}{en e1:En}{n:Nat} (h:a en=some (e1,.inl (.int (n:Nat)))) (hn:n<=1000000):zxw (gCns a gA0) en=some (e1,(tmW (List.range n),false)):=by
 have r:lrOk (n:Int)=true:=by
  unfold lrOk zcu;rw [decide_eq_true (by omega),decide_eq_true (by omega),decide_eq_true (by omega)];rfl
 have h2:gCns a gA0 en=some (e1,[.inl (.int (n:Nat))]):=by unfold gCns;rw [h];rfl
 have:=zyk h2 rfl r;rw [Int.toNat_natCast,z22] at this;exact this
end L2
namespace L2
open PySem PySem.Spec PyProof.Rows
theorem zw8:∀m k:Fin 7,∀s:Fin (2 ^ m.val),(letL s.val).length<=k.val->letL s.val∈zak m.val k.val:=by decide +kernel
theorem zrz:∀m:Fin 7,∀q:Fin (2 ^ m.val),∀s∈zbg ((2 ^ m.val - 1) ^^^ q.val),s < 2 ^ m.val/\(letL s).length+(letL q.val).length<=m.val:=by decide +kernel
theorem zzn:∀m:Fin 7,∀q p:Fin (2 ^ m.val),((zbg ((2 ^ m.val - 1) ^^^ q.val)).filter fun s=>s &&& p.val == s).length % 2=if p.val &&& q.val == p.val then 1 else 0:=by decide +kernel
theorem zmc (f:Nat->Int) (c:Nat->Bool):∀L:List Nat,((L.filter c).map f).sum=(L.map fun p=>f p * (if c p then 1 else 0)).sum
  | []=>rfl
  | a::L=>by
    rw [List.map_cons,List.sum_cons,<-zmc f c L];cases h:c a with
    | true=>rw [List.filter_cons_of_pos h,List.map_cons,List.sum_cons,if_pos rfl,Int.mul_one]
    | false=>rw [List.filter_cons_of_neg (by rw [h];decide),if_neg (by decide),Int.mul_zero,Int.zero_add]
theorem zml (c:Nat->Bool):∀A:List Nat,((A.filter c).length:Int)=(A.map fun s=>if c s then (1:Int) else 0).sum
  | []=>rfl
  | a::A=>by
    rw [List.map_cons,List.sum_cons,<-zml c A];cases h:c a with
    | true=>rw [List.filter_cons_of_pos h,List.length_cons,if_pos rfl];omega
    | false=>rw [List.filter_cons_of_neg (by rw [h];decide),if_neg (by decide)];omega
theorem zli (f g:Nat->Int):∀L:List Nat,(L.map fun p=>f p+g p).sum=(L.map f).sum+(L.map g).sum
 | []=>rfl
 | a::L=>by rw [List.map_cons,List.map_cons,List.map_cons,List.sum_cons,List.sum_cons,List.sum_cons,zli f g L];omega
theorem zpd (f:Nat->Int) (h:∀p,f p=0):∀L:List Nat,(L.map f).sum=0
 | []=>rfl
 | a::L=>by rw [List.map_cons,List.sum_cons,zpd f h L,h];rfl
theorem zls (f:Nat->Int) (B:Nat->Nat->Int) (L:List Nat):∀A:List Nat,(L.map fun p=>f p * (A.map fun s=>B s p).sum).sum=(A.map fun s=>(L.map fun p=>f p * B s p).sum).sum
  | []=>zpd _ (fun p=>by show f p * 0=0;omega) L
  | a::A=>by
    rw [List.map_cons,List.sum_cons,<-zls f B L A,<-zli];congr 1;refine List.map_congr_left fun p _=>?_;rw [List.map_cons,List.sum_cons,Int.mul_add]
theorem zrh (f a b:Nat->Int):∀L:List Nat,(∀p∈L,a p % 2=b p % 2)->(L.map fun p=>f p * a p).sum % 2=(L.map fun p=>f p * b p).sum % 2
  | [],_=>rfl
  | x::L,h=>by
    have h1:=h x List.mem_cons_self;have ih:=zrh f a b L fun p hp=>h p (List.mem_cons_of_mem _ hp);rw [List.map_cons,List.map_cons,List.sum_cons,List.sum_cons,Int.add_emod,ih,Int.mul_emod,h1,<-Int.mul_emod,<-Int.add_emod]
theorem sum_even:∀{L:List Int},(∀x∈L,x % 2=0)->L.sum % 2=0
  | [],_=>rfl
  | a::L,h=>by
    have h1:=h a List.mem_cons_self;have ih:=sum_even fun x hx=>h x (List.mem_cons_of_mem a hx);rw [List.sum_cons];omega
theorem zh3 (m:Nat) (f:Nat->Int) (x:List Nat):dotP (tab (2 ^ m) f) (zfw m x)=((List.range (2 ^ m)).map fun p=>f p * valF [x] p).sum % 2:=by
 unfold dotP zfw tab;rw [zg2]
theorem zzu {m t:Nat}{f:Nat->Int} (hm:m<=6) (ht:t<=m) (h:∀x∈chkT m t,dotP (tab (2 ^ m) f) (zfw m x)=0):Deg m t f:=fun q hq e=>by
 have p6:=zcz hm;refine Nat.le_of_not_lt fun lt=>?_;have z0:0∈zbg ((2 ^ m - 1) ^^^ q):=by
  unfold zbg;exact List.mem_filter.mpr ⟨List.mem_range.mpr (by omega),by simp⟩
 have l0:=(zrz ⟨m,by omega⟩ ⟨q,hq⟩ 0 z0).2;have l0:(letL 0).length+(letL q).length<=m:=l0;have ez:coefF f q=0:=by
  unfold coefF;rw [<-zgh ⟨m,by omega⟩ ⟨q,hq⟩];show (((List.range (2 ^ m)).filter fun p=>p &&& q == p).map f).sum % 2=0;rw [zmc,zrh f (fun p=>if p &&& q == p then 1 else 0) (fun p=>((zbg ((2 ^ m - 1) ^^^ q)).map fun s=>if s &&& p == s then (1:Int) else 0).sum) _ fun p hp=>?_,zls]
  ·refine sum_even fun x hx => ?_;obtain ⟨s,hs,rfl⟩:=List.mem_map.mp hx;obtain ⟨s1,s2⟩:=zrz ⟨m,by omega⟩ ⟨q,hq⟩ s hs;have s1:s < 2 ^ m:=s1;have s2:(letL s).length+(letL q).length<=m:=s2;have ne:t≠m:=by omega
   have mem:letL s∈chkT m t:=by
    unfold chkT;rw [if_neg ne];exact zw8 ⟨m,by omega⟩ ⟨m - t - 1,by omega⟩ ⟨s,s1⟩ (by show (letL s).length<=m - t - 1;omega)
   have d:=h (letL s) mem;rw [zh3] at d;refine Eq.trans ?_ d;congr 2;refine List.map_congr_left fun p hp=>?_;have lp:=List.mem_range.mp hp;have lh:hasT (letL s) p=(s &&& p == s):=zez ⟨s,by omega⟩ ⟨p,by omega⟩;rw [zpm,lh]
  ·have lp := List.mem_range.mp hp;have o:=zzn ⟨m,by omega⟩ ⟨q,hq⟩ ⟨p,lp⟩;have o:((zbg ((2 ^ m - 1) ^^^ q)).filter fun s=>s &&& p == s).length % 2=if p &&& q == p then 1 else 0:=o;rw [<-zml];show (if (p &&& q == p)=true then (1:Int) else 0) % 2=_;split at o
   ·rename_i c;rw [if_pos c];omega
   ·rename_i c;rw [if_neg c];omega
 rw [ez] at e;cases e
theorem z28 {m t:Nat}{f:Nat->Int} (hm:m<=6) (ht:t<=m) (hf:∀p,Bit (f p)) (h:Deg m t f):∀x∈chkT m t,dotP (tab (2 ^ m) f) (zfw m x)=0:=fun x hx=>by
 have ef:tab (2 ^ m) f=tab (2 ^ m) (valF (duT m f)):=zy4 fun p hp=>(z03 hf hm hp).symm;rw [ef];unfold chkT at hx;split at hx
 ·exact absurd hx List.not_mem_nil
 ·rename_i c;have dx:x.length<=m - t - 1:=zrk ⟨m,by omega⟩ ⟨m - t - 1,by omega⟩ x hx;refine ziw hm (zmg ⟨m,by omega⟩ ⟨m - t - 1,by omega⟩ (by show m - t - 1<=m;omega) x hx) fun s hs=>⟨(List.mem_filter.mp hs).1,?_⟩;have:=zva hm h s hs;omega
theorem z35 (m:Nat) (f g:Nat->Int) (x:List Nat):dotP (tab (2 ^ m) fun p=>(f p+g p) % 2) (zfw m x)=(dotP (tab (2 ^ m) f) (zfw m x)+dotP (tab (2 ^ m) g) (zfw m x)) % 2:=by
  rw [zh3,zh3,zh3];have go:∀L:List Nat,(L.map fun p=>(f p+g p) % 2 * valF [x] p).sum % 2=((L.map fun p=>f p * valF [x] p).sum+(L.map fun p=>g p * valF [x] p).sum) % 2:=by
    intro L
    induction L with
    | nil=>rfl
    | cons a L ih =>
      rw [List.map_cons,List.map_cons,List.map_cons,List.sum_cons,List.sum_cons,List.sum_cons];rcases zw0 [x] a with e | e<;>rw [e]<;>omega
  rw [go];omega
theorem z27 {xs:List Int}{n:Nat} (h:xs.length=n):(tab n fun i=>xs.getD i 0)=xs:=by
 apply List.ext_getElem?;intro i;by_cases hi:i < n
 ·rw [zhq hi,List.getD_eq_getElem?_getD,List.getElem?_eq_getElem (by omega)];rfl
 ·rw [List.getElem?_eq_none (by rw [zdm];omega),List.getElem?_eq_none (by omega)]
theorem eq_t {as bs:List Int} (h:∀n∈as,zh8 n) (h' : ∀n∈bs,zh8 n):oEq (.tup (as.map W.int)) (.tup (bs.map W.int))=some (.bl (decide (as=bs)),false):=by
 obtain ⟨_,_,h3,h5,_⟩:=zv0 h;obtain ⟨_,_,_,h5',_⟩:=zv0 h';have e:eqD (.tup (as.map W.int)) (.tup (bs.map W.int))=some (decide (as=bs)):=by
  unfold eqD;rw [zqe,zqe];show (if (ndI as).canLay0 && (ndI bs).canLay0 && decide ((ndI as).depth<=100) then some (PyData.eqv (ndI as) (ndI bs)) else none)=_;rw [h5,h5',decide_eq_true (by omega)];show some (PyData.eqv (ndI as) (ndI bs))=_;unfold ndI;rw [PyData.eqv,PySem.W.ked_eqvAll]
 show (eqD _ _).bind _=_;rw [e];rfl
theorem z02 {x:Int} (h:Bit x):zh8 x:=by rcases h with e | e<;>rw [e]<;>exact ztj (k:=1) (by decide) (by decide)
noncomputable def z5h (Φ:Fn):Prop:=∀(k:Nat) (st:W) (m t:Nat),HS k st->k+100 < big->m<=6->t<=m->∃(st' : W) (ts:List (List Nat)),Φ [st,kdW m t]=some ([st',kdW m t],(.lst ((tab (2 ^ m) (valF ts)).map W.int),true))/\HS (k+66) st'/\ts.Sublist (zak m t)
end L2
namespace L2
open PySem PySem.Spec PyProof.Rows
noncomputable def zp8:W->Prop
 | .int n=>zh8 n
 | .bl _=>True
 | .str _=>True
 | .non=>True
 | .tup _=>True
 | _=>False
noncomputable def IT (n:Nat) (w:W):Prop:=∃ws,w=.tup ws/\ws.length<=n/\∀x∈ws,zp8 x
theorem IT.mono {n k:Nat}{w:W} (h:IT n w) (hk:n<=k):IT k w:=by
 obtain ⟨ws,e,l,q⟩:=h;exact ⟨ws,e,by omega,q⟩
theorem IT.ints {ns:List Int}{n:Nat} (h:∀x∈ns,zh8 x) (hl:ns.length<=n):IT n (.tup (ns.map W.int)):=⟨_,rfl,by rw [List.length_map];exact hl,fun x hx=>by
 obtain ⟨y,hy,rfl⟩:=List.mem_map.mp hx;exact h y hy⟩
noncomputable def Ex (g:GE) (en:En) (P:W->Prop):Prop:=∃w fl,g en=some (en,(w,fl))/\P w
noncomputable def Ax (a:GA) (en:En) (P:W->Prop):Prop:=∃x w,a en=some (en,x)/\resA en x=some w/\P w
noncomputable def Xs (as:GAs) (en:En) (n:Nat) (P:W->Prop):Prop:=∃ws:List W,as en=some (en,ws.map Sum.inl)/\ws.length=n/\∀w∈ws,P w
section
variable {en:En}{P Q:W->Prop}
theorem Ex.wk {g:GE} (h:Ex g en P) (q:∀w,P w->Q w):Ex g en Q:=by
 obtain ⟨w,fl,e,p⟩:=h;exact ⟨w,fl,e,q w p⟩
theorem z5d {g:GE} (h:Ex g en P):Ax (gArg g) en P:=by
 obtain ⟨w,fl,e,p⟩:=h;exact ⟨.inl w,w,by unfold gArg;rw [e];rfl,rfl,p⟩
theorem ex_c {w:W} (p:P w):Ex (gC w) en P:=⟨w,false,rfl,p⟩
theorem z5g {i:Nat}{w:W}{fl:Bool} (h:en[i]?=some (some (w,fl))) (p:P w):Ax (zaa i) en P:=by
 cases fl with
 | false=>exact ⟨.inl w,w,by unfold zaa;rw [h],rfl,p⟩
 | true=>exact ⟨.inr i,w,by unfold zaa;rw [h],by show (match en[i]? with | some (some (w,_))=>some w | _=>none)=_;rw [h],p⟩
theorem z5a {i:Nat}{w:W} (h:en[i]?=some (some (w,false))) (p:P w):Ex (gVar i) en P:=⟨w,false,by
 unfold gVar;rw [h];show some (en.set i (some (w,false)),(w,false))=_;rw [zl6 h],p⟩
theorem z1u {o:O2}{a b:GA}{R:W->Prop} (ha:Ax a en P) (hb:Ax b en Q) (h:∀u v,P u->Q v->∃w fl,o u v=some (w,fl)/\R w):Ex (gOp2 o a b) en R:=by
 obtain ⟨x,u,e1,r1,p⟩:=ha;obtain ⟨y,v,e2,r2,q⟩:=hb;obtain ⟨w,fl,e3,r⟩:=h u v p q;exact ⟨w,fl,by unfold gOp2;rw [e1];show (b en).bind _=_;rw [e2];show (resA en x).bind _=_;rw [r1];show (resA en y).bind _=_;rw [r2];show (o u v).bind _=_;rw [e3];rfl,r⟩
theorem z2n {as bs:List W} (h:as.length+bs.length<=1000):oAdd (.tup as) (.tup bs)=some (.tup (as++bs),false):=by
  have s9:(1000:Nat)<=sizeLine:=by decide
  cases as with
  | nil=>rfl
  | cons a as =>
    show (match (if (a::as).length+bs.length<=sizeLine then some (W.tup (a::as++bs),false) else none) with | some p=>some p | none=>_)=_;rw [if_pos (by omega)]
theorem z49 {a b:GA}{n k:Nat} (ha:Ax a en (IT n)) (hb:Ax b en (IT k)) (h:n+k<=1000):Ex (gOp2 oAdd a b) en (IT (n+k)):=z1u ha hb fun u v p q=>by
 obtain ⟨as,rfl,l1,q1⟩:=p;obtain ⟨bs,rfl,l2,q2⟩:=q;refine ⟨_,_,z2n (by omega),as++bs,rfl,by rw [List.length_append];omega,fun x hx=>?_⟩;rcases List.mem_append.mp hx with z | z
 ·exact q1 x z
 ·exact q2 x z
theorem z5m {a:GA}{lo hi:GO}{l h:Option Int}{n:Nat} (ha:Ax a en (IT n)) (h1:lo en=some (en,l)) (h2:hi en=some (en,h)):Ex (gSl a lo hi) en (IT n):=by
 obtain ⟨x,u,e1,r1,as,rfl,l1,q1⟩:=ha;refine ⟨.tup (cutW as l h),false,by unfold gSl;rw [e1];show (lo en).bind _=_;rw [h1];show (hi en).bind _=_;rw [h2];show (resA en x).bind _=_;rw [r1];rfl,cutW as l h,rfl,?_,fun x hx=>?_⟩
 ·unfold cutW;rw [List.length_take,List.length_drop];omega
 ·unfold cutW at hx;exact q1 x (List.mem_of_mem_drop (List.mem_of_mem_take hx))
theorem z5b {a:GA}{k:GO}{n:Nat} (ha:Ax a en (IT n)) (h1:k en=some (en,some (-1))):Ex (zw6 a k) en (IT n):=by
 obtain ⟨x,u,e1,r1,as,rfl,l1,q1⟩:=ha;exact ⟨.tup as.reverse,false,zx6 e1 h1 r1 rfl,as.reverse,rfl,by rw [List.length_reverse];exact l1,fun x hx=>q1 x (List.mem_reverse.mp hx)⟩
theorem xs_0:Xs gA0 en 0 P:=⟨[],rfl,rfl,fun w h=>by cases h⟩
theorem xs_c {g:GE}{as:GAs}{n:Nat} (h:Ex g en P) (hs:Xs as en n P):Xs (gCns (gArg g) as) en (n+1) P:=by
 obtain ⟨w,fl,e,p⟩:=h;obtain ⟨ws,e2,l,q⟩:=hs;refine ⟨w::ws,?_,by rw [List.length_cons,l],fun x hx=>?_⟩
 ·unfold gCns gArg;rw [e];show (as en).bind _=_;rw [e2];rfl
 ·rcases List.mem_cons.mp hx with rfl | hx
  ·exact p
  ·exact q x hx
theorem z5e {as:GAs}{n:Nat} (h:Xs as en n P) (hn:n<=1000):∃ws,zcl as en=some (en,(.lst ws,true))/\ws.length=n/\∀w∈ws,P w:=by
 have s9:(1000:Nat)<=sizeLine:=by decide
 obtain ⟨ws,e,l,q⟩:=h;refine ⟨ws,?_,l,q⟩;unfold zcl;rw [e];show (za3 (ws.map Sum.inl)).bind _=_;rw [zcf];show (if ws.length<=sizeLine then _ else none)=_;rw [if_pos (by omega)]
theorem zyn {as:GAs}{n:Nat} (h:Xs as en n zp8) (hn:n<=1000):Ex (zba as) en (IT n):=by
 have s9:(1000:Nat)<=sizeLine:=by decide
 obtain ⟨ws,e,l,q⟩:=h;refine ⟨.tup ws,false,?_,ws,rfl,by omega,q⟩;unfold zba;rw [e];show (za3 (ws.map Sum.inl)).bind _=_;rw [zcf];show (if ws.length<=sizeLine then _ else none)=_;rw [if_pos (by omega)]
theorem z5c {g:GE} (h:Ex g en zp8):Ex (zba (gCns (gArg g) gA0)) en (IT 1):=zyn (xs_c h xs_0) (by decide)
end
noncomputable def isI:W->Option Int
 | .int i=>some i
 | _=>none
noncomputable def zt4 (ds:List Int):W->Bool
  | .tup ws=>match zbi ws with
    | some as=>decide (as=ds)
    | none=>false
  | _=>false
noncomputable def zxk (w:W) (d:Int):Bool:=match w with
 | .int i=>decide (i=d)
 | _=>false
noncomputable def za7:W->Bool
 | .int _=>true
 | _=>false
theorem zhv:∀{ws:List W},ws.all za7=true->∃as:List Int,ws=as.map W.int
  | [],_=>⟨[],rfl⟩
  | w::ws,h=>by
    rw [List.all_cons,Bool.and_eq_true] at h;obtain ⟨as,rfl⟩:=zhv h.2;cases w with
    | int i=>exact ⟨i::as,rfl⟩
    | _=>exact absurd h.1 Bool.false_ne_true
theorem zj0:∀{ws:List W},ws.all za7=false->zbi ws=none
  | [],h=>by cases h
  | w::ws,h=>by
    rw [List.all_cons] at h;cases w with
    | int i =>
      have:=zj0 (ws:=ws) (by simpa [za7] using h);show (zbi ws).bind _=none;rw [this];rfl
    | _=>rfl
theorem zgt:∀(as ds:List Int),as.length=ds.length->(List.zipWith zxk (as.map W.int) ds).all id=decide (as=ds)
  | [],[],_=>rfl
  | a::as,d::ds,h=>by
    have ih:=zgt as ds (Nat.succ.inj h);rw [List.map_cons,List.zipWith_cons_cons,List.all_cons,ih];show (decide (a=d) && decide (as=ds))=decide (a::as=d::ds);rw [Bool.eq_iff_iff,Bool.and_eq_true,decide_eq_true_eq,decide_eq_true_eq,decide_eq_true_eq,List.cons.injEq]
  | [],_::_,h=>by cases h
  | _::_,[],h=>by cases h
theorem zh7:∀(ws:List W) (ds:List Int),ws.length=ds.length->ws.all za7=false->(List.zipWith zxk ws ds).all id=false
  | [],[],_,h=>by cases h
  | w::ws,d::ds,hl,h=>by
    rw [List.all_cons] at h;rw [List.zipWith_cons_cons,List.all_cons];cases w with
    | int i =>
      rw [zh7 ws ds (Nat.succ.inj hl) (by simpa [za7] using h)];exact Bool.and_false _
    | _=>rfl
  | [],_::_,h,_=>by cases h
  | _::_,[],h,_=>by cases h
theorem zqr (ds as:List Int):zt4 ds (.tup (as.map W.int))=decide (as=ds):=by
 show (match zbi (as.map W.int) with | some as=>decide (as=ds) | none=>false)=_;rw [zc9]
theorem zom {ds:List Int}{ws:List W} (h:ws.all za7=false):zt4 ds (.tup ws)=false:=by
 show (match zbi ws with | some as=>decide (as=ds) | none=>false)=_;rw [zj0 h]
theorem zzp {ws:List W}{ds:List Int} (hl:ws.length=ds.length):(List.zipWith zxk ws ds).all id=zt4 ds (.tup ws):=by
  cases h:ws.all za7 with
  | true =>
    obtain ⟨as,rfl⟩:=zhv h;rw [List.length_map] at hl;rw [zqr,zgt as ds hl]
  | false =>
    rw [zom h];exact zh7 ws ds hl h
theorem z29 {ws:List W}{ds:List Int} (hl:ws.length≠ds.length):zt4 ds (.tup ws)=false:=by
  cases h:ws.all za7 with
  | true =>
    obtain ⟨as,rfl⟩:=zhv h;rw [List.length_map] at hl;rw [zqr];exact decide_eq_false fun e=>hl (by rw [e])
  | false=>exact zom h
end L2
set_option maxHeartbeats 2000000
namespace L2
open PySem PySem.Spec PyProof.Rows
noncomputable def dkI (i:Int):DKey:=.inl (.inl i)
noncomputable def dkN (p:Nat):DKey:=.inl (.inl (p:Int))
theorem z4q (a b:Int) (h:dkI a=dkI b):a=b:=Sum.inl.inj (Sum.inl.inj h)
theorem z47 (a b:Nat) (h:dkN a=dkN b):a=b:=Int.ofNat.inj (Sum.inl.inj (Sum.inl.inj h))
theorem z5f (i:Int):keyD (.int i)=some (dkI i):=rfl
section
variable {κ:Type} [DecidableEq κ] {f:κ->DKey}
theorem zxh (hf:∀a b,f a=f b->a=b) (g:κ->W) (p:κ):∀L:List κ,valW ((L.map f).zip (L.map g)) (f p)=if p∈L then some (g p) else none
  | []=>rfl
  | q::L=>by
    rw [List.map_cons,List.map_cons,List.zip_cons_cons,ze7,zxh hf g p L];by_cases h:q=p
    · subst h;rw [if_pos rfl,if_pos List.mem_cons_self]
    · rw [if_neg fun e => h (hf _ _ e)]
      by_cases m:p∈L
      · rw [if_pos m,if_pos (List.mem_cons_of_mem _ m)]
      · rw [if_neg m,if_neg fun z=>by rcases List.mem_cons.mp z with z | z;exact h z.symm;exact m z]
theorem zqz (hf:∀a b,f a=f b->a=b) (g:κ->W) (p:κ) (w:W):∀L:List κ,List.zipWith (fun k' v'=>if k'=f p then w else v') (L.map f) (L.map g)=L.map fun q=>if q=p then w else g q
  | []=>rfl
  | q::L=>by
    rw [List.map_cons,List.map_cons,List.zipWith_cons_cons,zqz hf g p w L,List.map_cons];by_cases h:q=p
    · subst h;rw [if_pos rfl,if_pos rfl]
    · rw [if_neg fun e=>h (hf _ _ e),if_neg h]
theorem zel (hf:∀a b,f a=f b->a=b) {L:List κ}{p:κ}:f p∈L.map f↔p∈L:=by
 rw [List.mem_map];exact ⟨fun ⟨a,h,e⟩=>hf _ _ e ▸ h,fun h=>⟨p,h,rfl⟩⟩
theorem z3y (hf:∀a b,f a=f b->a=b) (g:κ->W) {p:κ} (w:W) {L:List κ} (h:p∈L):zm4 (L.map f) (L.map g) (f p) w=L.map fun q=>if q=p then w else g q:=by
 unfold zm4;rw [if_pos ((zel hf).mpr h),zqz hf]
theorem z3b (hf:∀a b,f a=f b->a=b) (ws:List W) {p:κ} (w:W) {L:List κ} (h:p ∉ L):zm4 (L.map f) ws (f p) w=ws++[w]:=by
 unfold zm4;rw [if_neg (mt (zel hf).mp h)]
theorem z3u (hf:∀a b,f a=f b->a=b) {p:κ}{L:List κ} (h:p∈L):znh (L.map f) (f p)=L.map f:=by
 unfold znh;rw [if_pos ((zel hf).mpr h)]
theorem z3c (hf:∀a b,f a=f b->a=b) {p:κ}{L:List κ} (h:p ∉ L):znh (L.map f) (f p)=L.map f++[f p]:=by
 unfold znh;rw [if_neg (mt (zel hf).mp h)]
end
theorem z4t (p:Nat) (L:List Nat):zjn (dkN p) (L.map dkN)=true:=by
 unfold zjn;rw [List.all_map];exact List.all_eq_true.mpr fun _ _=>rfl
theorem z4h (p:Int) (L:List Int):zjn (dkI p) (L.map dkI)=true:=by
 unfold zjn;rw [List.all_map];exact List.all_eq_true.mpr fun _ _=>rfl
theorem z5k {i:Nat}{g g' : GE}{en:En}{ks:List DKey}{ws:List W}{f f1:Bool}{u w:W}{r:W × Bool}{d:DKey} (h0:en[i]?=some (some (.dct ks ws,f))) (h1:g en=some (en,(u,f1))) (h2:g' en=some (en,r)) (hd:keyD u=some d) (hv:valW (ks.zip ws) d=some w):zth i g g' en=some (en,(w,false)):=by
 unfold zth;simp only [h0,h1,h2,Option.bind_some,hd,hv]
theorem z5j {i:Nat}{g g' : GE}{en:En}{ks:List DKey}{ws:List W}{f f1:Bool}{u:W}{r:W × Bool}{d:DKey} (h0:en[i]?=some (some (.dct ks ws,f))) (h1:g en=some (en,(u,f1))) (h2:g' en=some (en,r)) (hd:keyD u=some d) (hv:valW (ks.zip ws) d=none) (hs:zjn d ks=true):zth i g g' en=some (en,r):=by
 unfold zth;simp only [h0,h1,h2,Option.bind_some,hd,hv,hs,if_true]
theorem z5l {i:Nat}{k g:GE}{en e1:En}{ks:List DKey}{ws:List W}{f f2:Bool}{u w:W}{d:DKey} (h:g en=some (e1,(w,f))) (hk:k e1=some (e1,(u,f2))) (hi:e1[i]?=some (some (.dct ks ws,true))) (hd:keyD u=some d) (hs:zjn d ks=true) (hl:ks.length < sizeLine):z0m i k g en=some (e1.set i (some (.dct (znh ks d) (zm4 ks ws d w),true)),.nx):=by
 unfold z0m;simp only [h,hk,hi,Option.bind_some,hd,hs,Bool.true_and,decide_eq_true hl,if_true]
theorem z5n {ks:List DKey}{ws:List W}{u w:W}{d:DKey} (hd:keyD u=some d) (hv:valW (ks.zip ws) d=some w):oIxD (.dct ks ws) u=some (w,false):=by
 unfold oIxD;simp only [hd,hv,Option.bind_some]
theorem zrg:∀L:List Nat,znc (L.map dkN)=some (L.map fun p:Nat=>W.int (p:Int))
  | []=>rfl
  | p::L=>by
    show (znc (L.map dkN)).bind _=_;rw [zrg L];rfl
theorem zwg:∀L:List Int,znc (L.map dkI)=some (L.map W.int)
  | []=>rfl
  | p::L=>by
    show (znc (L.map dkI)).bind _=_;rw [zwg L];rfl
theorem zt1 {ns:List Int} (h:ns.Pairwise (·<=·)):zqi ns=ns:=zs2 (List.Perm.refl _) h
theorem z3t {L:List Nat} (h:L.Pairwise (· < ·)) (hn:L≠[]) (ws:List W):zvr [.dct (L.map dkN) ws]=some (.lst (zab L),true):=by
 have e:zbi (L.map fun p:Nat=>W.int (p:Int))=some (L.map fun p:Nat=>(p:Int)):=by
  have:=zc9 (L.map fun p:Nat=>(p:Int));rw [List.map_map] at this;exact this
 have hs:zqi (L.map fun p:Nat=>(p:Int))=L.map fun p:Nat=>(p:Int):=zt1 (by rw [List.pairwise_map];exact h.imp fun hab=>by omega);have hm:(L.map dkN).isEmpty=false:=by cases L with
  | nil=>exact absurd rfl hn
  | cons _ _=>rfl
 unfold zvr;simp only [zrg,Option.bind_some,e,hm,hs];rw [if_neg Bool.false_ne_true,<-zso]
end L2
namespace My
open PySem PySem.Spec PyProof.Rows L2
noncomputable def top (i:Nat):Stmt:=PySem.Challenge.pw_yesnowords_k89_forms_and_their_weights.main.body.getD i (.Pass ⟨0,0,0,0⟩)
noncomputable def zc7:Fd:=⟨"is_whole",["thing"],["thing"],[false],top 1⟩
noncomputable def zeo:Fd:=⟨"is_row",["thing","size"],["thing","size"],[false,false],top 2⟩
noncomputable def zav:Fd:=⟨"letters_needed",["form"],["form","pairs","rest"],[false],top 4⟩
noncomputable def zdz:Fd:=⟨"is_form",["many","thing"],["many","thing","pairs","rest"],[false,false],top 5⟩
noncomputable def zcn:Fd:=⟨"form_poly",["form"],["form","pairs","rest","rests"],[false],top 6⟩
noncomputable def zbo:Fd:=⟨"form_weight",["many","form"],["many","form","pairs","rest","half","aside"],[false,false],top 7⟩
noncomputable def zck:Fd:=⟨"_law_hand",["_law_script"],["_law_script","_law_state","_law_weighs","_law_cell","_law_k","_law_one"],[false],top 9⟩
noncomputable def zcj:Fd:=⟨"_law_take",["_law_state","_law_count"],["_law_state","_law_count","_law_digit","_law_mixed"],[true,false],top 10⟩
noncomputable def zbq:Fd:=⟨"_law_values",["_law_many","_law_poly"],["_law_many","_law_poly","_law_found","_law_place","_law_says_yes"],[false,false],top 11⟩
noncomputable def zco:Fd:=⟨"_law_sent",["_law_turning_here","_law_place"],["_law_turning_here","_law_place","_law_found","_law_letter","_law_image"],[false,false],top 12⟩
noncomputable def zbs:Fd:=⟨"_law_turned",["_law_many","_law_turning_here","_law_bits"],["_law_many","_law_turning_here","_law_bits"],[false,false,false],top 13⟩
noncomputable def zbe:Fd:=⟨"_law_turning",["_law_state","_law_many"],["_law_state","_law_many","_law_images","_law_turn","_law_one","_law_other","_law_letter"],[true,false],top 14⟩
noncomputable def zci:Fd:=⟨"_law_same",["_law_found","_law_due_here"],["_law_found","_law_due_here"],[false,false],top 15⟩
noncomputable def zbc:Fd:=⟨"_law_is_form",["_law_many","_law_thing"],["_law_many","_law_thing"],[false,false],top 16⟩
noncomputable def zdh:Fd:=⟨"_law_due",["_law_form"],["_law_form","_law_found"],[false],top 17⟩
noncomputable def zb0:Fd:=⟨"_law_forms",["_law_many"],["_law_many","_law_found","_law_pairs"],[false],top 18⟩
noncomputable def zdg:Fd:=⟨"_law_odd",["_law_state"],["_law_state","_law_pairs","_law_rest","_law_odd_here","_law_some"],[true],top 19⟩
noncomputable def zk5:Fd:=⟨"law",["_law_script"],["_law_script","_law_state","_law_many","_law_form","_law_turn","_law_thing","_law_found","_law_k","_law_some","_law_bits"],[false],top 20⟩
noncomputable def T:List Fd:=[zc7,zeo,zav,zdz,zcn,zbo,zck,zcj,zbq,zco,zbs,zbe,zci,zbc,zdh,zb0,zdg,zk5]
noncomputable def bn:List Str:=["abs","all","bool","enumerate","int","isinstance","len","max","min","range","str","sum","tuple","zip"]
noncomputable def zeb (Ψ:Str->Fn):GS:=(gRet (gAnd (gOp1 (oIsi .int) (zaa 0)) (gNot (gOp1 (oIsi .bool) (zaa 0)))))
theorem znt (Ψ:Str->Fn) (d:Nat):zat T bn Ψ (d+2) zc7=some (zeb Ψ):=by kernel_rfl
theorem znn:T.find? (·.nm == ("is_whole" : Str))=some zc7:=by kernel_rfl
theorem zm0 (d:Nat):sem T bn (d+3) "is_whole" = zag [false] 1 (zeb (sem T bn (d+2))):=zcw znn (znt _ d)
noncomputable def zg4 (Ψ:Str->Fn):GS:=(gRet (gAnd (gOp1 (oIsi .tuple) (zaa 0)) (gOp2 oEq (gArg (gOpN oLen (gCns (zaa 0) gA0))) (zaa 1))))
theorem zte (Ψ:Str->Fn) (d:Nat):zat T bn Ψ (d+2) zeo=some (zg4 Ψ):=by kernel_rfl
theorem zs0:T.find? (·.nm == ("is_row" : Str))=some zeo:=by kernel_rfl
theorem zsv (d:Nat):sem T bn (d+3) "is_row" = zag [false,false] 2 (zg4 (sem T bn (d+2))):=zcw zs0 (zte _ d)
noncomputable def zau (Ψ:Str->Fn):GS:=(gSeq (gAsg [] (.tp [1,2]) (gVar 0)) (gRet (gOp2 oAdd (gArg (gOp2 oMult (gArg (gC (.int 2))) (zaa 1))) (gArg (gIf (zal (gOp2 oEq (zaa 2) (gArg (gC (.int 2))))) (gC (.int 1)) (gC (.int 0)))))))
theorem zej (Ψ:Str->Fn) (d:Nat):zat T bn Ψ (d+2) zav=some (zau Ψ):=by kernel_rfl
theorem zei:T.find? (·.nm == ("letters_needed" : Str))=some zav:=by kernel_rfl
theorem zek (d:Nat):sem T bn (d+3) "letters_needed" = zag [false] 3 (zau (sem T bn (d+2))):=zcw zei (zej _ d)
noncomputable def zbh (Ψ:Str->Fn):GS:=(gSeq (gIfS (gOrT (zec (zal (zae [false,false] (Ψ "is_row") (gCns (gArg (gVar 1)) (gCns (gArg (gC (.int 2))) gA0))))) (gOrT (zec (zal (zae [false] (Ψ "is_whole") (gCns (gArg (gOp2 oIx (zaa 1) (gArg (gC (.int 0))))) gA0)))) (zec (zal (zae [false] (Ψ "is_whole") (gCns (gArg (gOp2 oIx (zaa 1) (gArg (gC (.int 1))))) gA0)))))) (gRet (gC (.bl false))) zbk) (gSeq (gAsg [] (.tp [2,3]) (gVar 1)) (gRet (gAnd (gOp2 (oI yes2 fun i j=>.bl (decide (j<=i))) (zaa 2) (gArg (gC (.int 0)))) (gAnd (zln (oI yes2 fun i j=>.bl (decide (i<=j))) (oI yes2 fun i j=>.bl (decide (i<=j))) (gArg (gC (.int 0))) (zaa 3) (gArg (gC (.int 2)))) (gOp2 (oI yes2 fun i j=>.bl (decide (i<=j))) (gArg (zae [false] (Ψ "letters_needed") (gCns (gArg (gVar 1)) gA0))) (zaa 0)))))))
theorem zqf (Ψ:Str->Fn) (d:Nat):zat T bn Ψ (d+2) zdz=some (zbh Ψ):=by kernel_rfl
theorem zo5:T.find? (·.nm == ("is_form" : Str))=some zdz:=by kernel_rfl
theorem zrd (d:Nat):sem T bn (d+3) "is_form" = zag [false,false] 4 (zbh (sem T bn (d+2))):=zcw zo5 (zqf _ d)
noncomputable def zin (Ψ:Str->Fn):GE:=zcq [none,none] (.nm 1) (zca (gCns (zaa 1) gA0)) gYes (zba (gCns (gArg (gOp2 oMult (gArg (gC (.int 2))) (zaa 1))) (gCns (gArg (gOp2 oAdd (gArg (gOp2 oMult (gArg (gC (.int 2))) (zaa 1))) (gArg (gC (.int 1))))) gA0)))
noncomputable def zch (Ψ:Str->Fn):GS:=(gSeq (gAsg [] (.tp [1,2]) (gVar 0)) (gSeq (gSet [] 3 (zba (gCns (gArg (zba gA0)) (gCns (gArg (zba (gCns (gArg (zba gA0)) gA0))) (gCns (gArg (zba (gCns (gArg (zba (gCns (gArg (gOp2 oMult (gArg (gC (.int 2))) (zaa 1))) gA0))) gA0))) gA0))))) (gRet (gOp2 oAdd (gArg (gOp2 oIx (zaa 3) (zaa 2))) (gArg (gOpN zee (gCns (gArg (zin Ψ)) gA0)))))))
theorem zk6 (Ψ:Str->Fn) (d:Nat):zat T bn Ψ (d+2) zcn=some (zch Ψ):=by kernel_rfl
theorem zlc:T.find? (·.nm == ("form_poly" : Str))=some zcn:=by kernel_rfl
theorem zke (d:Nat):sem T bn (d+3) "form_poly" = zag [false] 4 (zch (sem T bn (d+2))):=zcw zlc (zk6 _ d)
noncomputable def zbn (Ψ:Str->Fn):GS:=(gSeq (gAsg [] (.tp [2,3]) (gVar 1)) (gSeq (gSet [] 4 (gOp2 (oI cPow fun i j=>.int (i * 2 ^ j.toNat)) (gArg (gC (.int 1))) (gArg (gOp2 (oI yes2 fun i j=>.int (i - j)) (zaa 0) (gArg (gC (.int 1))))))) (gSeq (gIfS (zal (gOp2 oEq (zaa 3) (gArg (gC (.int 2))))) (zdq [] 4) zbk) (gSeq (gSet [] 5 (gOp2 (oI cPow fun i j=>.int (i * 2 ^ j.toNat)) (gArg (gC (.int 1))) (gArg (gOp2 (oI yes2 fun i j=>.int (i - j)) (gArg (gOp2 (oI yes2 fun i j=>.int (i - j)) (zaa 0) (gArg (gC (.int 1))))) (zaa 2))))) (gRet (gIf (zal (gOp2 oEq (zaa 3) (gArg (gC (.int 0))))) (gOp2 (oI yes2 fun i j=>.int (i - j)) (zaa 4) (zaa 5)) (gOp2 oAdd (zaa 4) (zaa 5))))))))
theorem zhy (Ψ:Str->Fn) (d:Nat):zat T bn Ψ (d+2) zbo=some (zbn Ψ):=by kernel_rfl
theorem zhu:T.find? (·.nm == ("form_weight" : Str))=some zbo:=by kernel_rfl
theorem zg3 (d:Nat):sem T bn (d+3) "form_weight" = zag [false,false] 6 (zbn (sem T bn (d+2))):=zcw zhu (zhy _ d)
noncomputable def zjo (Ψ:Str->Fn):GS:=(gSeq (zay 1 (gC (.int 0)) (gOp2 oAdd (gArg (gOp2 oIx (zaa 1) (gArg (gC (.int 0))))) (gArg (gOp2 oMult (gArg (gOp2 (oI (fun _ j=>decide (0 < j)) fun i j=>.int (i % j)) (gArg (gOpN oAbs (gCns (zaa 3) gA0))) (gArg (gOp2 (oI cPow fun i j=>.int (i ^ j.toNat)) (gArg (gC (.int 10))) (gArg (gC (.int 60))))))) (zaa 2))))) (gSet [] 2 (gOp2 oMult (zaa 2) (gArg (gOp2 (oI cPow fun i j=>.int (i ^ j.toNat)) (gArg (gC (.int 10))) (gArg (gC (.int 60))))))))
noncomputable def zia (Ψ:Str->Fn):GS:=gFor [] (.nm 3) (zbw (gSl (zaa 0) zb8 (zew (gC (.int 63))))) (zjo Ψ)
noncomputable def zjj (Ψ:Str->Fn):GS:=(gSeq (gSet [] 5 (gOp2 oAdd (gArg (gOp2 oAdd (gArg (gOp2 (oI (fun _ j=>decide (0 < j)) fun i j=>.int (i % j)) (zaa 3) (gArg (gC (.int 2305843009213693951))))) (gArg (gOp2 oMult (gArg (gC (.int 7919))) (zaa 4))))) (gArg (gC (.int 3))))) (zay 1 (gC (.int 1)) (gOp2 (oI (fun _ j=>decide (0 < j)) fun i j=>.int (i % j)) (gArg (gOp2 oAdd (gArg (gOp2 oMult (gArg (gOp2 oIx (zaa 1) (gArg (gC (.int 1))))) (gArg (gC (.int 48271))))) (zaa 5))) (gArg (gC (.int 2305843009213693951))))))
noncomputable def zi0 (Ψ:Str->Fn):GS:=gFor [] (.tp [4,3]) (zh4 (gSl (zaa 0) zb8 (zew (gC (.int 63))))) (zjj Ψ)
noncomputable def ze9 (Ψ:Str->Fn):GS:=(gSeq (gSet [] 1 (zcl (gCns (gArg (gC (.int 0))) (gCns (gArg (gC (.int 0))) (gCns (gArg (gC (.int 0))) gA0))))) (gSeq (gIfS (zga (zal (gOp2 (oI yes2 fun i j=>.bl (decide (j < i))) (gArg (gOpN oLen (gCns (zaa 0) gA0))) (gArg (gC (.int 0))))) (zal (gOp2 (oI yes2 fun i j=>.bl (decide (j<=i))) (gArg (gOp2 oIx (zaa 0) (gArg (gC (.int 0))))) (gArg (gOp2 (oI cPow fun i j=>.int (i ^ j.toNat)) (gArg (gC (.int 10))) (gArg (gC (.int 18)))))))) (gSeq (gSet [] 2 (gC (.int 1))) (zia Ψ)) zbk) (gSeq (zi0 Ψ) (zdq [] 1))))
theorem zlh (Ψ:Str->Fn) (d:Nat):zat T bn Ψ (d+2) zck=some (ze9 Ψ):=by kernel_rfl
theorem zk1:T.find? (·.nm == ("_law_hand" : Str))=some zck:=by kernel_rfl
theorem zkc (d:Nat):sem T bn (d+3) "_law_hand" = zag [false] 6 (ze9 (sem T bn (d+2))):=zcw zk1 (zlh _ d)
noncomputable def zex (Ψ:Str->Fn):GS:=(gSeq (gIfS (zal (gOp2 (oI yes2 fun i j=>.bl (decide (j < i))) (gArg (gOp2 oIx (zaa 0) (gArg (gC (.int 0))))) (gArg (gC (.int 0))))) (gSeq (gSet [0] 2 (gOp2 (oI (fun _ j=>decide (0 < j)) fun i j=>.int (i % j)) (gArg (gOp2 oIx (zaa 0) (gArg (gC (.int 0))))) (zaa 1))) (gSeq (zay 0 (gC (.int 0)) (gOp2 (oI cDiv fun i j=>.int (i / j)) (gArg (gOp2 oIx (zaa 0) (gArg (gC (.int 0))))) (zaa 1))) (zdq [0] 2))) zbk) (gSeq (zay 0 (gC (.int 2)) (gOp2 oAdd (gArg (gOp2 oIx (zaa 0) (gArg (gC (.int 2))))) (gArg (gC (.int 1))))) (gSeq (gSet [0] 3 (gOp2 (oI (fun _ j=>decide (0 < j)) fun i j=>.int (i % j)) (gArg (gOp2 oMult (gArg (gOp2 oAdd (gArg (gOp2 oAdd (gArg (gOp2 oIx (zaa 0) (gArg (gC (.int 1))))) (gArg (gOp2 oMult (gArg (gOp2 oMult (gArg (gC (.int 65537))) (gArg (gOp2 oIx (zaa 0) (gArg (gC (.int 2))))))) (gArg (gOp2 oIx (zaa 0) (gArg (gC (.int 2))))))))) (gArg (gC (.int 11))))) (gArg (gC (.int 48271))))) (gArg (gC (.int 2305843009213693921))))) (gSeq (gSet [0] 3 (gOp2 (oI (fun _ j=>decide (0 < j)) fun i j=>.int (i % j)) (gArg (gOp2 oMult (zaa 3) (gArg (gOp2 oAdd (gArg (gOp2 (oI (fun _ j=>decide (0 < j)) fun i j=>.int (i % j)) (zaa 3) (gArg (gC (.int 1000003))))) (gArg (gOp2 oMult (gArg (gC (.int 99991))) (gArg (gOp2 oIx (zaa 0) (gArg (gC (.int 2))))))))))) (gArg (gC (.int 2305843009213693907))))) (gRet (gOp2 (oI (fun _ j=>decide (0 < j)) fun i j=>.int (i % j)) (gArg (gOp2 oAdd (gArg (gOp2 (oI cDiv fun i j=>.int (i / j)) (zaa 3) (gArg (gC (.int 97))))) (gArg (gOp2 (oI cDiv fun i j=>.int (i / j)) (zaa 3) (gArg (gC (.int 1000033))))))) (zaa 1)))))))
theorem zk0 (Ψ:Str->Fn) (d:Nat):zat T bn Ψ (d+2) zcj=some (zex Ψ):=by kernel_rfl
theorem zk8:T.find? (·.nm == ("_law_take" : Str))=some zcj:=by kernel_rfl
theorem zdn (d:Nat):sem T bn (d+3) "_law_take" = zag [true,false] 4 (zex (sem T bn (d+2))):=zcw zk8 (zk0 _ d)
noncomputable def zgb (Ψ:Str->Fn):GE:=zcq [none,none,some 2] (.nm 1) (zbw (gVar 1)) gYes (gOp2 oEq (gArg (gOp2 (oI (fun _ j=>decide (0 < j)) fun i j=>.int (i % j)) (gArg (gOp2 (oI cDiv fun i j=>.int (i / j)) (zaa 2) (gArg (gOp2 (oI cPow fun i j=>.int (i * 2 ^ j.toNat)) (gArg (gC (.int 1))) (zaa 1))))) (gArg (gC (.int 2))))) (gArg (gC (.int 1))))
noncomputable def zf8 (Ψ:Str->Fn):GE:=zcq [none,none,some 3] (.nm 1) (zbw (gVar 1)) (zal (gOpN (oBl fun bs=>bs.all id) (gCns (gArg (zgb Ψ)) gA0))) (gVar 1)
noncomputable def zft (Ψ:Str->Fn):GS:=(gSeq (gSet [] 4 (zf8 Ψ)) (zff (gApp 2 (gOp2 (oI (fun _ j=>decide (0 < j)) fun i j=>.int (i % j)) (gArg (gOpN oLen (gCns (zaa 4) gA0))) (gArg (gC (.int 2)))))))
noncomputable def zf1 (Ψ:Str->Fn):GS:=gFor [] (.nm 3) (zca (gCns (gArg (gOp2 (oI cPow fun i j=>.int (i * 2 ^ j.toNat)) (gArg (gC (.int 1))) (zaa 0))) gA0)) (zft Ψ)
noncomputable def zdx (Ψ:Str->Fn):GS:=(gSeq (gSet [] 2 (zcl gA0)) (gSeq (zf1 Ψ) (zdq [] 2)))
theorem zgz (Ψ:Str->Fn) (d:Nat):zat T bn Ψ (d+2) zbq=some (zdx Ψ):=by kernel_rfl
theorem zgx:T.find? (·.nm == ("_law_values" : Str))=some zbq:=by kernel_rfl
theorem zhr (d:Nat):sem T bn (d+3) "_law_values" = zag [false,false] 5 (zdx (sem T bn (d+2))):=zcw zgx (zgz _ d)
noncomputable def zc3 (Ψ:Str->Fn):GS:=(gIfS (zal (gOp2 oEq (gArg (gOp2 (oI (fun _ j=>decide (0 < j)) fun i j=>.int (i % j)) (gArg (gOp2 (oI cDiv fun i j=>.int (i / j)) (zaa 1) (gArg (gOp2 (oI cPow fun i j=>.int (i * 2 ^ j.toNat)) (gArg (gC (.int 1))) (zaa 3))))) (gArg (gC (.int 2))))) (gArg (gC (.int 1))))) (gSet [] 2 (gOp2 (oI yes2 fun i j=>.int (Builtin.bitXor i j)) (zaa 2) (zaa 4))) zbk)
noncomputable def zc0 (Ψ:Str->Fn):GS:=gFor [] (.tp [3,4]) (zh4 (gOp2 oIx (zaa 0) (gArg (gC (.int 0))))) (zc3 Ψ)
noncomputable def zcm (Ψ:Str->Fn):GS:=(gSeq (gSet [] 2 (gOp2 oIx (zaa 0) (gArg (gC (.int 1))))) (gSeq (zc0 Ψ) (zdq [] 2)))
theorem zkm (Ψ:Str->Fn) (d:Nat):zat T bn Ψ (d+2) zco=some (zcm Ψ):=by kernel_rfl
theorem zkg:T.find? (·.nm == ("_law_sent" : Str))=some zco:=by kernel_rfl
theorem zki (d:Nat):sem T bn (d+3) "_law_sent" = zag [false,false] 5 (zcm (sem T bn (d+2))):=zcw zkg (zkm _ d)
noncomputable def zb7 (Ψ:Str->Fn):GE:=zcq [none,none,some 2,some 1] (.nm 1) (zca (gCns (gArg (gOp2 (oI cPow fun i j=>.int (i * 2 ^ j.toNat)) (gArg (gC (.int 1))) (zaa 0))) gA0)) gYes (gOp2 oIx (zaa 2) (gArg (zae [false,false] (Ψ "_law_sent") (gCns (gArg (gVar 3)) (gCns (gArg (gVar 1)) gA0)))))
noncomputable def zbr (Ψ:Str->Fn):GS:=(gRet (zb7 Ψ))
theorem zh0 (Ψ:Str->Fn) (d:Nat):zat T bn Ψ (d+2) zbs=some (zbr Ψ):=by kernel_rfl
theorem zgv:T.find? (·.nm == ("_law_turned" : Str))=some zbs:=by kernel_rfl
theorem zhg (d:Nat):sem T bn (d+3) "_law_turned" = zag [false,false,false] 3 (zbr (sem T bn (d+2))):=zcw zgv (zh0 _ d)
noncomputable def zbz (Ψ:Str->Fn):GE:=zcq [none,none] (.nm 1) (zca (gCns (zaa 1) gA0)) gYes (gOp2 (oI cPow fun i j=>.int (i * 2 ^ j.toNat)) (gArg (gC (.int 1))) (zaa 1))
noncomputable def za0 (Ψ:Str->Fn):GS:=(gSeq (gSet [0] 4 (zae [true,false] (Ψ "_law_take") (gCns (zaa 0) (gCns (gArg (gVar 1)) gA0)))) (gSeq (gSet [0] 5 (gOp2 (oI (fun _ j=>decide (0 < j)) fun i j=>.int (i % j)) (gArg (gOp2 oAdd (gArg (gOp2 oAdd (zaa 4) (gArg (gC (.int 1))))) (gArg (zae [true,false] (Ψ "_law_take") (gCns (zaa 0) (gCns (gArg (gOp2 (oI yes2 fun i j=>.int (i - j)) (zaa 1) (gArg (gC (.int 1))))) gA0)))))) (zaa 1))) (zay 2 (gVar 4) (gOp2 (oI yes2 fun i j=>.int (Builtin.bitXor i j)) (gArg (gOp2 oIx (zaa 2) (zaa 4))) (gArg (gOp2 oIx (zaa 2) (zaa 5)))))))
noncomputable def zbu (Ψ:Str->Fn):GS:=gFor [0] (.nm 3) (zca (gCns (gArg (gOp2 oMult (gArg (zae [true,false] (Ψ "_law_take") (gCns (zaa 0) (gCns (gArg (gC (.int 13))) gA0)))) (gArg (gOpN oInt (gCns (gArg (gOp2 (oI yes2 fun i j=>.bl (decide (j < i))) (zaa 1) (gArg (gC (.int 1))))) gA0))))) gA0)) (za0 Ψ)
noncomputable def za6 (Ψ:Str->Fn):GS:=(zff (gIns 2 (zae [true,false] (Ψ "_law_take") (gCns (zaa 0) (gCns (gArg (gVar 1)) gA0))) (zlb 2 (gC (.int 0)))))
noncomputable def zbt (Ψ:Str->Fn):GS:=gFor [0] (.nm 6) (zca (gCns (zaa 1) gA0)) (za6 Ψ)
noncomputable def zbf (Ψ:Str->Fn):GS:=(gSeq (gSet [0] 2 (zbz Ψ)) (gSeq (zbu Ψ) (gSeq (zbt Ψ) (gRet (zba (gCns (gArg (gOpN zee (gCns (zaa 2) gA0))) (gCns (gArg (zae [true,false] (Ψ "_law_take") (gCns (zaa 0) (gCns (gArg (gOp2 (oI cPow fun i j=>.int (i * 2 ^ j.toNat)) (gArg (gC (.int 1))) (zaa 1))) gA0)))) gA0)))))))
theorem zfu (Ψ:Str->Fn) (d:Nat):zat T bn Ψ (d+2) zbe=some (zbf Ψ):=by kernel_rfl
theorem zf4:T.find? (·.nm == ("_law_turning" : Str))=some zbe:=by kernel_rfl
theorem zf0 (d:Nat):sem T bn (d+3) "_law_turning" = zag [true,false] 7 (zbf (sem T bn (d+2))):=zcw zf4 (zfu _ d)
noncomputable def zc2 (Ψ:Str->Fn):GE:=zcq [none,none,none] (.tp [1,2]) (gZip (gVar 0) (gVar 1)) gYes (zae [false,false] (Ψ "_law_same") (gCns (gArg (gVar 1)) (gCns (gArg (gVar 2)) gA0)))
noncomputable def zaw (Ψ:Str->Fn):GS:=(gSeq (gIfS (zal (gOp1 (oIsi .tuple) (zaa 1))) (gSeq (gIfS (gOrT (zec (zal (gOp1 (oIsi .tuple) (zaa 0)))) (zal (gOp2 oNe (gArg (gOpN oLen (gCns (zaa 0) gA0))) (gArg (gOpN oLen (gCns (zaa 1) gA0)))))) (gRet (gC (.bl false))) zbk) (gRet (gOpN (oBl fun bs=>bs.all id) (gCns (gArg (zc2 Ψ)) gA0)))) zbk) (gSeq (gIfS (zal (gOp2 oIs (zaa 1) (gArg (gC .non)))) (gRet (gOp2 oIs (zaa 0) (gArg (gC .non)))) zbk) (gSeq (gIfS (zal (gOp1 (oIsi .str) (zaa 1))) (gRet (gAnd (gOp1 (oIsi .str) (zaa 0)) (gOp2 oEq (zaa 0) (zaa 1)))) zbk) (gSeq (gIfS (gOrT (zal (gOp1 (oIsi .bool) (zaa 1))) (zal (gOp1 (oIsi .bool) (zaa 0)))) (gRet (gAnd (gOp1 (oIsi .bool) (zaa 0)) (gAnd (gOp1 (oIsi .bool) (zaa 1)) (gOp2 oEq (zaa 0) (zaa 1))))) zbk) (gRet (gAnd (gOp1 (oIsi .int) (zaa 0)) (gOp2 oEq (zaa 0) (zaa 1))))))))
theorem zkn (Ψ:Str->Fn) (d:Nat):zat T bn Ψ (d+2) zci=some (zaw Ψ):=by kernel_rfl
theorem zky:T.find? (·.nm == ("_law_same" : Str))=some zci:=by kernel_rfl
theorem zcp (d:Nat):sem T bn (d+3) "_law_same" = zag [false,false] 2 (zaw (sem T bn (d+2))):=zcw zky (zkn _ d)
noncomputable def zaz (Ψ:Str->Fn):GE:=zcq [none,none] (.nm 1) (zbw (gVar 1)) gYes (gAnd (gOp1 (oIsi .int) (zaa 1)) (gNot (gOp1 (oIsi .bool) (zaa 1))))
noncomputable def zan (Ψ:Str->Fn):GS:=(gSeq (gIfS (gOrT (zec (zal (gOp1 (oIsi .tuple) (zaa 1)))) (zal (gOp2 oNe (gArg (gOpN oLen (gCns (zaa 1) gA0))) (gArg (gC (.int 2)))))) (gRet (gC (.bl false))) zbk) (gSeq (gIfS (zec (zal (gOpN (oBl fun bs=>bs.all id) (gCns (gArg (zaz Ψ)) gA0)))) (gRet (gC (.bl false))) zbk) (gRet (gAnd (gOp2 (oI yes2 fun i j=>.bl (decide (j<=i))) (gArg (gOp2 oIx (zaa 1) (gArg (gC (.int 0))))) (gArg (gC (.int 0)))) (gAnd (gOp2 (oIn false) (gArg (gOp2 oIx (zaa 1) (gArg (gC (.int 1))))) (gArg (zba (gCns (gArg (gC (.int 0))) (gCns (gArg (gC (.int 1))) (gCns (gArg (gC (.int 2))) gA0)))))) (gOp2 (oI yes2 fun i j=>.bl (decide (i<=j))) (gArg (gOp2 oAdd (gArg (gOp2 oMult (gArg (gC (.int 2))) (gArg (gOp2 oIx (zaa 1) (gArg (gC (.int 0))))))) (gArg (gOpN oInt (gCns (gArg (gOp2 oEq (gArg (gOp2 oIx (zaa 1) (gArg (gC (.int 1))))) (gArg (gC (.int 2))))) gA0))))) (zaa 0)))))))
theorem zfx (Ψ:Str->Fn) (d:Nat):zat T bn Ψ (d+2) zbc=some (zan Ψ):=by kernel_rfl
theorem zf2:T.find? (·.nm == ("_law_is_form" : Str))=some zbc:=by kernel_rfl
theorem zf3 (d:Nat):sem T bn (d+3) "_law_is_form" = zag [false,false] 2 (zan (sem T bn (d+2))):=zcw zf2 (zfx _ d)
noncomputable def zkv (Ψ:Str->Fn):GE:=zcq [none,none] (.nm 1) (zca (gCns (gArg (gOp2 oIx (zaa 0) (gArg (gC (.int 0))))) gA0)) gYes (zba (gCns (gArg (gOp2 oMult (gArg (gC (.int 2))) (zaa 1))) (gCns (gArg (gOp2 oAdd (gArg (gOp2 oMult (gArg (gC (.int 2))) (zaa 1))) (gArg (gC (.int 1))))) gA0)))
noncomputable def zdi (Ψ:Str->Fn):GS:=(gSeq (gSet [] 1 (gOp2 oIx (gArg (zcl (gCns (gArg (zcl gA0)) (gCns (gArg (zcl (gCns (gArg (zba gA0)) gA0))) (gCns (gArg (zcl (gCns (gArg (zba (gCns (gArg (gOp2 oMult (gArg (gC (.int 2))) (gArg (gOp2 oIx (zaa 0) (gArg (gC (.int 0))))))) gA0))) gA0))) gA0))))) (gArg (gOp2 oIx (zaa 0) (gArg (gC (.int 1))))))) (gRet (gOpN zee (gCns (gArg (gOp2 oAdd (zaa 1) (gArg (zkv Ψ)))) gA0))))
theorem zm9 (Ψ:Str->Fn) (d:Nat):zat T bn Ψ (d+2) zdh=some (zdi Ψ):=by kernel_rfl
theorem znr:T.find? (·.nm == ("_law_due" : Str))=some zdh:=by kernel_rfl
theorem zn0 (d:Nat):sem T bn (d+3) "_law_due" = zag [false] 2 (zdi (sem T bn (d+2))):=zcw znr (zm9 _ d)
noncomputable def zhe (Ψ:Str->Fn):GE:=zcq [none,none,some 2] (.nm 1) (zca (gCns (gArg (gOp2 oAdd (gArg (gC (.int 2))) (gArg (gOpN oInt (gCns (gArg (gOp2 (oI yes2 fun i j=>.bl (decide (i < j))) (gArg (gOp2 oMult (gArg (gC (.int 2))) (zaa 2))) (zaa 0))) gA0))))) gA0)) gYes (zba (gCns (gArg (gVar 2)) (gCns (gArg (gVar 1)) gA0)))
noncomputable def zg7 (Ψ:Str->Fn):GS:=(zff (gExt 1 (zhe Ψ)))
noncomputable def zh1 (Ψ:Str->Fn):GS:=gFor [] (.nm 2) (zca (gCns (gArg (gOp2 oAdd (gArg (gOp2 (oI cDiv fun i j=>.int (i / j)) (zaa 0) (gArg (gC (.int 2))))) (gArg (gC (.int 1))))) gA0)) (zg7 Ψ)
noncomputable def zam (Ψ:Str->Fn):GS:=(gSeq (gSet [] 1 (zcl gA0)) (gSeq (zh1 Ψ) (zdq [] 1)))
theorem zi2 (Ψ:Str->Fn) (d:Nat):zat T bn Ψ (d+2) zb0=some (zam Ψ):=by kernel_rfl
theorem zjd:T.find? (·.nm == ("_law_forms" : Str))=some zb0:=by kernel_rfl
theorem zjk (d:Nat):sem T bn (d+3) "_law_forms" = zag [false] 3 (zam (sem T bn (d+2))):=zcw zjd (zi2 _ d)
noncomputable def zda (Ψ:Str->Fn):GS:=(gSeq (gPar [0] 1 2 (gOp2 (oI yes2 fun i j=>.int (i - j)) (gArg (zae [true,false] (Ψ "_law_take") (gCns (zaa 0) (gCns (gArg (gC (.int 6))) gA0)))) (gArg (gC (.int 1)))) (gOp2 (oI yes2 fun i j=>.int (i - j)) (gArg (zae [true,false] (Ψ "_law_take") (gCns (zaa 0) (gCns (gArg (gC (.int 5))) gA0)))) (gArg (gC (.int 1))))) (gSeq (gSet [0] 3 (gOp2 oIx (gArg (zcl (gCns (gArg (gC (.bl true))) (gCns (gArg (gC (.bl false))) (gCns (gArg (gC .non)) (gCns (gArg (gC (.str "0"))) (gCns (gArg (zba (gCns (gArg (gC (.int 0))) gA0))) (gCns (gArg (gOp2 (oI cPow fun i j=>.int (i ^ j.toNat)) (gArg (gC (.int 10))) (gArg (gC (.int 20))))) (gCns (gArg (gC (.int 2))) (gCns (gArg (gC (.int 0))) gA0)))))))))) (gArg (zae [true,false] (Ψ "_law_take") (gCns (zaa 0) (gCns (gArg (gC (.int 8))) gA0)))))) (gSeq (gSet [0] 4 (zcl (gCns (gArg (zba (gCns (gArg (gVar 1)) (gCns (gArg (gVar 2)) gA0)))) (gCns (gArg (zba (gCns (gArg (gVar 3)) (gCns (gArg (gVar 2)) gA0)))) (gCns (gArg (zba (gCns (gArg (gVar 1)) (gCns (gArg (gVar 3)) gA0)))) (gCns (gArg (zcl (gCns (gArg (gVar 1)) (gCns (gArg (gVar 2)) gA0)))) (gCns (gArg (zba (gCns (gArg (gVar 1)) gA0))) (gCns (gArg (zba (gCns (gArg (gVar 1)) (gCns (gArg (gVar 2)) (gCns (gArg (gC (.int 0))) gA0))))) (gCns (gArg (gVar 3)) (gCns (gArg (zba (gCns (gArg (gVar 2)) (gCns (gArg (gVar 1)) gA0)))) (gCns (gArg (zba gA0)) gA0))))))))))) (gRet (gOp2 oIx (zaa 4) (gArg (zae [true,false] (Ψ "_law_take") (gCns (zaa 0) (gCns (gArg (gC (.int 9))) gA0)))))))))
theorem znl (Ψ:Str->Fn) (d:Nat):zat T bn Ψ (d+2) zdg=some (zda Ψ):=by kernel_rfl
theorem znu:T.find? (·.nm == ("_law_odd" : Str))=some zdg:=by kernel_rfl
theorem zm7 (d:Nat):sem T bn (d+3) "_law_odd" = zag [true] 5 (zda (sem T bn (d+2))):=zcw znu (znl _ d)
noncomputable def zmm (Ψ:Str->Fn):GS:=(gSeq (gIfS (gOrT (zal (gOp2 zmn (gArg (zae [false,false] (Ψ "is_form") (gCns (gArg (gVar 2)) (gCns (gArg (gVar 3)) gA0)))) (gArg (gC (.bl true))))) (zec (zal (zae [false,false] (Ψ "_law_same") (gCns (gArg (zae [false] (Ψ "form_poly") (gCns (gArg (gVar 3)) gA0))) (gCns (gArg (zae [false] (Ψ "_law_due") (gCns (gArg (gVar 3)) gA0))) gA0)))))) (gRet (gC (.bl false))) zbk) (gIfS (zec (zal (zae [false,false] (Ψ "_law_same") (gCns (gArg (zae [false,false] (Ψ "form_weight") (gCns (gArg (gVar 2)) (gCns (gArg (gVar 3)) gA0)))) (gCns (gArg (gOpN oSum (gCns (gArg (zae [false,false] (Ψ "_law_values") (gCns (gArg (gVar 2)) (gCns (gArg (zae [false] (Ψ "_law_due") (gCns (gArg (gVar 3)) gA0))) gA0)))) gA0))) gA0))))) (gRet (gC (.bl false))) zbk))
noncomputable def zrl (Ψ:Str->Fn):GS:=gFor [] (.nm 3) (zbw (zae [false] (Ψ "_law_forms") (gCns (gArg (gVar 2)) gA0))) (zmm Ψ)
noncomputable def zmu (Ψ:Str->Fn):GS:=(gSeq (gSet [] 5 (zae [true] (Ψ "_law_odd") (gCns (zaa 1) gA0))) (gSeq (gSet [] 6 (zae [false,false] (Ψ "is_form") (gCns (gArg (gVar 2)) (gCns (gArg (gVar 5)) gA0)))) (gIfS (gOrT (zec (zal (gOp1 (oIsi .bool) (zaa 6)))) (zal (gOp2 oNe (zaa 6) (gArg (zae [false,false] (Ψ "_law_is_form") (gCns (gArg (gVar 2)) (gCns (gArg (gVar 5)) gA0))))))) (gRet (gC (.bl false))) zbk)))
noncomputable def zn5 (Ψ:Str->Fn):GS:=gFor [] (.nm 4) (zca (gCns (gArg (gOp2 oAdd (gArg (gC (.int 1))) (gArg (zae [true,false] (Ψ "_law_take") (gCns (zaa 1) (gCns (gArg (gC (.int 7))) gA0)))))) gA0)) (zmu Ψ)
noncomputable def zl5 (Ψ:Str->Fn):GS:=(gSeq (zrl Ψ) (zn5 Ψ))
noncomputable def zo4 (Ψ:Str->Fn):GS:=gFor [] (.nm 2) (zk3 (gCns (gArg (gC (.int 1))) (gCns (gArg (gC (.int 7))) gA0))) (zl5 Ψ)
noncomputable def zmw (Ψ:Str->Fn):GS:=(gSeq (gSet [] 2 (gOp2 oAdd (gArg (gC (.int 1))) (gArg (zae [true,false] (Ψ "_law_take") (gCns (zaa 1) (gCns (gArg (gC (.int 6))) gA0)))))) (gSeq (gSet [] 8 (zae [false] (Ψ "_law_forms") (gCns (gArg (gVar 2)) gA0))) (gSeq (gSet [] 3 (gOp2 oIx (zaa 8) (gArg (zae [true,false] (Ψ "_law_take") (gCns (zaa 1) (gCns (gArg (gOpN oLen (gCns (zaa 8) gA0))) gA0)))))) (gSeq (gSet [] 9 (zae [false,false,false] (Ψ "_law_turned") (gCns (gArg (gVar 2)) (gCns (gArg (zae [true,false] (Ψ "_law_turning") (gCns (zaa 1) (gCns (gArg (gVar 2)) gA0)))) (gCns (gArg (zae [false,false] (Ψ "_law_values") (gCns (gArg (gVar 2)) (gCns (gArg (zae [false] (Ψ "_law_due") (gCns (gArg (gVar 3)) gA0))) gA0)))) gA0))))) (gIfS (zal (gOp2 oNe (gArg (zae [false,false] (Ψ "form_weight") (gCns (gArg (gVar 2)) (gCns (gArg (gVar 3)) gA0)))) (gArg (gOpN oSum (gCns (zaa 9) gA0))))) (gRet (gC (.bl false))) zbk)))))
noncomputable def zo0 (Ψ:Str->Fn):GS:=gFor [] (.nm 7) (zca (gCns (gArg (gOpN oMax (gCns (gArg (gC (.int 3))) (gCns (gArg (gOpN oMin (gCns (gArg (gC (.int 6))) (gCns (gArg (gOpN oLen (gCns (zaa 0) gA0))) gA0)))) gA0)))) gA0)) (zmw Ψ)
noncomputable def zwc (Ψ:Str->Fn):GS:=(gSeq (gSet [] 1 (zae [false] (Ψ "_law_hand") (gCns (gArg (gVar 0)) gA0))) (gSeq (zo4 Ψ) (gSeq (zo0 Ψ) (gRet (gC (.bl true))))))
theorem z33 (Ψ:Str->Fn) (d:Nat):zat T bn Ψ (d+2) zk5=some (zwc Ψ):=by kernel_rfl
theorem z3w:T.find? (·.nm == ("law" : Str))=some zk5:=by kernel_rfl
theorem z4a (d:Nat):sem T bn (d+3) "law" = zag [false] 10 (zwc (sem T bn (d+2))):=zcw z3w (z33 _ d)
theorem seq_e {a b:GS}{en e1:En}{r:Option (En × Fl)} (h1:a en=some (e1,.nx)) (h2:b e1=r):gSeq a b en=r:=(seq_nx h1).trans h2
noncomputable def lin:List Nat->Nat->Nat
 | [],_=>0
 | x::L,p=>(if p % 2=1 then x else 0) ^^^ lin L (p / 2)
noncomputable def Sm (L L' : List Nat):Prop:=L.length=L'.length/\∃φ:Nat->Nat,(∀p,p < 2 ^ L'.length->φ p < 2 ^ L'.length/\lin L (φ p)=lin L' p)/\∀p q,p < 2 ^ L'.length->q < 2 ^ L'.length->φ p=φ q->p=q
theorem Sm.refl (L:List Nat):Sm L L:=⟨rfl,id,fun p h=>⟨h,rfl⟩,fun _ _ _ _ e=>e⟩
theorem Sm.trans {A B C:List Nat} (h:Sm A B) (k:Sm B C):Sm A C:=by
 obtain ⟨l1,f,f1,f2⟩:=h;obtain ⟨l2,g,g1,g2⟩:=k;refine ⟨l1.trans l2,fun p=>f (g p),fun p hp=>?_,fun p q hp hq e=>?_⟩
 ·obtain ⟨a, b⟩ := g1 p hp;obtain ⟨c,d⟩:=f1 (g p) (by rw [l2];exact a);exact ⟨by rw [<-l2];exact c,d.trans b⟩
 ·exact g2 p q hp hq (f2 _ _ (by rw [l2];exact (g1 p hp).1) (by rw [l2];exact (g1 q hq).1) e)
theorem Sm.cons {A B:List Nat} (x:Nat) (h:Sm A B):Sm (x::A) (x::B):=by
 obtain ⟨l1,f,f1,f2⟩:=h;have pw:2 ^ (x::B).length=2 * 2 ^ B.length:=by rw [List.length_cons,Nat.pow_succ];omega
 refine ⟨congrArg (· + 1) l1,fun p=>p % 2+2 * f (p / 2),fun p hp=>?_,fun p q hp hq e=>?_⟩
 ·rw [pw] at hp ⊢;obtain ⟨a,b⟩:=f1 (p / 2) (by omega);refine ⟨by dsimp only;omega,?_⟩;show (if (p % 2+2 * f (p / 2)) % 2=1 then x else 0) ^^^ lin A ((p % 2+2 * f (p / 2)) / 2)=(if p % 2=1 then x else 0) ^^^ lin B (p / 2);rw [show (p % 2+2 * f (p / 2)) % 2=p % 2 by omega,show (p % 2+2 * f (p / 2)) / 2=f (p / 2) by omega,b]
 ·rw [pw] at hp hq;dsimp only at e;have:=f2 (p / 2) (q / 2) (by omega) (by omega) (by omega);omega
theorem Sm.swap (x y:Nat) (L:List Nat):Sm (y::x::L) (x::y::L):=by
 have pw:2 ^ (x::y::L).length=4 * 2 ^ L.length:=by rw [List.length_cons,List.length_cons,Nat.pow_succ,Nat.pow_succ];omega
 refine ⟨rfl,fun p=>p / 2 % 2+2 * (p % 2)+4 * (p / 4),fun p hp=>?_,fun p q hp hq e=>?_⟩
 ·rw [pw] at hp ⊢;refine ⟨by dsimp only;omega,?_⟩;show (if (p / 2 % 2+2 * (p % 2)+4 * (p / 4)) % 2=1 then y else 0) ^^^ ((if (p / 2 % 2+2 * (p % 2)+4 * (p / 4)) / 2 % 2=1 then x else 0) ^^^ lin L ((p / 2 % 2+2 * (p % 2)+4 * (p / 4)) / 2 / 2))=(if p % 2=1 then x else 0) ^^^ ((if p / 2 % 2=1 then y else 0) ^^^ lin L (p / 2 / 2));rw [show (p / 2 % 2+2 * (p % 2)+4 * (p / 4)) % 2=p / 2 % 2 by omega,show (p / 2 % 2+2 * (p % 2)+4 * (p / 4)) / 2=p % 2+2 * (p / 4) by omega,show (p % 2+2 * (p / 4)) % 2=p % 2 by omega,show (p % 2+2 * (p / 4)) / 2=p / 4 by omega,show p / 2 / 2=p / 4 by omega,<-Nat.xor_assoc,<-Nat.xor_assoc,Nat.xor_comm (if p / 2 % 2=1 then y else 0)]
 ·rw [pw] at hp hq;dsimp only at e;omega
theorem Sm.perm {A B:List Nat} (h:A.Perm B):Sm A B:=by
 induction h with
 | nil=>exact .refl _
 | cons x _ ih=>exact ih.cons x
 | swap x y l=>exact .swap x y l
 | trans _ _ a b=>exact a.trans b
theorem Sm.add (x y:Nat) (L:List Nat):Sm (x::y::L) ((x ^^^ y)::y::L):=by
 have pw:2 ^ ((x ^^^ y)::y::L).length=4 * 2 ^ L.length:=by rw [List.length_cons,List.length_cons,Nat.pow_succ,Nat.pow_succ];omega
 refine ⟨rfl,fun p=>p % 2+2 * ((p % 2+p / 2 % 2) % 2)+4 * (p / 4),fun p hp=>?_,fun p q hp hq e=>?_⟩
 ·rw [pw] at hp ⊢;refine ⟨by dsimp only;omega,?_⟩;show (if (p % 2+2 * ((p % 2+p / 2 % 2) % 2)+4 * (p / 4)) % 2=1 then x else 0) ^^^ ((if (p % 2+2 * ((p % 2+p / 2 % 2) % 2)+4 * (p / 4)) / 2 % 2=1 then y else 0) ^^^ lin L ((p % 2+2 * ((p % 2+p / 2 % 2) % 2)+4 * (p / 4)) / 2 / 2))=(if p % 2=1 then x ^^^ y else 0) ^^^ ((if p / 2 % 2=1 then y else 0) ^^^ lin L (p / 2 / 2));rw [show (p % 2+2 * ((p % 2+p / 2 % 2) % 2)+4 * (p / 4)) % 2=p % 2 by omega,show (p % 2+2 * ((p % 2+p / 2 % 2) % 2)+4 * (p / 4)) / 2=(p % 2+p / 2 % 2) % 2+2 * (p / 4) by omega,show ((p % 2+p / 2 % 2) % 2+2 * (p / 4)) % 2=(p % 2+p / 2 % 2) % 2 by omega,show ((p % 2+p / 2 % 2) % 2+2 * (p / 4)) / 2=p / 4 by omega,show p / 2 / 2=p / 4 by omega];rcases (show p % 2=0\/p % 2=1 by omega) with a | a<;>rcases (show p / 2 % 2=0\/p / 2 % 2=1 by omega) with b | b<;>rw [a,b]<;>simp [Nat.xor_assoc];rw [<-Nat.xor_assoc y y,Nat.xor_self,Nat.zero_xor]
 ·rw [pw] at hp hq;dsimp only at e;omega
noncomputable def LI (L:List Nat):Prop:=∀p q,p < 2 ^ L.length->q < 2 ^ L.length->lin L p=lin L q->p=q
theorem LI.go {A B:List Nat} (h:LI A) (s:Sm A B):LI B:=fun p q hp hq e=>by
 obtain ⟨l,f,f1,f2⟩:=s;obtain ⟨a1,a2⟩:=f1 p hp;obtain ⟨b1,b2⟩:=f1 q hq;exact f2 p q hp hq (h _ _ (by rw [l];exact a1) (by rw [l];exact b1) (by rw [a2,b2,e]))
theorem zkp:∀{L:List Nat}{a x:Nat},L[a]?=some x->L.Perm (x::L.eraseIdx a)
 | [],_,_,h=>by cases h
 | y::L,0,x,h=>by obtain rfl:=sI h;exact List.Perm.refl _
 | y::L,a+1,x,h=>((zkp (L:=L) (a:=a) h).cons y).trans (List.Perm.swap x y _)
theorem z1o {L:List Nat}{a b x y:Nat} (ha:L[a]?=some x) (hb:L[b]?=some y) (ne:a≠b):Sm L (L.set a (x ^^^ y)):=by
 have la:=(List.getElem?_eq_some_iff.mp ha).1;have ga:L[a]=x:=(List.getElem?_eq_some_iff.mp ha).2;have m:y∈L.eraseIdx a:=List.mem_eraseIdx_iff_getElem?.mpr ⟨b,Ne.symm ne,hb⟩;have p1:L.Perm (x::L.eraseIdx a):=zkp ha;have p2:(L.eraseIdx a).Perm (y::(L.eraseIdx a).erase y):=List.perm_cons_erase m;have p3:(L.set a (x ^^^ y)).Perm ((x ^^^ y)::L.eraseIdx a):=by
  have h:=zkp (L:=L.set a (x ^^^ y)) (a:=a) (List.getElem?_set_self la);rw [List.eraseIdx_set_eq] at h;exact h
 exact (Sm.perm (p1.trans (p2.cons x))).trans ((Sm.add x y _).trans (Sm.perm ((p2.cons (x ^^^ y)).symm.trans p3.symm)))
noncomputable def InM (m:Nat) (L:List Nat):Prop:=∀a∈L,a < 2 ^ m
theorem zlm {m:Nat}:∀{L:List Nat} (p:Nat),InM m L->lin L p < 2 ^ m
  | [],_,_=>Nat.pow_pos (by decide)
  | x::L,p,h=>by
    refine Nat.xor_lt_two_pow ?_ (zlm _ fun a ha=>h a (List.mem_cons_of_mem _ ha));split
    · exact h x List.mem_cons_self
    · exact Nat.pow_pos (by decide)
theorem zmk:∀{L:List Nat}{i x:Nat} (p:Nat),L[i]?=some x->lin (L.take (i+1)) p=lin (L.take i) p ^^^ (if p / 2 ^ i % 2=1 then x else 0)
  | [],_,_,_,h=>by cases h
  | y::L,0,x,p,h=>by
    obtain rfl:=sI h;show (if p % 2=1 then y else 0) ^^^ 0=0 ^^^ (if p / 2 ^ 0 % 2=1 then y else 0);rw [Nat.xor_zero,Nat.zero_xor,Nat.pow_zero,Nat.div_one]
  | y::L,i+1,x,p,h=>by
    show (if p % 2=1 then y else 0) ^^^ lin (L.take (i+1)) (p / 2)=((if p % 2=1 then y else 0) ^^^ lin (L.take i) (p / 2)) ^^^ _;rw [zmk (L:=L) (i:=i) (p / 2) h,Nat.xor_assoc,Nat.div_div_eq_div_mul,Nat.pow_succ,Nat.mul_comm 2]
noncomputable def smL (m:Nat):List Nat:=(List.range m).map fun l=>2 ^ l
theorem z4r:∀m:Fin 7,∀p q:Fin (2 ^ m.val),lin (smL m.val) p.val=lin (smL m.val) q.val->p.val=q.val:=by decide +kernel
theorem zqn (m:Nat):(smL m).length=m:=by unfold smL;rw [List.length_map,List.length_range]
theorem z4n {m:Nat} (hm:m<=6):LI (smL m):=fun p q hp hq e=>by
 rw [zqn] at hp hq;exact z4r ⟨m,by omega⟩ ⟨p,hp⟩ ⟨q,hq⟩ e
theorem z3q {m:Nat}:InM m (smL m):=fun a h=>by
 obtain ⟨l,hl,rfl⟩:=List.mem_map.mp h;exact Nat.pow_lt_pow_right (by decide) (List.mem_range.mp hl)
theorem zpu:∀{l l' : List Nat},l.Nodup->(∀a∈l,a∈l')->l.length<=l'.length
  | [],_,_,_=>Nat.zero_le _
  | a::l,l',hn,hs=>by
    have ha:=hs a (List.mem_cons_self ..);have hn':=List.nodup_cons.mp hn;have:=zpu (l:=l) (l':=l'.erase a) hn'.2 fun b hb=>(List.mem_erase_of_ne (show b≠a from fun e=>hn'.1 (by rw [<-e];exact hb))).mpr (hs b (List.mem_cons_of_mem _ hb));rw [List.length_erase_of_mem ha] at this;have:=List.length_pos_of_mem ha;rw [List.length_cons];omega
theorem znw {n:Nat}{l:List Nat} (nd:l.Nodup) (lt:∀a∈l,a∈List.range n) (ll:l.length=n):(List.range n).Perm l:=by
 have mem:∀a,a∈List.range n->a∈l:=fun a ha=>Decidable.byContradiction fun no=>by
  have:=zpu (l:=a::l) (l':=List.range n) (List.nodup_cons.mpr ⟨no,nd⟩) fun b hb=>by
   rcases List.mem_cons.mp hb with rfl | hb
   ·exact ha
   ·exact lt b hb
  rw [List.length_cons,ll,List.length_range] at this;omega
 rw [List.perm_iff_count];intro a;rw [(List.nodup_range (n:=n)).count,nd.count];by_cases c:a∈List.range n
 ·rw [if_pos c,if_pos (mem a c)]
 ·rw [if_neg c,if_neg (fun z=>c (lt a z))]
theorem zov {m:Nat}{L:List Nat}{s:Nat} (hl:L.length=m) (hi:InM m L) (hs:s < 2 ^ m) (h:LI L):(List.range (2 ^ m)).Perm ((List.range (2 ^ m)).map fun p=>s ^^^ lin L p):=by
 refine znw ?_ (fun a ha=>?_) (by rw [List.length_map,List.length_range])
 ·rw [List.nodup_iff_pairwise_ne, List.pairwise_map];have:=List.nodup_range (n:=2 ^ m);rw [List.nodup_iff_pairwise_ne] at this;refine this.imp_of_mem fun {a b} ha hb ne e=>ne ?_;have z:s ^^^ (s ^^^ lin L a)=s ^^^ (s ^^^ lin L b):=by rw [e]
  rw [<-Nat.xor_assoc,<-Nat.xor_assoc,Nat.xor_self,Nat.zero_xor,Nat.zero_xor] at z;exact h a b (by rw [hl];exact List.mem_range.mp ha) (by rw [hl];exact List.mem_range.mp hb) z
 ·obtain ⟨p, _, rfl⟩ := List.mem_map.mp ha;exact List.mem_range.mpr (Nat.xor_lt_two_pow hs (zlm p hi))
theorem zts {m:Nat}{L:List Nat}{s:Nat} (f:Nat->Int) (hl:L.length=m) (hi:InM m L) (hs:s < 2 ^ m) (h:LI L):(tab (2 ^ m) fun p=>f (s ^^^ lin L p)).sum=(tab (2 ^ m) f).sum:=by
 have:=zmb f (zov hl hi hs h);rw [List.map_map] at this;exact this.symm
noncomputable def tuW (L:List Nat) (s:Nat):W:=.tup [.tup (zab L),.int (s:Nat)]
theorem z4f:∀a b:Fin 64,Builtin.bitXor (a.val:Int) (b.val:Int)=((a.val ^^^ b.val:Nat):Int):=by decide +kernel
theorem xorN {a b:Nat} (ha:a < 64) (hb:b < 64):Builtin.bitXor (a:Int) (b:Int)=((a ^^^ b:Nat):Int):=z4f ⟨a,ha⟩ ⟨b,hb⟩
theorem zws {ws:List W}{i:Nat}{w:W} (h:(zd3 ws 0)[i]?=some w):∃x,ws[i]?=some x/\w=.tup [.int (i:Nat),x]:=by
 have hi:i < ws.length:=by have:=(List.getElem?_eq_some_iff.mp h).1;rw [zbj] at this;exact this
 have:=zcy (ws:=ws) (k:=0) (i:=i) (w:=ws[i]) (List.getElem?_eq_getElem hi);rw [h,Nat.zero_add] at this;exact ⟨_,List.getElem?_eq_getElem hi,sI this⟩
noncomputable def zvm (Φ:Fn):Prop:=∀(m:Nat) (L:List Nat) (s p:Nat),m<=6->L.length=m->InM m L->s < 2 ^ m->p < 2 ^ m->Φ [tuW L s,.int (p:Nat)]=some ([tuW L s,.int (p:Nat)],(.int ((s ^^^ lin L p:Nat):Int),false))
theorem zx3 (Ψ:Str->Fn):zvm (zag [false,false] 5 (zcm Ψ)):=fun m L s p hm hl hi hs hp=>by
 have p6:=zcz hm;have ix0:atI [.tup (zab L),W.int (s:Nat)] 0=some (.tup (zab L)):=rfl;have ix1:atI [.tup (zab L),W.int (s:Nat)] 1=some (.int (s:Nat)):=rfl;have sq:seqW (tuW L s)=some [.tup (zab L),.int (s:Nat)]:=rfl;have lp:∃w3 w4,zc0 Ψ [some (tuW L s,false),some (.int (p:Nat),false),some (.int (s:Nat),false),none,none]=some ([some (tuW L s,false),some (.int (p:Nat),false),some (.int ((s ^^^ lin L p:Nat):Int),false),w3,w4],.nx):=by
  unfold zc0;obtain ⟨en',h,w3,w4,rfl⟩:=zbl (mp:=[]) (T:=.tp [3,4]) (body:=zc3 Ψ) (it:=zh4 (gOp2 oIx (zaa 0) (gArg (gC (.int 0))))) (fun i e=>∃w3 w4,e=[some (tuW L s,false),some (.int (p:Nat),false),some (.int ((s ^^^ lin (L.take i) p:Nat):Int),false),w3,w4]) (en:=[some (tuW L s,false),some (.int (p:Nat),false),some (.int (s:Nat),false),none,none]) (e0:=[some (tuW L s,false),some (.int (p:Nat),false),some (.int (s:Nat),false),none,none]) (ws:=zd3 (zab L) 0) (by simp! [sq,ix0]) ⟨none,none,by rw [List.take_zero];show _=[_,_,some (W.int ((s ^^^ 0:Nat):Int),false),_,_];rw [Nat.xor_zero]⟩ fun i w e hw hq=>by
   obtain ⟨w3,w4,rfl⟩:=hq;obtain ⟨x,hx,rfl⟩:=zws hw;obtain ⟨a,ha,rfl⟩:=zcb hx;have li:i < L.length:=(List.getElem?_eq_some_iff.mp ha).1;have la:=hi a (List.mem_of_getElem? ha);have e1:=pow1 (l:=i) (by omega);have e2:=divP (p:=(p:Int)) (l:=i) (by omega);have e3:(p:Int) / ((2 ^ i:Nat):Int) % 2=((p / 2 ^ i % 2:Nat):Int):=by rw [<-Int.natCast_ediv];omega
   have lt:lin (L.take i) p < 2 ^ m:=zlm p fun b hb=>hi b (List.mem_of_mem_take hb);have xr:=xorN (a:=s ^^^ lin (L.take i) p) (b:=a) (by have:=Nat.xor_lt_two_pow hs lt;omega) (by omega);refine ⟨[some (tuW L s,false),some (.int (p:Nat),false),some (.int ((s ^^^ lin (L.take i) p:Nat):Int),false),some (.int (i:Nat),false),some (.int (a:Nat),false)],[some (tuW L s,false),some (.int (p:Nat),false),some (.int ((s ^^^ lin (L.take (i+1)) p:Nat):Int),false),some (.int (i:Nat),false),some (.int (a:Nat),false)],rfl,.inl ?_,_,_,rfl⟩;unfold zc3;rw [zmk p ha];by_cases c:p / 2 ^ i % 2=1
   ·have dz : decide (((p / 2 ^ i % 2 : Nat) : Int) = 1) = true := decide_eq_true (by omega);rw [if_pos c,<-Nat.xor_assoc];simp! [e1,one_mul_pow,e2,e3,dz,xr]
   ·have dz : decide (((p / 2 ^ i % 2 : Nat) : Int) = 1) = false := decide_eq_false (by omega);rw [if_neg c,Nat.xor_zero];simp! [e1,one_mul_pow,e2,e3,dz]
  have le:(zd3 (zab L) 0).length=L.length:=by rw [zbj,zap]
  rw [le,List.take_length] at h;exact ⟨_,_,h⟩
 obtain ⟨w3,w4,lp⟩:=lp;unfold zcm;refine zi1 (en:=[some (tuW L s,false),some (.int (p:Nat),false),some (.int ((s ^^^ lin L p:Nat):Int),false),w3,w4]) rfl (seq_e (e1:=[some (tuW L s,false),some (.int (p:Nat),false),some (.int (s:Nat),false),none,none]) ?_ (seq_e lp ?_)) rfl
 ·simp! [sq,ix1]
 ·simp! []
noncomputable def zl2 (Φ:Fn):Prop:=∀(m:Nat) (L:List Nat) (s:Nat) (f:Nat->Int),m<=6->L.length=m->InM m L->s < 2 ^ m->Φ [.int (m:Nat),tuW L s,.lst ((tab (2 ^ m) f).map W.int)]=some ([.int (m:Nat),tuW L s,.lst ((tab (2 ^ m) f).map W.int)],(.lst ((tab (2 ^ m) fun p=>f (s ^^^ lin L p)).map W.int),true))
theorem zqs {Ψ:Str->Fn} (hS:zvm (Ψ "_law_sent")):zl2 (zag [false,false,false] 3 (zbr Ψ)):=fun m L s f hm hl hi hs=>by
 have p6:=zcz hm;have pw:=pow1 (l:=m) (by omega);have c1:zb7 Ψ [some (.int (m:Nat),false),some (tuW L s,false),some (.lst ((tab (2 ^ m) f).map W.int),false)]=some ([some (.int (m:Nat),false),some (tuW L s,false),some (.lst ((tab (2 ^ m) f).map W.int),false)],(.lst ((tab (2 ^ m) fun p=>f (s ^^^ lin L p)).map W.int),true)):=by
  unfold zb7;refine zgo (xs:=[some (.lst ((tab (2 ^ m) f).map W.int),false),some (tuW L s,false)]) (e0:=[some (.int (m:Nat),false),some (tuW L s,false),some (.lst ((tab (2 ^ m) f).map W.int),false)]) (ws:=rngW 0 (2 ^ m)) (zfs (by simp! [pw,one_mul_pow]) (by omega)) (by rw [zbp];omega) (by rw [zbp,List.length_map,zdm]) rfl rfl rfl (fun _ _=>rfl) fun i v0 w r hw hr=>?_;obtain ⟨li,rfl⟩:=zb3 hw;rw [Int.zero_add];rw [List.getElem?_map,zhq li] at hr;obtain rfl:=sI hr;have sn:=hS m L s i hm hl hi hs li;have ix:atI ((tab (2 ^ m) f).map W.int) ((s ^^^ lin L i:Nat):Int)=some (.int (f (s ^^^ lin L i))):=za2 (ztu (Nat.xor_lt_two_pow hs (zlm i hi)));refine ⟨some (.int (i:Nat),false),false,?_⟩;simp! [sn,ix]
 unfold zbr;simp! [c1]
noncomputable def zjf (Φ:Fn):Prop:=∀(k:Nat) (st:W) (m:Nat),HS k st->k+100 < big->1<=m->m<=6->∃(st' : W) (L:List Nat) (s:Nat),Φ [st,.int (m:Nat)]=some ([st',.int (m:Nat)],(tuW L s,false))/\HS (k+50) st'/\L.length=m/\InM m L/\s < 2 ^ m/\LI L
theorem z3e {Ψ:Str->Fn}{m:Nat}{v0 v2 v3 v4 v5 v6:Option (W × Bool)} (hm:m<=6):zbz Ψ [v0,some (.int (m:Nat),false),v2,v3,v4,v5,v6]=some ([v0,some (.int (m:Nat),false),v2,v3,v4,v5,v6],(.lst (zab (smL m)),true)):=by
 unfold zbz;refine zgo (cap:=[none,none]) (it:=zca (gCns (zaa 1) gA0)) (rs:=zab (smL m)) (xs:=[]) (en:=[v0,some (.int (m:Nat),false),v2,v3,v4,v5,v6]) (e0:=[v0,some (.int (m:Nat),false),v2,v3,v4,v5,v6]) (ws:=rngW 0 m) (zfs (by simp! []) (by omega)) (by rw [zbp];omega) (by rw [zbp,zap,zqn]) rfl rfl rfl (fun _ _=>rfl) fun i u w r hw hr=>?_;obtain ⟨li,rfl⟩:=zb3 hw;rw [Int.zero_add];obtain ⟨q,hq,rfl⟩:=zcb hr;unfold smL at hq;rw [List.getElem?_map,List.getElem?_range li] at hq;cases hq;have e1:=pow1 (l:=i) (by omega);refine ⟨some (.int (i:Nat),false),false,?_⟩;simp! [e1,one_mul_pow]
theorem zrt {L:List Nat}{a x:Nat} (h:L[a]?=some x):atI (zab L) (a:Int)=some (.int (x:Nat)):=za2 (by unfold zab;rw [List.getElem?_map,h];rfl)
theorem zu5 (L:List Nat) (a x:Nat):(zab L).set a (.int (x:Nat))=zab (L.set a x):=by unfold zab;rw [List.map_set]
theorem z0l {m:Nat}{L:List Nat}{a x:Nat} (h:InM m L) (hx:x < 2 ^ m):InM m (L.set a x):=fun b hb=>by
 rcases List.mem_or_eq_of_mem_set hb with h1 | h1
 ·exact h b h1
 ·rw [h1];exact hx
noncomputable def zjs (m:Nat) (L:List Nat):Prop:=L.length=m/\InM m L/\LI L
theorem z3z {Ψ:Str->Fn} (hT:ze0 (Ψ "_law_take")) {k m:Nat}{st:W}{L:List Nat}{v3 v4 v5 v6:Option (W × Bool)} (hs:HS k st) (hk:k+10 < big) (h1:2<=m) (hm:m<=6) (hL:zjs m L):∃st' L' w4 w5,za0 Ψ [some (st,true),some (.int (m:Nat),false),some (.lst (zab L),true),v3,v4,v5,v6]=some ([some (st',true),some (.int (m:Nat),false),some (.lst (zab L'),true),v3,w4,w5,v6],.nx)/\HS (k+2) st'/\zjs m L':=by
 have p6:=zcz hm;obtain ⟨l1,l2,l3⟩:=hL;obtain ⟨st1,a,e1,g1,a0,a1⟩:=hT k st (m:Nat) hs (by omega) (by omega) (by omega);obtain ⟨a,rfl⟩:=Int.eq_ofNat_of_zero_le a0;obtain ⟨st2,r,e2,g2,r0,r1⟩:=hT (k+1) st1 ((m:Nat) - 1:Int) g1 (by omega) (by omega) (by omega);obtain ⟨r,rfl⟩:=Int.eq_ofNat_of_zero_le r0;have la:a < L.length:=by omega
 have eb:((a:Int)+1+(r:Int)) % (m:Int)=(((a+1+r) % m:Nat):Int):=by norm_cast
 have pos:decide ((0:Int) < (m:Int))=true:=decide_eq_true (by omega);generalize hb:(a+1+r) % m=b at eb;have lb:b < m:=by rw [<-hb];exact Nat.mod_lt _ (by omega)
 have ne:a≠b:=by
  intro z;rw [<-hb] at z;rcases Nat.lt_or_ge (a+1+r) m with c | c
  ·rw [Nat.mod_eq_of_lt c] at z;omega
  ·rw [Nat.mod_eq_sub_mod c,Nat.mod_eq_of_lt (by omega)] at z;omega
 have ga:=List.getElem?_eq_getElem la;have gb:=List.getElem?_eq_getElem (l:=L) (i:=b) (by omega);generalize L[a]=x at ga;generalize L[b]=y at gb;have xl:=l2 x (List.mem_of_getElem? ga);have yl:=l2 y (List.mem_of_getElem? gb);have xr:=xorN (a:=x) (b:=y) (by omega) (by omega);have i1:=zrt ga;have i2:=zrt gb;have si:=zlg (i:=2) (k:=gVar 4) (g:=(gOp2 (oI yes2 fun i j=>.int (Builtin.bitXor i j)) (gArg (gOp2 oIx (zaa 2) (zaa 4))) (gArg (gOp2 oIx (zaa 2) (zaa 5))))) (en:=[some (st2,true),some (.int (m:Nat),false),some (.lst (zab L),true),v3,some (.int (a:Nat),false),some (.int (b:Nat),false),v6]) (w:=.int ((x ^^^ y:Nat):Int)) (ws:=zab L) (n:=(a:Nat)) (j:=a) (f:=false) (f2:=false) (by simp! [i1,i2,xr]) (by simp! []) rfl (zwj (by rw [zap];exact la));rw [zu5] at si;refine ⟨st2,L.set a (x ^^^ y),some (.int (a:Nat),false),some (.int (b:Nat),false),?_,g2,by rw [List.length_set];exact l1,z0l l2 (Nat.xor_lt_two_pow xl yl),l3.go (z1o ga gb ne)⟩;unfold za0;refine seq_e (e1:=[some (st1,true),some (.int (m:Nat),false),some (.lst (zab L),true),v3,some (.int (a:Nat),false),v5,v6]) ?_ (seq_e (e1:=[some (st2,true),some (.int (m:Nat),false),some (.lst (zab L),true),v3,some (.int (a:Nat),false),some (.int (b:Nat),false),v6]) ?_ si)
 ·simp! [e1]
 ·simp! [e2,pos,eb]
theorem zt2 (L:List Nat) (j x:Nat):(zab L).take j++.int (x:Nat)::(zab L).drop j=zab (L.take j++x::L.drop j):=by unfold zab;rw [List.map_append,List.map_take,List.map_cons,List.map_drop]
theorem zxt {m:Nat}{A B:List Nat} (p:A.Perm B) (h:InM m A):InM m B:=fun a ha=>h a (p.mem_iff.mpr ha)
theorem z3r {Ψ:Str->Fn} (hT:ze0 (Ψ "_law_take")) {k m:Nat}{st:W}{L:List Nat}{v3 v4 v5 v6:Option (W × Bool)} (hs:HS k st) (hk:k+10 < big) (h1:1<=m) (hm:m<=6) (hL:zjs m L):∃st' L',za6 Ψ [some (st,true),some (.int (m:Nat),false),some (.lst (zab L),true),v3,v4,v5,v6]=some ([some (st',true),some (.int (m:Nat),false),some (.lst (zab L'),true),v3,v4,v5,v6],.nx)/\HS (k+1) st'/\zjs m L':=by
  obtain ⟨l1,l2,l3⟩:=hL;obtain ⟨st1,a,e1,g1,a0,a1⟩:=hT k st (m:Nat) hs (by omega) (by omega) (by omega);obtain ⟨j,rfl⟩:=Int.eq_ofNat_of_zero_le a0
  match L,l1,l2,l3 with
  | [],l1,_,_=>simp at l1;omega
  | x::R,l1,l2,l3 =>
    rw [List.length_cons] at l1;have s9:(1000:Nat)<=sizeLine:=by decide
    have po:=z4m (i:=2) (g:=gC (.int 0)) (en:=[some (st1,true),some (.int (m:Nat),false),some (.lst (zab (x::R)),true),v3,v4,v5,v6]) (e1:=[some (st1,true),some (.int (m:Nat),false),some (.lst (zab (x::R)),true),v3,v4,v5,v6]) (us:=zab (x::R)) (ws:=zab (x::R)) (k:=0) (f:=false) (w:=.int (x:Nat)) rfl rfl rfl rfl (by rw [zap,List.length_cons];omega);have tk:(zae [true,false] (Ψ "_law_take") (gCns (zaa 0) (gCns (gArg (gVar 1)) gA0))) [some (st,true),some (.int (m:Nat),false),some (.lst (zab (x::R)),true),v3,v4,v5,v6]=some ([some (st1,true),some (.int (m:Nat),false),some (.lst (zab (x::R)),true),v3,v4,v5,v6],(.int (j:Nat),false)):=by simp! [e1]
    have ins:=z0a (i:=2) (g:=(zae [true,false] (Ψ "_law_take") (gCns (zaa 0) (gCns (gArg (gVar 1)) gA0)))) (g':=zlb 2 (gC (.int 0))) (en:=[some (st,true),some (.int (m:Nat),false),some (.lst (zab (x::R)),true),v3,v4,v5,v6]) (us:=zab (x::R)) (ws:=zab R) (k:=(j:Nat)) (f:=false) (r:=(.int (x:Nat),false)) rfl tk po rfl (by refine ⟨by omega,?_,?_⟩<;>rw [zap]<;>omega);have pm:(x::R).Perm (R.take j++x::R.drop j):=by
      have:=(List.perm_middle (a:=x) (l₁:=R.take j) (l₂:=R.drop j)).symm
      rwa [List.take_append_drop] at this
    refine ⟨st1,R.take j++x::R.drop j,?_,g1,by rw [<-pm.length_eq,List.length_cons];exact l1,zxt pm l2,l3.go (Sm.perm pm)⟩;unfold za6;rw [zyu ins];show some ([some (st1,true),some (.int (m:Nat),false),some (.lst ((zab R).take (j:Int).toNat++.int (x:Nat)::(zab R).drop (j:Int).toNat),true),v3,v4,v5,v6],Fl.nx)=_;rw [Int.toNat_natCast,zt2]
theorem zn2 {Ψ:Str->Fn} (hT:ze0 (Ψ "_law_take")):zjf (zag [true,false] 7 (zbf Ψ)):=fun k st m hs hk h1 hm=>by
 have p6:=zcz hm;have pw:=pow1 (l:=m) (by omega);have pp:0 < 2 ^ m:=Nat.pow_pos (by decide);have c1:=z3e (Ψ:=Ψ) (m:=m) (v0:=some (st,true)) (v2:=none) (v3:=none) (v4:=none) (v5:=none) (v6:=none) hm;obtain ⟨st1,r,e1,g1,r0,r1⟩:=hT k st 13 hs (by omega) (by decide) (by decide);obtain ⟨r,rfl⟩:=Int.eq_ofNat_of_zero_le r0;have rn:∃n:Nat,n<=12/\(2<=m\/n=0)/\oMult (.int (r:Nat)) (.int (if decide ((1:Int) < (m:Int)) then 1 else 0))=some (.int (n:Nat),false):=by
  by_cases c:2<=m
  ·refine ⟨r, by omega, .inl c, ?_⟩;rw [decide_eq_true (show (1:Int) < (m:Int) by omega),if_pos rfl,zfa (by decide) (by decide),Int.mul_one]
  ·refine ⟨0, by omega, .inr rfl, ?_⟩;rw [decide_eq_false (show ¬ (1:Int) < (m:Int) by omega),if_neg Bool.false_ne_true,zfa (by decide) (by decide),Int.mul_zero];rfl
 obtain ⟨n,n12,hn,em⟩:=rn;have ib:oInt [.bl (decide ((1:Int) < (m:Int)))]=some (.int (if decide ((1:Int) < (m:Int)) then 1 else 0),false):=by cases decide ((1:Int) < (m:Int))<;>rfl
 generalize (if decide ((1:Int) < (m:Int)) then (1:Int) else 0)=z at em ib;have l2:∃st' L w3 w4 w5,zbu Ψ [some (st,true),some (.int (m:Nat),false),some (.lst (zab (smL m)),true),none,none,none,none]=some ([some (st',true),some (.int (m:Nat),false),some (.lst (zab L),true),w3,w4,w5,none],.nx)/\HS (k+25) st'/\zjs m L:=by
  unfold zbu;obtain ⟨en',h,st',L,w3,w4,w5,rfl,g,gl⟩:=zbl (mp:=[0]) (T:=.nm 3) (body:=za0 Ψ) (fun i e=>∃(st' : W) (L:List Nat) (w3 w4 w5:Option (W × Bool)),e=[some (st',true),some (.int (m:Nat),false),some (.lst (zab L),true),w3,w4,w5,none]/\HS (k+1+2 * i) st'/\zjs m L) (zfs (a:=(gArg (gOp2 oMult (gArg (zae [true,false] (Ψ "_law_take") (gCns (zaa 0) (gCns (gArg (gC (.int 13))) gA0)))) (gArg (gOpN oInt (gCns (gArg (gOp2 (oI yes2 fun i j=>.bl (decide (j < i))) (zaa 1) (gArg (gC (.int 1))))) gA0)))))) (en:=[some (st,true),some (.int (m:Nat),false),some (.lst (zab (smL m)),true),none,none,none,none]) (e1:=[some (st1,true),some (.int (m:Nat),false),some (.lst (zab (smL m)),true),none,none,none,none]) (n:=n) (by simp! [e1,ib,em]) (by omega)) ⟨st1,smL m,none,none,none,rfl,g1,zqn m,z3q,z4n hm⟩ fun i w e hw hp=>by
   obtain ⟨st',L,w3,w4,w5,rfl,g,gl⟩:=hp;obtain ⟨li,rfl⟩:=zb3 hw;obtain ⟨st2,L',x4,x5,hb,g2,gl2⟩:=z3z (Ψ:=Ψ) hT (v3:=some (.int (0+(i:Int)),false)) (v4:=w4) (v5:=w5) (v6:=none) g (by omega) (by omega) hm gl;exact ⟨_,_,rfl,.inl hb,_,_,_,_,_,rfl,g2.mono (by omega),gl2⟩
  rw [zbp] at g;exact ⟨_,_,_,_,_,h,g.mono (by omega),gl⟩
 obtain ⟨st2,L,w3,w4,w5,l2,g2,gl⟩:=l2;have l3:∃st' L' w6,zbt Ψ [some (st2,true),some (.int (m:Nat),false),some (.lst (zab L),true),w3,w4,w5,none]=some ([some (st',true),some (.int (m:Nat),false),some (.lst (zab L'),true),w3,w4,w5,w6],.nx)/\HS (k+35) st'/\zjs m L':=by
  unfold zbt;obtain ⟨en',h,st',L',w6,rfl,g,gl⟩:=zbl (mp:=[0]) (T:=.nm 6) (body:=za6 Ψ) (fun i e=>∃(st' : W) (L:List Nat) (w6:Option (W × Bool)),e=[some (st',true),some (.int (m:Nat),false),some (.lst (zab L),true),w3,w4,w5,w6]/\HS (k+25+i) st'/\zjs m L) (zfs (a:=zaa 1) (en:=[some (st2,true),some (.int (m:Nat),false),some (.lst (zab L),true),w3,w4,w5,none]) (e1:=[some (st2,true),some (.int (m:Nat),false),some (.lst (zab L),true),w3,w4,w5,none]) (n:=m) rfl (by omega)) ⟨st2,L,none,rfl,g2,gl⟩ fun i w e hw hp=>by
   obtain ⟨st',L,w6,rfl,g,gl⟩:=hp;obtain ⟨li,rfl⟩:=zb3 hw;obtain ⟨st3,L',hb,g3,gl3⟩:=z3r (Ψ:=Ψ) hT (v3:=w3) (v4:=w4) (v5:=w5) (v6:=some (.int (0+(i:Int)),false)) g (by omega) h1 hm gl;exact ⟨_,_,rfl,.inl hb,_,_,_,rfl,g3.mono (by omega),gl3⟩
  rw [zbp] at g;exact ⟨_,_,_,h,g.mono (by omega),gl⟩
 obtain ⟨st3,L',w6,l3,g3,gl'⟩:=l3;obtain ⟨st4,s,e4,g4,s0,s1⟩:=hT (k+35) st3 ((2 ^ m:Nat):Int) g3 (by omega) (by omega) (by omega);obtain ⟨s,rfl⟩:=Int.eq_ofNat_of_zero_le s0;have ot:zee [.lst (zab L')]=some (.tup (zab L'),false):=rfl;refine ⟨st4,L',s,?_,g4.mono (by omega),gl'.1,gl'.2.1,by omega,gl'.2.2⟩;unfold zbf;refine zi1 (en:=[some (st4,true),some (.int (m:Nat),false),some (.lst (zab L'),true),w3,w4,w5,w6]) rfl (seq_e (e1:=[some (st,true),some (.int (m:Nat),false),some (.lst (zab (smL m)),true),none,none,none,none]) ?_ (seq_e l2 (seq_e l3 ?_))) rfl
 ·simp! [c1]
 ·simp! [ot, pw, one_mul_pow, e4]
  rfl
noncomputable def fmW (x:Nat × Nat):W:=.tup [.int (x.1:Nat),.int (x.2:Nat)]
noncomputable def zah (m:Nat):List (Nat × Nat):=(List.range (m / 2+1)).flatMap fun p=>(List.range (2+if 2 * p < m then 1 else 0)).map fun r=>(p,r)
noncomputable def dueT (x:Nat × Nat):List (List Nat):=(if x.2=0 then [] else if x.2=1 then [[]] else [[2 * x.1]])++(List.range x.1).map fun a=>[2 * a,2 * a+1]
noncomputable def zo6 (Φ:Fn):Prop:=∀m:Nat,1<=m->m<=6->Φ [.int (m:Nat)]=some ([.int (m:Nat)],(.lst ((zah m).map fmW),true))
theorem fo1 (Ψ:Str->Fn):zag [false] 3 (zam Ψ) [.int ((1:Nat):Int)]=some ([.int ((1:Nat):Int)],(.lst ((zah 1).map fmW),true)):=by kernel_rfl
theorem fo2 (Ψ:Str->Fn):zag [false] 3 (zam Ψ) [.int ((2:Nat):Int)]=some ([.int ((2:Nat):Int)],(.lst ((zah 2).map fmW),true)):=by kernel_rfl
theorem fo3 (Ψ:Str->Fn):zag [false] 3 (zam Ψ) [.int ((3:Nat):Int)]=some ([.int ((3:Nat):Int)],(.lst ((zah 3).map fmW),true)):=by kernel_rfl
theorem fo4 (Ψ:Str->Fn):zag [false] 3 (zam Ψ) [.int ((4:Nat):Int)]=some ([.int ((4:Nat):Int)],(.lst ((zah 4).map fmW),true)):=by kernel_rfl
theorem fo5 (Ψ:Str->Fn):zag [false] 3 (zam Ψ) [.int ((5:Nat):Int)]=some ([.int ((5:Nat):Int)],(.lst ((zah 5).map fmW),true)):=by kernel_rfl
theorem fo6 (Ψ:Str->Fn):zag [false] 3 (zam Ψ) [.int ((6:Nat):Int)]=some ([.int ((6:Nat):Int)],(.lst ((zah 6).map fmW),true)):=by kernel_rfl
theorem zuw (Ψ:Str->Fn):zo6 (zag [false] 3 (zam Ψ)):=fun m h1 hm=>by
 rcases (show m=1\/m=2\/m=3\/m=4\/m=5\/m=6 by omega) with rfl | rfl | rfl | rfl | rfl | rfl
 ·exact fo1 Ψ
 ·exact fo2 Ψ
 ·exact fo3 Ψ
 ·exact fo4 Ψ
 ·exact fo5 Ψ
 ·exact fo6 Ψ
noncomputable def SmF (x:Nat × Nat):Prop:=x.1<=3/\x.2<=2
theorem zz6 {P:Nat × Nat->Prop} (h00:P (0,0)) (h01:P (0,1)) (h02:P (0,2)) (h10:P (1,0)) (h11:P (1,1)) (h12:P (1,2)) (h20:P (2,0)) (h21:P (2,1)) (h22:P (2,2)) (h30:P (3,0)) (h31:P (3,1)) (h32:P (3,2)) {x:Nat × Nat} (h:SmF x):P x:=by
 obtain ⟨p,r⟩:=x;obtain ⟨hp,hr⟩:=h;have hp:p<=3:=hp;have hr:r<=2:=hr;rcases (show p=0\/p=1\/p=2\/p=3 by omega) with rfl | rfl | rfl | rfl<;>rcases (show r=0\/r=1\/r=2 by omega) with rfl | rfl | rfl<;>assumption
noncomputable def zti (Φ:Fn):Prop:=∀x,SmF x->Φ [fmW x]=some ([fmW x],(.tup ((dueT x).map tmW),false))
theorem z40 (Ψ:Str->Fn):zti (zag [false] 4 (zch Ψ)):=fun x h=>zz6 (P:=fun x=>zag [false] 4 (zch Ψ) [fmW x]=some ([fmW x],(.tup ((dueT x).map tmW),false))) (by kernel_rfl) (by kernel_rfl) (by kernel_rfl) (by kernel_rfl) (by kernel_rfl) (by kernel_rfl) (by kernel_rfl) (by kernel_rfl) (by kernel_rfl) (by kernel_rfl) (by kernel_rfl) (by kernel_rfl) h
theorem zzq (Ψ:Str->Fn):zti (zag [false] 2 (zdi Ψ)):=fun x h=>zz6 (P:=fun x=>zag [false] 2 (zdi Ψ) [fmW x]=some ([fmW x],(.tup ((dueT x).map tmW),false))) (by kernel_rfl) (by kernel_rfl) (by kernel_rfl) (by kernel_rfl) (by kernel_rfl) (by kernel_rfl) (by kernel_rfl) (by kernel_rfl) (by kernel_rfl) (by kernel_rfl) (by kernel_rfl) (by kernel_rfl) h
theorem zem:∀m:Fin 7,0 < (zah m.val).length/\∀x∈zah m.val,x.1<=3/\x.2<=2/\2 * x.1+(if x.2=2 then 1 else 0)<=m.val/\(dueT x).length<=64/\∀t∈dueT x,t.length<=64/\∀l∈t,l < 64:=by decide +kernel
noncomputable def wtF (m:Nat) (x:Nat × Nat):Int:=(tab (2 ^ m) (valF (dueT x))).sum
noncomputable def WtOk (Φ:Fn):Prop:=∀(m:Nat) (x:Nat × Nat),1<=m->m<=6->x∈zah m->Φ [.int (m:Nat),fmW x]=some ([.int (m:Nat),fmW x],(.int (wtF m x),false))
noncomputable def wtR (Ψ:Str->Fn) (m:Nat) (x:Nat × Nat):Prop:=zag [false,false] 6 (zbn Ψ) [.int (m:Nat),fmW x]=some ([.int (m:Nat),fmW x],(.int (wtF m x),false))
theorem wt1 (Ψ:Str->Fn):∀x∈zah 1,wtR Ψ 1 x:=by
 rw [show zah 1=[(0,0),(0,1),(0,2)] by decide];simp only [List.forall_mem_cons];exact ⟨by unfold wtR;kernel_rfl,by unfold wtR;kernel_rfl,by unfold wtR;kernel_rfl,fun _ h=>nomatch h⟩
theorem wt2 (Ψ:Str->Fn):∀x∈zah 2,wtR Ψ 2 x:=by
 rw [show zah 2=[(0,0),(0,1),(0,2),(1,0),(1,1)] by decide];simp only [List.forall_mem_cons];exact ⟨by unfold wtR;kernel_rfl,by unfold wtR;kernel_rfl,by unfold wtR;kernel_rfl,by unfold wtR;kernel_rfl,by unfold wtR;kernel_rfl,fun _ h=>nomatch h⟩
theorem wt3 (Ψ:Str->Fn):∀x∈zah 3,wtR Ψ 3 x:=by
 rw [show zah 3=[(0,0),(0,1),(0,2),(1,0),(1,1),(1,2)] by decide];simp only [List.forall_mem_cons];exact ⟨by unfold wtR;kernel_rfl,by unfold wtR;kernel_rfl,by unfold wtR;kernel_rfl,by unfold wtR;kernel_rfl,by unfold wtR;kernel_rfl,by unfold wtR;kernel_rfl,fun _ h=>nomatch h⟩
theorem wt4 (Ψ:Str->Fn):∀x∈zah 4,wtR Ψ 4 x:=by
 rw [show zah 4=[(0,0),(0,1),(0,2),(1,0),(1,1),(1,2),(2,0),(2,1)] by decide];simp only [List.forall_mem_cons];exact ⟨by unfold wtR;kernel_rfl,by unfold wtR;kernel_rfl,by unfold wtR;kernel_rfl,by unfold wtR;kernel_rfl,by unfold wtR;kernel_rfl,by unfold wtR;kernel_rfl,by unfold wtR;kernel_rfl,by unfold wtR;kernel_rfl,fun _ h=>nomatch h⟩
theorem wt5 (Ψ:Str->Fn):∀x∈zah 5,wtR Ψ 5 x:=by
 rw [show zah 5=[(0,0),(0,1),(0,2),(1,0),(1,1),(1,2),(2,0),(2,1),(2,2)] by decide];simp only [List.forall_mem_cons];exact ⟨by unfold wtR;kernel_rfl,by unfold wtR;kernel_rfl,by unfold wtR;kernel_rfl,by unfold wtR;kernel_rfl,by unfold wtR;kernel_rfl,by unfold wtR;kernel_rfl,by unfold wtR;kernel_rfl,by unfold wtR;kernel_rfl,by unfold wtR;kernel_rfl,fun _ h=>nomatch h⟩
theorem wt6 (Ψ:Str->Fn):∀x∈zah 6,wtR Ψ 6 x:=by
 rw [show zah 6=[(0,0),(0,1),(0,2),(1,0),(1,1),(1,2),(2,0),(2,1),(2,2),(3,0),(3,1)] by decide];simp only [List.forall_mem_cons];exact ⟨by unfold wtR;kernel_rfl,by unfold wtR;kernel_rfl,by unfold wtR;kernel_rfl,by unfold wtR;kernel_rfl,by unfold wtR;kernel_rfl,by unfold wtR;kernel_rfl,by unfold wtR;kernel_rfl,by unfold wtR;kernel_rfl,by unfold wtR;kernel_rfl,by unfold wtR;kernel_rfl,by unfold wtR;kernel_rfl,fun _ h=>nomatch h⟩
theorem wt_ok (Ψ:Str->Fn):WtOk (zag [false,false] 6 (zbn Ψ)):=fun m x h1 hm hx=>by
 rcases (show m=1\/m=2\/m=3\/m=4\/m=5\/m=6 by omega) with rfl | rfl | rfl | rfl | rfl | rfl
 ·exact wt1 Ψ x hx
 ·exact wt2 Ψ x hx
 ·exact wt3 Ψ x hx
 ·exact wt4 Ψ x hx
 ·exact wt5 Ψ x hx
 ·exact wt6 Ψ x hx
noncomputable def frE:W->Bool
 | .frl _=>false
 | .dct _ _=>false
 | _=>true
noncomputable def okW:W->Bool
 | .tup [a,b]=>frE a && frE b
 | .frl _=>false
 | .dct _ _=>false
 | _=>true
noncomputable def zcv (m:Nat):W->Bool
 | .tup [.int p,.int r]=>decide (0<=p) && (decide (0<=r) && decide (r<=2)) && decide (2 * p+(if r=2 then 1 else 0)<=(m:Int))
 | _=>false
noncomputable def zvj (Φ:Fn):Prop:=∀w:W,frE w=true->Φ [w]=some ([w],(.bl (za7 w),false))
theorem zwb (Ψ:Str->Fn):zvj (zag [false] 1 (zeb Ψ)):=fun w h=>by
 cases w with
 | frl x=>cases h
 | dct x y=>cases h
 | _=>rfl
noncomputable def z1c (Φ:Fn):Prop:=(∀ws n,Φ [.tup ws,.int n]=some ([.tup ws,.int n],(.bl (decide ((ws.length:Int)=n)),false)))/\∀w n,okW w=true->(∀ws,w≠.tup ws)->Φ [w,.int n]=some ([w,.int n],(.bl false,false))
theorem zz3 (Ψ:Str->Fn):z1c (zag [false,false] 2 (zg4 Ψ)):=⟨fun ws n=>rfl,fun w n h hn=>by
 cases w with
 | tup ws=>exact absurd rfl (hn ws)
 | frl x=>cases h
 | dct x y=>cases h
 | _=>rfl⟩
noncomputable def zvv (Φ:Fn):Prop:=∀p r:Int,Φ [.tup [.int p,.int r]]=some ([.tup [.int p,.int r]],(.int (2 * p+(if r=2 then 1 else 0)),false))
theorem zwl (Ψ:Str->Fn):zvv (zag [false] 3 (zau Ψ)):=fun p r=>by
 have m2:oMult (.int 2) (.int p)=some (.int (2 * p),false):=oMult_l (by decide) (by decide);unfold zau;by_cases c:r=2
 ·subst c;simp! [m2]
 ·have dz : decide (r = 2) = false := decide_eq_false c;simp! [m2,dz,c]
noncomputable def zen (Φ:Fn):Prop:=∀(m:Nat) (w:W),okW w=true->Φ [.int (m:Nat),w]=some ([.int (m:Nat),w],(.bl (zcv m w),false))
theorem zm2 {Ψ:Str->Fn} (hR:z1c (Ψ "is_row")) (hW:zvj (Ψ "is_whole")) (hN:zvv (Ψ "letters_needed")):zen (zag [false,false] 4 (zbh Ψ)):=fun m w h=>by
  obtain ⟨r1,r2⟩:=hR;cases w with
  | frl x=>cases h
  | dct x y=>cases h
  | tup ws =>
    match ws,h with
    | [],_=>unfold zbh;simp! [r1,zcv]
    | [a],_=>unfold zbh;simp! [r1,zcv]
    | a::b::c::l,_ =>
      have e:decide (((a::b::c::l).length:Int)=2)=false:=decide_eq_false (by rw [List.length_cons,List.length_cons,List.length_cons];omega);have q:=r1 (a::b::c::l) 2;rw [e] at q;unfold zbh;simp! [q,zcv]
    | [a,b],h =>
      have hab:frE a=true/\frE b=true:=by
        rw [<-Bool.and_eq_true];exact h
      have wa:=hW a hab.1;have wb:=hW b hab.2;unfold zbh;cases a with
      | int p =>
        cases b with
        | int r =>
          have w1:za7 (.int p)=true:=rfl;have w2:za7 (.int r)=true:=rfl;rw [w1] at wa;rw [w2] at wb;have nd:=hN p r;have fb:zcv m (.tup [.int p,.int r])=(decide (0<=p) && (decide (0<=r) && decide (r<=2)) && decide (2 * p+(if r=2 then 1 else 0)<=(m:Int))):=rfl;generalize 2 * p+(if r=2 then 1 else 0)=z at nd fb;rw [fb];cases c1:decide (0<=p) with
          | false=>simp! [r1,wa,wb,c1]
          | true =>
            cases c2:decide (0<=r) with
            | false=>simp! [r1,wa,wb,c1,c2]
            | true =>
              cases c3:decide (r<=2) with
              | false=>simp! [r1,wa,wb,c1,c2,c3]
              | true=>simp! [r1,wa,wb,c1,c2,c3,nd]
        | _ =>
          have w1:za7 (.int p)=true:=rfl;rw [w1] at wa;simp! [r1,wa,wb,zcv,za7]
      | _=>simp! [r1,wa,zcv,za7]
  | _ =>
    have q:=r2 _ 2 h (fun ws e=>by cases e);unfold zbh;simp! [q,zcv]
theorem z41 {Ψ:Str->Fn}{v0:Option (W × Bool)}{a b:W} (ha:frE a=true) (hb:frE b=true):zaz Ψ [v0,some (.tup [a,b],false)]=some ([v0,some (.tup [a,b],false)],(.lst ([za7 a,za7 b].map W.bl),true)):=by
 unfold zaz;refine zgo (cap:=[none,none]) (xs:=[]) (e0:=[v0,some (.tup [a,b],false)]) (ws:=[a,b]) (by simp! []) (by show 2<=1000;decide) rfl rfl rfl rfl (fun _ _=>rfl) fun i u w r hw hr=>?_;have one:∀x:W,frE x=true->(gAnd (gOp1 (oIsi .int) (zaa 1)) (gNot (gOp1 (oIsi .bool) (zaa 1)))) [u,some (x,false)]=some ([u,some (x,false)],(.bl (za7 x),false)):=fun x hx=>by
  cases x with
  | frl x=>cases hx
  | dct x y=>cases hx
  | _=>rfl
 match i,hw,hr with
 | 0,hw,hr=>cases hw;cases hr;exact ⟨_,_,one a ha⟩
 | 1,hw,hr=>cases hw;cases hr;exact ⟨_,_,one b hb⟩
 | i+2,hw,hr=>cases hw
theorem zf5 (Ψ:Str->Fn):zen (zag [false,false] 2 (zan Ψ)):=fun m w h=>by
  cases w with
  | frl x=>cases h
  | dct x y=>cases h
  | tup ws =>
    match ws,h with
    | [],_=>unfold zan;simp! [zcv]
    | [a],_=>unfold zan;simp! [zcv]
    | a::b::c::l,_ =>
      have e:decide (((l.length+1+1+1:Nat):Int)=2)=false:=decide_eq_false (by omega);unfold zan;simp! [e,zcv]
    | [a,b],h =>
      have hab:frE a=true/\frE b=true:=by rw [<-Bool.and_eq_true];exact h
      have c1:=z41 (Ψ:=Ψ) (v0:=some (.int (m:Nat),false)) hab.1 hab.2;unfold zan;cases a with
      | int p =>
        cases b with
        | int r =>
          have c1:zaz Ψ [some (.int (m:Nat),false),some (.tup [.int p,.int r],false)]=some ([some (.int (m:Nat),false),some (.tup [.int p,.int r],false)],(.lst ([true,true].map W.bl),true)):=c1;have al:([true,true].all id)=true:=rfl;have m2:oMult (.int 2) (.int p)=some (.int (2 * p),false):=oMult_l (by decide) (by decide);have ib:oInt [.bl (decide (r=2))]=some (.int (if r=2 then 1 else 0),false):=by
            by_cases c:r=2
            · rw [decide_eq_true c,if_pos c];rfl
            · rw [decide_eq_false c,if_neg c];rfl
          have inn:oIn false (.int r) (.tup [.int 0,.int 1,.int 2])=some (.bl (decide (0<=r) && decide (r<=2)),false):=by
            show some (W.bl ((0 == r) || ((1 == r) || ((2 == r) || false))),false)=_;congr 3;rw [Bool.eq_iff_iff];simp only [Bool.or_eq_true,beq_iff_eq,Bool.and_eq_true,decide_eq_true_eq,Bool.false_eq_true,or_false];omega
          have fb:zcv m (.tup [.int p,.int r])=(decide (0<=p) && (decide (0<=r) && decide (r<=2)) && decide (2 * p+(if r=2 then 1 else 0)<=(m:Int))):=rfl;generalize (if r=2 then (1:Int) else 0)=y at ib fb;rw [fb];generalize (decide (0<=r) && decide (r<=2))=q at inn fb ⊢;have i0:atI [W.int p,W.int r] 0=some (.int p):=rfl;have i1:atI [W.int p,W.int r] 1=some (.int r):=rfl;cases d1:decide (0<=p) with
          | false=>simp! [c1,al,i0,i1,d1]
          | true =>
            cases q with
            | false=>simp! [c1,al,i0,i1,d1,inn]
            | true=>simp! [c1,al,i0,i1,d1,inn,m2,ib]
        | _ =>
          have al:([true,false].all id)=false:=rfl;simp! [c1,za7,al,zcv]
      | _ =>
        have al:∀q,([false,q].all id)=false:=fun q=>rfl;simp! [c1,za7,al,zcv]
  | _=>rfl
noncomputable def z0u (Φ:Fn):Prop:=∀(k:Nat) (st:W),HS k st->k+10 < big->∃st' w f,Φ [st]=some ([st'],(w,f))/\HS (k+4) st'/\okW w=true
theorem z1i {Ψ:Str->Fn} (hT:ze0 (Ψ "_law_take")):z0u (zag [true] 5 (zda Ψ)):=fun k st hs hk=>by
 obtain ⟨st1,a,e1,g1,a0,a9⟩:=hT k st 6 hs (by omega) (by decide) (by decide);obtain ⟨st2,b,e2,g2,b0,b9⟩:=hT (k+1) st1 5 g1 (by omega) (by decide) (by decide);obtain ⟨st3,c,e3,g3,c0,c9⟩:=hT (k+2) st2 8 g2 (by omega) (by decide) (by decide);obtain ⟨st4,q,e4,g4,q0,q9⟩:=hT (k+3) st3 9 g3 (by omega) (by decide) (by decide);obtain ⟨d,hd,md⟩:=zvh (ws:=[.bl true,.bl false,.non,.str "0",.tup [.int 0],.int (10 ^ (20:Int).toNat),.int 2,.int 0]) c0 c9;have fd:frE d=true:=by
  simp only [List.mem_cons,List.not_mem_nil,or_false] at md;rcases md with rfl | rfl | rfl | rfl | rfl | rfl | rfl | rfl<;>rfl
 have fok:okW d=true:=by
  simp only [List.mem_cons,List.not_mem_nil,or_false] at md;rcases md with rfl | rfl | rfl | rfl | rfl | rfl | rfl | rfl<;>rfl
 obtain ⟨w,hw,mw⟩:=zvh (ws:=[.tup [.int (a - 1),.int (b - 1)],.tup [d,.int (b - 1)],.tup [.int (a - 1),d],.lst [.int (a - 1),.int (b - 1)],.tup [.int (a - 1)],.tup [.int (a - 1),.int (b - 1),.int 0],d,.tup [.int (b - 1),.int (a - 1)],.tup []]) q0 q9;have o2:∀a b,okW (.tup [a,b])=(frE a && frE b):=fun _ _=>rfl;have ow:okW w=true:=by
  simp only [List.mem_cons,List.not_mem_nil,or_false] at mw;rcases mw with rfl | rfl | rfl | rfl | rfl | rfl | rfl | rfl | rfl
  all_goals first | rfl | exact fok | (rw [o2,Bool.and_eq_true];exact ⟨by first | rfl | exact fd,by first | rfl | exact fd⟩)
 have p20:cPow 10 20=true:=by decide
 refine ⟨st4,w,false,?_,g4,ow⟩;unfold zda;simp! [e1,e2,e3,e4,p20,hd,hw]
noncomputable def zvx (Φ:Fn):Prop:=∀ts:List (List Nat),ts.length<=64->(∀t∈ts,t.length<=64)->Φ [.tup (ts.map tmW),.tup (ts.map tmW)]=some ([.tup (ts.map tmW),.tup (ts.map tmW)],(.bl true,false))
theorem zik {Ψ:Str->Fn}{ws:List W} (hz:ws.length<=64) (h:∀w∈ws,Ψ "_law_same" [w,w]=some ([w,w],(.bl true,false))):zag [false,false] 2 (zaw Ψ) [.tup ws,.tup ws]=some ([.tup ws,.tup ws],(.bl true,false)):=by
 have s9:(1000:Nat)<=sizeLine:=by decide
 have lz:(zipW ws ws).length=ws.length:=by rw [zes,Nat.min_self]
 have c1:zc2 Ψ [some (.tup ws,false),some (.tup ws,false)]=some ([some (.tup ws,false),some (.tup ws,false)],(.lst ((List.replicate ws.length true).map W.bl),true)):=by
  unfold zc2;obtain ⟨ce',out,hc,⟨w0,w1,w2,rfl⟩,rfl⟩:=zhw (cap:=[none,none,none]) (T:=.tp [1,2]) (it:=gZip (gVar 0) (gVar 1)) (tc:=gYes) (te:=zae [false,false] (Ψ "_law_same") (gCns (gArg (gVar 1)) (gCns (gArg (gVar 2)) gA0))) (fun i c dn=>(∃u0 u1 u2,c=[u0,u1,u2])/\dn=(List.replicate i true).map W.bl) (en:=[some (.tup ws,false),some (.tup ws,false)]) (e0:=[some (.tup ws,false),some (.tup ws,false)]) (ws:=zipW ws ws) rfl rfl (by rw [lz];omega) ⟨⟨_,_,_,rfl⟩,rfl⟩ fun i w c dn hw hp=>by
   obtain ⟨⟨u0,u1,u2,rfl⟩,rfl⟩:=hp;have li:i < ws.length:=by have:=(List.getElem?_eq_some_iff.mp hw).1;omega
   have gi:ws[i]?=some ws[i]:=List.getElem?_eq_getElem li;have z:=zg1 gi gi;rw [hw] at z;obtain rfl:=sI z;have e:=h ws[i] (List.getElem_mem li);generalize ws[i]=x at e;refine ⟨[u0,some (x,false),some (x,false)],rfl,.inl ⟨[u0,some (x,false),some (x,false)],[u0,some (x,false),some (x,false)],(.bl true,false),rfl,?_,⟨_,_,_,rfl⟩,?_⟩⟩
   ·simp! [e]
   ·rw [List.replicate_succ',List.map_append];rfl
  rw [lz] at hc;exact hc
 have al:=zu8 ws.length;have i1:oIsi .tuple (.tup ws)=some (.bl true,false):=rfl;unfold zaw;simp! [i1,c1,al]
theorem zv4 (Ψ:Str->Fn):zx2 (zag [false,false] 2 (zaw Ψ)):=fun a b=>rfl
theorem zwx {Ψ:Str->Fn} (hI:zx2 (Ψ "_law_same")) (t:List Nat) (ht:t.length<=64):zag [false,false] 2 (zaw Ψ) [tmW t,tmW t]=some ([tmW t,tmW t],(.bl true,false)):=by
 unfold tmW;refine zik (by rw [List.length_map];exact ht) fun w hw=>?_;obtain ⟨l,_,rfl⟩:=List.mem_map.mp hw;have e:=hI (l:Nat) (l:Nat);rw [decide_eq_true rfl] at e;exact e
theorem zzo {Ψ:Str->Fn} (hS:∀t:List Nat,t.length<=64->Ψ "_law_same" [tmW t,tmW t]=some ([tmW t,tmW t],(.bl true,false))):zvx (zag [false,false] 2 (zaw Ψ)):=fun ts hz hl=>by
 refine zik (by rw [List.length_map];exact hz) fun w hw=>?_;obtain ⟨t,ht,rfl⟩:=List.mem_map.mp hw;exact hS t (hl t ht)
structure Fns (Ψ:Str->Fn):Prop where
 hK:ze0 (Ψ "_law_take")
 hF:zen (Ψ "is_form")
 hG:zen (Ψ "_law_is_form")
 hP:zti (Ψ "form_poly")
 hD:zti (Ψ "_law_due")
 hW:WtOk (Ψ "form_weight")
 hL:zo6 (Ψ "_law_forms")
 hV:zlo (Ψ "_law_values")
 hS:zvx (Ψ "_law_same")
 hI:zx2 (Ψ "_law_same")
 hO:z0u (Ψ "_law_odd")
 hT:zjf (Ψ "_law_turning")
 hU:zl2 (Ψ "_law_turned")
theorem z1p {m:Nat}{x:Nat × Nat} (hm:m<=6) (hx:x∈zah m):zcv m (fmW x)=true:=by
 obtain ⟨_,_,h,_⟩:=(zem ⟨m,by omega⟩).2 x hx;have h:2 * x.1+(if x.2=2 then 1 else 0)<=m:=h;obtain ⟨h1,h2,_⟩:=(zem ⟨m,by omega⟩).2 x hx;show (decide (0<=(x.1:Int)) && (decide (0<=(x.2:Int)) && decide ((x.2:Int)<=2)) && decide (2 * (x.1:Int)+(if (x.2:Int)=2 then 1 else 0)<=(m:Int)))=true;rw [decide_eq_true (show 0<=(x.1:Int) by omega),decide_eq_true (show 0<=(x.2:Int) by omega),decide_eq_true (show (x.2:Int)<=2 by omega),Bool.and_self,Bool.true_and,Bool.true_and];refine decide_eq_true ?_;by_cases c:x.2=2
 ·rw [if_pos c] at h;rw [if_pos (by omega)];omega
 ·rw [if_neg c] at h;rw [if_neg (by omega)];omega
theorem z0p {Ψ:Str->Fn} (F:Fns Ψ) {m:Nat}{x:Nat × Nat}{v0 v1 v4 v5 v6 v7 v8 v9:Option (W × Bool)} (h1:1<=m) (hm:m<=6) (hx:x∈zah m):zmm Ψ [v0,v1,some (.int (m:Nat),false),some (fmW x,false),v4,v5,v6,v7,v8,v9]=some ([v0,v1,some (.int (m:Nat),false),some (fmW x,false),v4,v5,v6,v7,v8,v9],.nx):=by
 obtain ⟨s1,s2,_,dl,dt⟩:=(zem ⟨m,by omega⟩).2 x hx;have a1:=F.hF m (fmW x) rfl;rw [z1p hm hx] at a1;have a2:=F.hP x ⟨s1,s2⟩;have a3:=F.hD x ⟨s1,s2⟩;have a4:=F.hS (dueT x) dl fun t ht=>(dt t ht).1;have a5:=F.hW m x h1 hm hx;have a6:=F.hV m (dueT x) hm dl (fun t ht=>(dt t ht).2) fun t ht=>(dt t ht).1;have a7:=zy9 (tab (2 ^ m) (valF (dueT x)));have a8:=F.hI (wtF m x) (wtF m x);rw [decide_eq_true rfl] at a8;have a7:oSum [.lst ((tab (2 ^ m) (valF (dueT x))).map W.int)]=some (.int (wtF m x),false):=a7;have is1:zmn (.bl true) (.bl true)=some (.bl false,false):=rfl;unfold zmm;refine seq_e (e1:=[v0,v1,some (.int (m:Nat),false),some (fmW x,false),v4,v5,v6,v7,v8,v9]) ?_ ?_
 ·simp! [a1,is1,a2,a3,a4]
 ·simp! [a5,a3,a6,a7,a8]
theorem z2v {Ψ:Str->Fn} (F:Fns Ψ) {m:Nat}{v0 v1 v3 v4 v5 v6 v7 v8 v9:Option (W × Bool)} (h1:1<=m) (hm:m<=6):∃w3,zrl Ψ [v0,v1,some (.int (m:Nat),false),v3,v4,v5,v6,v7,v8,v9]=some ([v0,v1,some (.int (m:Nat),false),w3,v4,v5,v6,v7,v8,v9],.nx):=by
  have fo:=F.hL m h1 hm;unfold zrl;obtain ⟨en',h,w3,rfl⟩:=zbl (mp:=[]) (T:=.nm 3) (it:=(zbw (zae [false] (Ψ "_law_forms") (gCns (gArg (gVar 2)) gA0)))) (body:=zmm Ψ) (fun i e=>∃w3,e=[v0,v1,some (.int (m:Nat),false),w3,v4,v5,v6,v7,v8,v9]) (en:=[v0,v1,some (.int (m:Nat),false),v3,v4,v5,v6,v7,v8,v9]) (e0:=[v0,v1,some (.int (m:Nat),false),v3,v4,v5,v6,v7,v8,v9]) (ws:=(zah m).map fmW) (by simp! [fo]) ⟨v3,rfl⟩ fun i w e hw hp=>by
    obtain ⟨w3,rfl⟩:=hp;rw [List.getElem?_map] at hw;cases ha:(zah m)[i]? with
    | none=>rw [ha] at hw;exact noSome hw
    | some x =>
      rw [ha] at hw;obtain rfl:=sI hw;exact ⟨_,_,rfl,.inl (z0p F h1 hm (List.mem_of_getElem? ha)),_,rfl⟩
  exact ⟨_,h⟩
theorem z2p {Ψ:Str->Fn} (F:Fns Ψ) {k m:Nat}{st:W}{v0 v3 v4 v5 v6 v7 v8 v9:Option (W × Bool)} (hs:HS k st) (hk:k+10 < big):∃st' w5 w6,zmu Ψ [v0,some (st,true),some (.int (m:Nat),false),v3,v4,v5,v6,v7,v8,v9]=some ([v0,some (st',true),some (.int (m:Nat),false),v3,v4,w5,w6,v7,v8,v9],.nx)/\HS (k+4) st':=by
 obtain ⟨st1,w,f,e1,g1,ow⟩:=F.hO k st hs hk;have a1:=F.hF m w ow;have a2:=F.hG m w ow;have dd:(!decide (zcv m w=zcv m w))=false:=by rw [decide_eq_true rfl];rfl
 generalize zcv m w=q at a1 a2 dd;have ib:oIsi .bool (.bl q)=some (.bl true,false):=rfl;refine ⟨st1,some (w,false),some (.bl q,false),?_,g1⟩;unfold zmu;refine seq_e (e1:=[v0,some (st1,true),some (.int (m:Nat),false),v3,v4,some (w,f),v6,v7,v8,v9]) ?_ (seq_e (e1:=[v0,some (st1,true),some (.int (m:Nat),false),v3,v4,some (w,false),some (.bl q,false),v7,v8,v9]) ?_ ?_)
 ·simp! [e1]
 ·simp! [a1]
 ·simp! [ib,a2,dd]
theorem z0e {Ψ:Str->Fn} (F:Fns Ψ) {k m:Nat}{st:W}{v0 v3 v4 v5 v6 v7 v8 v9:Option (W × Bool)} (h1:1<=m) (hm:m<=6) (hs:HS k st) (hk:k+100 < big):∃st' w3 w4 w5 w6,zl5 Ψ [v0,some (st,true),some (.int (m:Nat),false),v3,v4,v5,v6,v7,v8,v9]=some ([v0,some (st',true),some (.int (m:Nat),false),w3,w4,w5,w6,v7,v8,v9],.nx)/\HS (k+30) st':=by
 obtain ⟨w3,l1⟩:=z2v F (v0:=v0) (v1:=some (st,true)) (v3:=v3) (v4:=v4) (v5:=v5) (v6:=v6) (v7:=v7) (v8:=v8) (v9:=v9) h1 hm;obtain ⟨st1,r,e1,g1,r0,r1⟩:=F.hK k st 7 hs (by omega) (by decide) (by decide);obtain ⟨r,rfl⟩:=Int.eq_ofNat_of_zero_le r0;have er:(1:Int)+(r:Int)=((1+r:Nat):Int):=by omega
 have l2:∃st' w4 w5 w6,zn5 Ψ [v0,some (st,true),some (.int (m:Nat),false),w3,v4,v5,v6,v7,v8,v9]=some ([v0,some (st',true),some (.int (m:Nat),false),w3,w4,w5,w6,v7,v8,v9],.nx)/\HS (k+30) st':=by
  unfold zn5;obtain ⟨en',h,st',w4,w5,w6,rfl,g⟩:=zbl (mp:=[]) (T:=.nm 4) (body:=zmu Ψ) (fun i e=>∃(st' : W) (w4 w5 w6:Option (W × Bool)),e=[v0,some (st',true),some (.int (m:Nat),false),w3,w4,w5,w6,v7,v8,v9]/\HS (k+1+4 * i) st') (zfs (a:=(gArg (gOp2 oAdd (gArg (gC (.int 1))) (gArg (zae [true,false] (Ψ "_law_take") (gCns (zaa 1) (gCns (gArg (gC (.int 7))) gA0))))))) (en:=[v0,some (st,true),some (.int (m:Nat),false),w3,v4,v5,v6,v7,v8,v9]) (e1:=[v0,some (st1,true),some (.int (m:Nat),false),w3,v4,v5,v6,v7,v8,v9]) (n:=1+r) (by simp! [e1,er]) (by omega)) ⟨st1,v4,v5,v6,rfl,g1⟩ fun i w e hw hp=>by
   obtain ⟨st',w4,w5,w6,rfl,g⟩:=hp;obtain ⟨li,rfl⟩:=zb3 hw;obtain ⟨st2,x5,x6,hb,g2⟩:=z2p F (m:=m) (v0:=v0) (v3:=w3) (v4:=some (.int (0+(i:Int)),false)) (v5:=w5) (v6:=w6) (v7:=v7) (v8:=v8) (v9:=v9) g (by omega);exact ⟨_,_,rfl,.inl hb,_,_,_,_,rfl,g2.mono (by omega)⟩
  rw [zbp] at g;exact ⟨_,_,_,_,h,g.mono (by omega)⟩
 obtain ⟨st',w4,w5,w6,l2,g⟩:=l2;exact ⟨st',w3,w4,w5,w6,by unfold zl5;exact seq_e l1 l2,g⟩
theorem z11 {Ψ:Str->Fn} (F:Fns Ψ) {k:Nat}{st:W}{v0 v2 v3 v4 v5 v6 v7 v8 v9:Option (W × Bool)} (hs:HS k st) (hk:k+200 < big):∃st' w2 w3 w8 w9,zmw Ψ [v0,some (st,true),v2,v3,v4,v5,v6,v7,v8,v9]=some ([v0,some (st',true),w2,w3,v4,v5,v6,v7,w8,w9],.nx)/\HS (k+60) st':=by
 obtain ⟨st1,r1,e1,g1,q0,q1⟩:=F.hK k st 6 hs (by omega) (by decide) (by decide);obtain ⟨m',rfl⟩:=Int.eq_ofNat_of_zero_le q0;have em:(1:Int)+(m' : Int)=((m' + 1:Nat):Int):=by omega
 generalize hmm:m' + 1=m at em;have h1:1<=m:=by omega
 have hm:m<=6:=by omega
 have fo:=F.hL m h1 hm;obtain ⟨fp,fi⟩:=zem ⟨m,by omega⟩;have fl:(zah m).length<=1000:=by
  have:∀m:Fin 7,(zah m.val).length<=1000:=by decide +kernel
  exact this ⟨m,by omega⟩
 have fp:0 < (zah m).length:=fp;obtain ⟨st2,c,e2,g2,c0,c1⟩:=F.hK (k+1) st1 ((zah m).length:Nat) g1 (by omega) (by omega) (by omega);obtain ⟨c,rfl⟩:=Int.eq_ofNat_of_zero_le c0;have lc:c < (zah m).length:=by omega
 have hx:=List.getElem_mem lc;have ix:atI ((zah m).map fmW) (c:Int)=some (fmW (zah m)[c]):=za2 (by rw [List.getElem?_map,List.getElem?_eq_getElem lc];rfl);generalize (zah m)[c]=x at hx ix;obtain ⟨s1,s2,_,dl,dt⟩:=fi x hx;obtain ⟨st3,L,s,e3,g3,l1,l2,l3,l4⟩:=F.hT (k+2) st2 m g2 (by omega) h1 hm;have a3:=F.hD x ⟨s1,s2⟩;have a5:=F.hW m x h1 hm hx;have a6:=F.hV m (dueT x) hm dl (fun t ht=>(dt t ht).2) fun t ht=>(dt t ht).1;have a7:=F.hU m L s (valF (dueT x)) hm l1 l2 l3;have a8:=zy9 (tab (2 ^ m) fun p=>valF (dueT x) (s ^^^ lin L p));rw [zts (valF (dueT x)) l1 l2 l3 l4] at a8;have a8:oSum [.lst ((tab (2 ^ m) fun p=>valF (dueT x) (s ^^^ lin L p)).map W.int)]=some (.int (wtF m x),false):=a8;have dd:(!decide (wtF m x=wtF m x))=false:=by rw [decide_eq_true rfl];rfl
 refine ⟨st3,some (.int (m:Nat),false),some (fmW x,false),some (.lst ((zah m).map fmW),true),some (.lst ((tab (2 ^ m) fun p=>valF (dueT x) (s ^^^ lin L p)).map W.int),true),?_,g3.mono (by omega)⟩;unfold zmw;refine seq_e (e1:=[v0,some (st1,true),some (.int (m:Nat),false),v3,v4,v5,v6,v7,v8,v9]) ?_ (seq_e (e1:=[v0,some (st1,true),some (.int (m:Nat),false),v3,v4,v5,v6,v7,some (.lst ((zah m).map fmW),true),v9]) ?_ (seq_e (e1:=[v0,some (st2,true),some (.int (m:Nat),false),some (fmW x,false),v4,v5,v6,v7,some (.lst ((zah m).map fmW),true),v9]) ?_ (seq_e (e1:=[v0,some (st3,true),some (.int (m:Nat),false),some (fmW x,false),v4,v5,v6,v7,some (.lst ((zah m).map fmW),true),some (.lst ((tab (2 ^ m) fun p=>valF (dueT x) (s ^^^ lin L p)).map W.int),true)]) ?_ ?_)))
 ·simp! [e1,em]
 ·simp! [fo]
 ·simp! [List.length_map,e2,ix]
 ·simp! [e3,a3,a6,a7]
 ·simp! [a5,a8,dd]
theorem zun (ns:List Int) (hl:ns.length<=63):sem T bn 40 "law" [.frl (ns.map W.int)]=some ([.frl (ns.map W.int)],(.bl true,false)):=by
 have bb:(20000:Nat) < big:=by decide
 rw [z4a];generalize hΨ:sem T bn 39=Ψ;have hH:zv3 (Ψ "_law_hand"):=by rw [<-hΨ,zkc];exact zym (sem T bn 0)
 have F:Fns Ψ:={
  hK:=by rw [<-hΨ,zdn];exact zj5 (sem T bn 0)
  hF:=by rw [<-hΨ,zrd];exact zm2 (by rw [zsv];exact zz3 _) (by rw [zm0];exact zwb _) (by rw [zek];exact zwl _)
  hG:=by rw [<-hΨ,zf3];exact zf5 _
  hP:=by rw [<-hΨ,zke];exact z40 _
  hD:=by rw [<-hΨ,zn0];exact zzq _
  hW:=by rw [<-hΨ,zg3];exact wt_ok _
  hL:=by rw [<-hΨ,zjk];exact zuw _
  hV:=by rw [<-hΨ,zhr];exact zqp (sem T bn 0)
  hS:=by rw [<-hΨ,zcp];exact zzo (by rw [zcp];exact zwx (by rw [zcp];exact zv4 _))
  hI:=by rw [<-hΨ,zcp];exact zv4 _
  hO:=by rw [<-hΨ,zm7];exact z1i (by rw [zdn];exact zj5 (sem T bn 0))
  hT:=by rw [<-hΨ,zf0];exact zn2 (by rw [zdn];exact zj5 (sem T bn 0))
  hU:=by rw [<-hΨ,zhg];exact zqs (by rw [zki];exact zx3 _) }
 obtain ⟨st0,h0,g0⟩:=hH ns hl;obtain ⟨i,j,t1,t2,t3⟩:=z3l (b:=6) (n:=ns.length) (by omega);have t1:oMin [.int 6,.int (ns.length:Nat)]=some (.int (i:Nat),false):=t1;have sf:seqW (.frl (ns.map W.int))=some (ns.map W.int):=rfl;have l3:∃st' w2 w3 w4 w5 w6,zo4 Ψ [some (.frl (ns.map W.int),false),some (st0,true),none,none,none,none,none,none,none,none]=some ([some (.frl (ns.map W.int),false),some (st',true),w2,w3,w4,w5,w6,none,none,none],.nx)/\HS 200 st':=by
  unfold zo4;obtain ⟨en',h,st',w2,w3,w4,w5,w6,rfl,g⟩:=zbl (mp:=[]) (T:=.nm 2) (body:=zl5 Ψ) (it:=zk3 (gCns (gArg (gC (.int 1))) (gCns (gArg (gC (.int 7))) gA0))) (fun i e=>∃(st' : W) (w2 w3 w4 w5 w6:Option (W × Bool)),e=[some (.frl (ns.map W.int),false),some (st',true),w2,w3,w4,w5,w6,none,none,none]/\HS (30 * i) st') (en:=[some (.frl (ns.map W.int),false),some (st0,true),none,none,none,none,none,none,none,none]) (e0:=[some (.frl (ns.map W.int),false),some (st0,true),none,none,none,none,none,none,none,none]) (ws:=rngW 1 6) (zy5 (i:=1) (j:=7) rfl rfl (by decide) (by decide)) ⟨st0,_,_,_,_,_,rfl,g0⟩ fun i w e hw hp=>by
   obtain ⟨st',w2,w3,w4,w5,w6,rfl,g⟩:=hp;obtain ⟨li,rfl⟩:=zb3 hw;have ei:(1:Int)+(i:Int)=((1+i:Nat):Int):=by omega
   rw [ei];obtain ⟨st2,x3,x4,x5,x6,hb,g2⟩:=z0e F (m:=1+i) (v0:=some (.frl (ns.map W.int),false)) (v3:=w3) (v4:=w4) (v5:=w5) (v6:=w6) (v7:=none) (v8:=none) (v9:=none) (by omega) (by omega) g (by omega);exact ⟨_,_,rfl,.inl hb,_,_,_,_,_,_,rfl,g2.mono (by omega)⟩
  rw [zbp] at g;exact ⟨_,_,_,_,_,_,h,g.mono (by omega)⟩
 obtain ⟨st1,w2,w3,w4,w5,w6,l3,g1⟩:=l3;have l4:∃en',zo0 Ψ [some (.frl (ns.map W.int),false),some (st1,true),w2,w3,w4,w5,w6,none,none,none]=some (some (.frl (ns.map W.int),false)::en',.nx):=by
  unfold zo0;obtain ⟨en',h,st',x2,x3,x7,x8,x9,rfl,_⟩:=zbl (mp:=[]) (T:=.nm 7) (body:=zmw Ψ) (fun i e=>∃(st' : W) (x2 x3 x7 x8 x9:Option (W × Bool)),e=[some (.frl (ns.map W.int),false),some (st',true),x2,x3,w4,w5,w6,x7,x8,x9]/\HS (200+60 * i) st') (zfs (a:=(gArg (gOpN oMax (gCns (gArg (gC (.int 3))) (gCns (gArg (gOpN oMin (gCns (gArg (gC (.int 6))) (gCns (gArg (gOpN oLen (gCns (zaa 0) gA0))) gA0)))) gA0))))) (en:=[some (.frl (ns.map W.int),false),some (st1,true),w2,w3,w4,w5,w6,none,none,none]) (e1:=[some (.frl (ns.map W.int),false),some (st1,true),w2,w3,w4,w5,w6,none,none,none]) (n:=j) (by simp! [sf,List.length_map,t1,t2]) (by omega)) ⟨st1,_,_,_,_,_,rfl,g1⟩ fun i w e hw hp=>by
   obtain ⟨st',x2,x3,x7,x8,x9,rfl,g⟩:=hp;obtain ⟨li,rfl⟩:=zb3 hw;obtain ⟨st2,y2,y3,y8,y9,hb,g2⟩:=z11 F (v0:=some (.frl (ns.map W.int),false)) (v2:=x2) (v3:=x3) (v4:=w4) (v5:=w5) (v6:=w6) (v7:=some (.int (0+(i:Int)),false)) (v8:=x8) (v9:=x9) g (by omega);exact ⟨_,_,rfl,.inl hb,_,_,_,_,_,_,rfl,g2.mono (by omega)⟩
  exact ⟨_,h⟩
 obtain ⟨en',l4⟩:=l4;unfold zwc;refine zi1 (en:=some (.frl (ns.map W.int),false)::en') rfl (seq_e (e1:=[some (.frl (ns.map W.int),false),some (st0,true),none,none,none,none,none,none,none,none]) ?_ (seq_e l3 (seq_e l4 ?_))) rfl
 ·simp! [h0]
 ·simp! []
noncomputable abbrev nA (K:PySem.W.Frag) (n:Str) (f:Addr):Prop:=PySem.W.nsIn K mainGlobals n=some (some (.ref f))
noncomputable abbrev nL (K:PySem.W.Frag) (f:Addr) (oc:Value) (od:Option Addr) (n:Str) (st:Stmt) (kV dc pm:Value) (an:Option Addr) (cd ct:Value) (sl:Array (Option Value)):Prop:=K.lookup f=some ⟨oc,od,.func (PySem.W.fnOf n n (zd8 st) (zc1 st) (zao st) .none kV dc pm an cd ct),sl⟩
noncomputable abbrev nC (K:PySem.W.Frag) (cd:Value) (n:Str):Prop:=PySem.W.codeIn K cd n=true
noncomputable abbrev nK (K:PySem.W.Frag) (f:Addr):Prop:=PySem.W.keepIn K (.ref f)=true
noncomputable def nD (K:PySem.W.Frag) (t:Fd):Prop:=∃(f:Addr) (oc:Value) (od:Option Addr) (kV dc pm:Value) (an:Option Addr) (cd ct:Value) (sl:Array (Option Value)),nA K t.nm f/\nL K f oc od t.nm t.st kV dc pm an cd ct sl/\nC K cd t.nm/\nK K f
theorem nD_i {K:PySem.W.Frag}{n:Str}{t:Fd}{f:Addr}{oc:Value}{od:Option Addr}{kV dc pm:Value}{an:Option Addr}{cd ct:Value}{sl:Array (Option Value)} (e:t.nm=n) (a:nA K n f) (l:nL K f oc od n t.st kV dc pm an cd ct sl) (c:nC K cd n) (k:nK K f):nD K t:=by
 subst e;exact ⟨_,_,_,_,_,_,_,_,_,_,a,l,c,k⟩
noncomputable def bO (t:Fd):Prop:=FnScope t.N t.ps (zao t.st)/\t.m.length=t.ps.length/\∀(kV doc pm:Value) (an:Option Addr) (cdv ct:Value) (us:List Value),us.length=t.ps.length->bindArgs (PySem.W.fnOf t.nm t.nm (zd8 t.st) (zc1 t.st) (zao t.st) .none kV doc pm an cdv ct) ⟨us,[]⟩=pure (t.ps.zip us)
theorem z3h {K:PySem.W.Frag}{h:Heap}{mg:Str->Option Value} (X:K.In h) (G:h.Ns mainGlobals mg) {t:Fd} (b:bO t) (lm:t.nm∈lams->zuk K t.nm=true) (d:nD K t):FdOk K mg t:=by
 obtain ⟨f,oc,od,kV,dc,pm,an,cd,ct,sl,a,l,c,k⟩:=d;have F:=zvs (st:=t.st) l c k;exact ⟨b.1,b.2.1,⟨_,_,F,F.binds b.2.2,PySem.W.mg_of X G a⟩,lm⟩
theorem nd_T:(T.map (·.nm)).Nodup:=by decide +kernel
theorem all_c {α:Type}{P:α->Prop}{a:α}{l:List α} (h:P a) (r:∀x∈l,P x):∀x∈a::l,P x:=List.forall_mem_cons.mpr ⟨h,r⟩
theorem all_n {α:Type}{P:α->Prop}:∀x∈([]:List α),P x:=fun _ h=>nomatch h
@[elab_as_elim] theorem lenS {α:Type}{P:List α->Prop}{n:Nat} (us:List α) (hl:us.length=n+1) (h:∀a l,l.length=n->P (a::l)):P us:=by
 cases us with
 | nil=>cases hl
 | cons a l=>exact h a l (Nat.succ.inj hl)
@[elab_as_elim] theorem len0 {α:Type}{P:List α->Prop} (us:List α) (hl:us.length=0) (h:P []):P us:=by
 cases us with
 | nil=>exact h
 | cons a l=>cases hl
@[elab_as_elim] theorem len1 {α:Type}{P:List α->Prop} (us:List α) (hl:us.length=1) (h:∀a,P [a]):P us:=lenS us hl fun a l e=>len0 l e (h a)
@[elab_as_elim] theorem len2 {α:Type}{P:List α->Prop} (us:List α) (hl:us.length=2) (h:∀a b,P [a,b]):P us:=lenS us hl fun a l e=>lenS l e fun b l e=>len0 l e (h a b)
@[elab_as_elim] theorem len3 {α:Type}{P:List α->Prop} (us:List α) (hl:us.length=3) (h:∀a b c,P [a,b,c]):P us:=lenS us hl fun a l e=>len2 l e (h a)
@[elab_as_elim] theorem len4 {α:Type}{P:List α->Prop} (us:List α) (hl:us.length=4) (h:∀a b c d,P [a,b,c,d]):P us:=lenS us hl fun a l e=>len3 l e (h a)
@[elab_as_elim] theorem len5 {α:Type}{P:List α->Prop} (us:List α) (hl:us.length=5) (h:∀a b c d e,P [a,b,c,d,e]):P us:=lenS us hl fun a l e=>len4 l e (h a)
theorem zkw:bO zc7:=⟨⟨by kernel_rfl,by kernel_rfl,by kernel_rfl,by decide +kernel,rfl,by decide +kernel,by decide +kernel⟩,rfl,fun _ _ _ _ _ _ us hl=>len1 us hl fun _=>rfl⟩
theorem zp3:bO zeo:=⟨⟨by kernel_rfl,by kernel_rfl,by kernel_rfl,by decide +kernel,rfl,by decide +kernel,by decide +kernel⟩,rfl,fun _ _ _ _ _ _ us hl=>len2 us hl fun _ _=>rfl⟩
theorem zd6:bO zav:=⟨⟨by kernel_rfl,by kernel_rfl,by kernel_rfl,by decide +kernel,rfl,by decide +kernel,by decide +kernel⟩,rfl,fun _ _ _ _ _ _ us hl=>len1 us hl fun _=>rfl⟩
theorem znq:bO zdz:=⟨⟨by kernel_rfl,by kernel_rfl,by kernel_rfl,by decide +kernel,rfl,by decide +kernel,by decide +kernel⟩,rfl,fun _ _ _ _ _ _ us hl=>len2 us hl fun _ _=>rfl⟩
theorem zie:bO zcn:=⟨⟨by kernel_rfl,by kernel_rfl,by kernel_rfl,by decide +kernel,rfl,by decide +kernel,by decide +kernel⟩,rfl,fun _ _ _ _ _ _ us hl=>len1 us hl fun _=>rfl⟩
theorem zf9:bO zbo:=⟨⟨by kernel_rfl,by kernel_rfl,by kernel_rfl,by decide +kernel,rfl,by decide +kernel,by decide +kernel⟩,rfl,fun _ _ _ _ _ _ us hl=>len2 us hl fun _ _=>rfl⟩
theorem ziu:bO zck:=⟨⟨by kernel_rfl,by kernel_rfl,by kernel_rfl,by decide +kernel,rfl,by decide +kernel,by decide +kernel⟩,rfl,fun _ _ _ _ _ _ us hl=>len1 us hl fun _=>rfl⟩
theorem zjc:bO zcj:=⟨⟨by kernel_rfl,by kernel_rfl,by kernel_rfl,by decide +kernel,rfl,by decide +kernel,by decide +kernel⟩,rfl,fun _ _ _ _ _ _ us hl=>len2 us hl fun _ _=>rfl⟩
theorem zfy:bO zbq:=⟨⟨by kernel_rfl,by kernel_rfl,by kernel_rfl,by decide +kernel,rfl,by decide +kernel,by decide +kernel⟩,rfl,fun _ _ _ _ _ _ us hl=>len2 us hl fun _ _=>rfl⟩
theorem zjz:bO zco:=⟨⟨by kernel_rfl,by kernel_rfl,by kernel_rfl,by decide +kernel,rfl,by decide +kernel,by decide +kernel⟩,rfl,fun _ _ _ _ _ _ us hl=>len2 us hl fun _ _=>rfl⟩
theorem zf6:bO zbs:=⟨⟨by kernel_rfl,by kernel_rfl,by kernel_rfl,by decide +kernel,rfl,by decide +kernel,by decide +kernel⟩,rfl,fun _ _ _ _ _ _ us hl=>len3 us hl fun _ _ _=>rfl⟩
theorem zfo:bO zbe:=⟨⟨by kernel_rfl,by kernel_rfl,by kernel_rfl,by decide +kernel,rfl,by decide +kernel,by decide +kernel⟩,rfl,fun _ _ _ _ _ _ us hl=>len2 us hl fun _ _=>rfl⟩
theorem zh9:bO zci:=⟨⟨by kernel_rfl,by kernel_rfl,by kernel_rfl,by decide +kernel,rfl,by decide +kernel,by decide +kernel⟩,rfl,fun _ _ _ _ _ _ us hl=>len2 us hl fun _ _=>rfl⟩
theorem ze1:bO zbc:=⟨⟨by kernel_rfl,by kernel_rfl,by kernel_rfl,by decide +kernel,rfl,by decide +kernel,by decide +kernel⟩,rfl,fun _ _ _ _ _ _ us hl=>len2 us hl fun _ _=>rfl⟩
theorem zle:bO zdh:=⟨⟨by kernel_rfl,by kernel_rfl,by kernel_rfl,by decide +kernel,rfl,by decide +kernel,by decide +kernel⟩,rfl,fun _ _ _ _ _ _ us hl=>len1 us hl fun _=>rfl⟩
theorem zg8:bO zb0:=⟨⟨by kernel_rfl,by kernel_rfl,by kernel_rfl,by decide +kernel,rfl,by decide +kernel,by decide +kernel⟩,rfl,fun _ _ _ _ _ _ us hl=>len1 us hl fun _=>rfl⟩
theorem zk9:bO zdg:=⟨⟨by kernel_rfl,by kernel_rfl,by kernel_rfl,by decide +kernel,rfl,by decide +kernel,by decide +kernel⟩,rfl,fun _ _ _ _ _ _ us hl=>len1 us hl fun _=>rfl⟩
theorem z1e:bO zk5:=⟨⟨by kernel_rfl,by kernel_rfl,by kernel_rfl,by decide +kernel,rfl,by decide +kernel,by decide +kernel⟩,rfl,fun _ _ _ _ _ _ us hl=>len1 us hl fun _=>rfl⟩
theorem all_mk {l:PySem.W.OpenLaw}{w:World}{K:PySem.W.Frag}{h:Heap}{mg:Str->Option Value}{fa:Addr} (X:K.In h) (G:h.Ns mainGlobals mg) (hfa:mg "law" = some (.ref fa)) (D:∀t∈T,nD K t) (M:∀x∈(["law"]:List Str),zuk K x=true) (Z:∀x∈bn,PySem.W.nsIn K mainGlobals x=some none) :
  ∃fd:FuncData,(∀(s:Shared) (v:Value),BindsTo s fd ⟨[v],[]⟩ [("_law_script",v)])/\∀base:Heap,K.In base->base.Ns mainGlobals mg->FnOk l.prog w K mg base CX0 40 fa fd ["_law_script"] (spF K [false] (sem T bn 40 "law")):=by
 have B:∀t∈T,bO t:=all_c zkw (all_c zp3 (all_c zd6 (all_c znq (all_c zie (all_c zf9 (all_c ziu (all_c zjc (all_c zfy (all_c zjz (all_c zf6 (all_c zfo (all_c zh9 (all_c ze1 (all_c zle (all_c zg8 (all_c zk9 (all_c z1e (all_n))))))))))))))))));have q:∀t∈T,t.nm∈lams->t.nm∈(["law"]:List Str):=by decide +kernel
 obtain ⟨f,oc,od,kV,dc,pm,an,cd,ct,sl,a,lk,c,k⟩:=D zk5 (by simp [T]);have F:=zvs (st:=zk5.st) lk c k;have e:=hfa.symm.trans (PySem.W.mg_of X G a);cases e;exact ⟨_,fun s v=>.of_eq rfl,fun base kb nb=>zqy nd_T (fun t ht=>z3h X G (B t ht) (fun hl=>M _ (q t ht hl)) (D t ht)) (fun x hx=>PySem.W.mg_none_of X G (Z x hx)) kb nb 40 zk5 (by simp [T]) _ _ F (PySem.W.mg_of X G a)⟩
theorem walk {l:PySem.W.OpenLaw}{q:Program}{loose:List Str}{XP:(Str->Option Value)->Heap->Prop}{YP:World->Heap->Prop}{d:DefRec}{K:Params->PySem.W.Frag} (hn:l.most=some 63) (hdf:d.params.defaults=[])
  (hY:∀(w:World) (h:Heap),YP w h->(K w.params).In h)
  (nt:∀w:World,PySem.W.noTabs (K w.params)=true) (nd:∀w:World,zou (K w.params)=true) (hrec:∀(w:World),∀x∈lams,∀c P,PySem.W.tabIn (K w.params) x=some (c,P)->∃d,(recsOf q).find? (fun e=>e.name == x)=some d)
  (F:∀(w:World) (mg:Str->Option Value) (fa:Addr) (h:Heap),(K w.params).In h->h.Ns mainGlobals mg->mg d.name=some (.ref fa) ->
   ∃fd:FuncData,(∀(s:Shared) (u:Value),BindsTo s fd ⟨[u],[]⟩ [("_law_script",u)])/\∀base:Heap,(K w.params).In base->base.Ns mainGlobals mg->FnOk l.prog w (K w.params) mg base CX0 40 fa fd ["_law_script"] (spF (K w.params) [false] (sem T bn 40 "law"))) :
  PySem.W.WalkO q loose XP YP l.row.toRowW d [] (fun f vs=>PySem.call f vs) :=
 L2.walk_ofT (n:=63) (k:=40) (x := "_law_script") (CX:=fun _=>CX0) (sp:=fun w=>spF (K w.params) [false] (sem T bn 40 "law")) hn (by decide) hdf ⟨rfl,by decide,by decide,rfl⟩ hY nt nd hrec F (fun _ _ _ a ns hl st hS=>zm6 st.sub st.tb hS (ws':=[.frl (ns.map W.int)]) (zun ns hl) rfl) fun _ _ _ _ _ z=>z
end My
open PySem PySem.W PyProof.Rows
set_option maxRecDepth 100000 in
set_option maxHeartbeats 0 in
theorem PySem.Challenge.cw_yesnowords_k89_forms_and_their_weights_holds : PySem.Challenge.rw_yesnowords_k89_forms_and_their_weights.Holds := by
 w_on;o_law;k_head;(case hw=>w_witness2)
 k_fill
 refine My.walk (l:=PySem.Challenge.rw_yesnowords_k89_forms_and_their_weights) rfl rfl (fun w h Y=>by first | exact PySem.W.kIn_of Y | exact PySem.W.km_in_of Y) ?nt ?nd ?hrec ?F
 case nt=>exact fun w=>by kernel_rfl
 case nd=>exact fun w=>by kernel_rfl
 case hrec =>
  intro w x hx c P e;simp only [L2.lams,List.mem_cons,List.not_mem_nil,or_false] at hx;rcases hx with rfl | rfl | rfl | rfl | rfl
  ·exact nomatch (Eq.trans (by kernel_rfl) e:(none:Option (Addr × Addr))=some (c,P))
  ·exact nomatch (Eq.trans (by kernel_rfl) e:(none:Option (Addr × Addr))=some (c,P))
  ·exact nomatch (Eq.trans (by kernel_rfl) e:(none:Option (Addr × Addr))=some (c,P))
  ·exact nomatch (Eq.trans (by kernel_rfl) e:(none:Option (Addr × Addr))=some (c,P))
  ·exact Option.isSome_iff_exists.mp (by kernel_rfl)
 case F =>
  intro w mg fa h KX G hmg;refine My.all_mk KX G hmg ?xD ?xM ?xZ
  case xM=>exact My.all_c (by kernel_rfl) (My.all_n)
  case xZ =>
   refine' My.all_c ?_ (My.all_c ?_ (My.all_c ?_ (My.all_c ?_ (My.all_c ?_ (My.all_c ?_ (My.all_c ?_ (My.all_c ?_ (My.all_c ?_ (My.all_c ?_ (My.all_c ?_ (My.all_c ?_ (My.all_c ?_ (My.all_c ?_ (My.all_n))))))))))))))
   any_goals k_is
  case xD =>
   refine' My.all_c (My.nD_i (n := "is_whole") rfl ?_ ?_ ?_ ?_) (My.all_c (My.nD_i (n := "is_row") rfl ?_ ?_ ?_ ?_) (My.all_c (My.nD_i (n := "letters_needed") rfl ?_ ?_ ?_ ?_) (My.all_c (My.nD_i (n := "is_form") rfl ?_ ?_ ?_ ?_) (My.all_c (My.nD_i (n := "form_poly") rfl ?_ ?_ ?_ ?_) (My.all_c (My.nD_i (n := "form_weight") rfl ?_ ?_ ?_ ?_) (My.all_c (My.nD_i (n := "_law_hand") rfl ?_ ?_ ?_ ?_) (My.all_c (My.nD_i (n := "_law_take") rfl ?_ ?_ ?_ ?_) (My.all_c (My.nD_i (n := "_law_values") rfl ?_ ?_ ?_ ?_) (My.all_c (My.nD_i (n := "_law_sent") rfl ?_ ?_ ?_ ?_) (My.all_c (My.nD_i (n := "_law_turned") rfl ?_ ?_ ?_ ?_) (My.all_c (My.nD_i (n := "_law_turning") rfl ?_ ?_ ?_ ?_) (My.all_c (My.nD_i (n := "_law_same") rfl ?_ ?_ ?_ ?_) (My.all_c (My.nD_i (n := "_law_is_form") rfl ?_ ?_ ?_ ?_) (My.all_c (My.nD_i (n := "_law_due") rfl ?_ ?_ ?_ ?_) (My.all_c (My.nD_i (n := "_law_forms") rfl ?_ ?_ ?_ ?_) (My.all_c (My.nD_i (n := "_law_odd") rfl ?_ ?_ ?_ ?_) (My.all_c (My.nD_i (n := "law") rfl ?_ ?_ ?_ ?_) (My.all_n))))))))))))))))))
   any_goals (first | (delta My.nA;k_is) | (delta My.nL;k_is) | (delta My.nC;k_is) | (delta My.nK;k_is) | k_is)