import PyProof.Rows.All
import Wide.All
import OpenK.AllK
import Wide.FinOn
import Lean
import PyProof.EqAt
import PyProof.EqKinds
import PyProof.TupleCall
import PySem.Challenge.RW_soundrules_k49_whole_fewest_and_orders
set_option Elab.async false
set_option linter.all false
set_option maxRecDepth 100000
namespace L2
open PySem PySem.Spec PyProof.Rows
noncomputable abbrev Key:=Sum Int Str
noncomputable def Bg:Key→Value→Bool
 | .inl k,v=>Value.isInt k v
 | .inr x,v=>Value.isStrOf x v
noncomputable def al9(w:World):Key→Int
 | .inl k=>hashInt k
 | .inr x=>hashStr w x
theorem d8:∀{k:Key} {v:Value},Bg k v=true→(∃i t,k=Sum.inl i∧v=Value.int i t)∨(∃x t,k=Sum.inr x∧v=Value.str x t)
 | .inl i,v,h=>by
  obtain⟨t,e⟩:=Value.isInt_shape (k:=i) (v:=v) h
  exact .inl ⟨i,t,rfl,e⟩
 | .inr x,v,h=>by
  obtain⟨t,e⟩:=Value.isStrOf_shape (x:=x) (v:=v) h
  exact .inr ⟨x,t,rfl,e⟩
theorem PQ(i:Int)(t:Tok):Bg (.inl i) (.int i t)=true:=by simp[Bg,Value.isInt]
theorem PN(x:Str)(t:Tok):Bg (.inr x) (.str x t)=true:=by simp[Bg,Value.isStrOf]
theorem abM(a b:Int):decide ((Sum.inl a:Key)=Sum.inl b)=(a == b):=by
 by_cases e:a=b
 ·subst e;simp
 ·have h:¬(Sum.inl a:Key)=Sum.inl b:=fun q=>e (Sum.inl.inj q)
  rw[decide_eq_false h]
  exact(beq_eq_false_iff_ne.mpr e).symm
theorem abJ(a b:Str):decide ((Sum.inr a:Key)=Sum.inr b)=decide (a=b):=by
 by_cases e:a=b
 ·subst e;simp
 ·have h:¬(Sum.inr a:Key)=Sum.inr b:=fun q=>e (Sum.inr.inj q)
  rw[decide_eq_false h,decide_eq_false e]
theorem abL(a:Int)(b:Str):decide ((Sum.inl a:Key)=Sum.inr b)=false:=decide_eq_false (fun q=>nomatch q)
theorem abK(a:Str)(b:Int):decide ((Sum.inr a:Key)=Sum.inl b)=false:=decide_eq_false (fun q=>nomatch q)
noncomputable def d7(prog:Program)(w:World):PySem.KeyKind prog w Key where
 is:=Bg
 hash:=al9 w
 inj:=fun v a b ha hb=>by
  rcases d8 ha with ⟨i,t,rfl,rfl⟩|⟨x,t,rfl,rfl⟩
  ·rcases d8 hb with ⟨j,u,rfl,e⟩|⟨y,u,rfl,e⟩
   ·injection e with e1 _;rw[e1]
   ·exact nomatch e
  ·rcases d8 hb with ⟨j,u,rfl,e⟩|⟨y,u,rfl,e⟩
   ·exact nomatch e
   ·injection e with e1 _;rw[e1]
 byValue:=fun k v h=>by
  rcases d8 h with ⟨i,t,rfl,rfl⟩|⟨x,t,rfl,rfl⟩<;>rfl
 pyHash:=fun hv h=>by
  rcases d8 hv with ⟨i,t,rfl,rfl⟩|⟨x,t,rfl,rfl⟩
  ·exact wpAny_pyHash_int h
  ·exact wpAny_pyHash_str h
 eqBool:=fun hu hv h=>by
  rcases d8 hu with ⟨i,t,rfl,rfl⟩|⟨x,t,rfl,rfl⟩
  ·rcases d8 hv with ⟨j,u,rfl,rfl⟩|⟨y,u,rfl,rfl⟩
   ·rw[abM] at h;exact wpAny_eqBool_int h
   ·rw[abL] at h;exact SeqAt.EqAt.int_str i t y u _ _ _ _ h
  ·rcases d8 hv with ⟨j,u,rfl,rfl⟩|⟨y,u,rfl,rfl⟩
   ·rw[abK] at h;exact SeqAt.EqAt.str_int x t j u _ _ _ _ h
   ·rw[abJ] at h;exact wpAny_eqBool_str h
 «strs»:=fun k x t v h=>by
  rcases d8 h with ⟨i,u,rfl,e⟩|⟨y,u,rfl,e⟩
  ·exact nomatch e
  ·injection e with e1 _
   subst e1
   cases v<;>rfl
theorem HF(prog:Program)(w:World)(i:Int)(t:Tok):(d7 prog w).is (.inl i) (.int i t)=true:=PQ i t
theorem HD(prog:Program)(w:World)(x:Str)(t:Tok):(d7 prog w).is (.inr x) (.str x t)=true:=PN x t
end L2
namespace L2
open PySem PySem.Spec PyProof.Rows
inductive V where
 | non|bl (b:Bool)|int (i:Int)|str (x:Str)|byt (b:Array UInt8)|flt (b:UInt64)|ref (a:Addr)|ty (n:String)
 deriving DecidableEq
noncomputable def RelV:V→Value→Prop
 | .non,u=>u=Value.none
 | .bl b,u=>u=Value.bool b
 | .int i,u=>∃t,u=Value.int i t
 | .str x,u=>∃t,u=Value.str x t
 | .byt b,u=>∃t,u=Value.bytes b t
 | .flt b,u=>∃t,u=Value.float b t
 | .ref a,u=>u=Value.ref a
 | .ty n,u=>u=Value.type n
noncomputable abbrev Vals:List V→List Value→Prop:=Paired RelV
theorem Vals.length{xs:List V}{us:List Value}(r:Vals xs us):xs.length=us.length:=Paired.length r
theorem Vals.get:∀{xs:List V} {us:List Value} {i:Nat} {x:V},Vals xs us→xs[i]? = some x→∃u,us[i]? = some u∧RelV x u
 | _,_,_,_,.nil,e=>by simp at e
 | _,_,0,_,.cons r _,e=>by simp at e;subst e;exact⟨_,rfl,r⟩
 | _,_,i+1,x,.cons _ t,e=>by
  obtain⟨u,h1,h2⟩:=Vals.get (i:=i) (x:=x) t (by simpa using e)
  exact⟨u,by simpa using h1,h2⟩
theorem Vals.set{x:V}{u:Value}(r:RelV x u):∀{xs:List V} {us:List Value} (i:Nat),Vals xs us→Vals (xs.set i x) (us.set i u)
 | _,_,_,.nil=>.nil
 | _,_,0,.cons _ t=>.cons r t
 | _,_,i+1,.cons q t=>.cons q (Vals.set r i t)
theorem Vals.append:∀{xs ys:List V} {us ws:List Value},Vals xs us→Vals ys ws→Vals (xs++ys) (us++ws)
 | _,_,_,_,.nil,s=>s
 | _,_,_,_,.cons r t,s=>.cons r (Vals.append t s)
theorem Vals.take:∀{xs:List V} {us:List Value} (n:Nat),Vals xs us→Vals (xs.take n) (us.take n)
 | _,_,0,_=>.nil
 | _,_,_+1,.nil=>.nil
 | _,_,n+1,.cons r t=>.cons r (Vals.take n t)
theorem Vals.drop:∀{xs:List V} {us:List Value} (n:Nat),Vals xs us→Vals (xs.drop n) (us.drop n)
 | _,_,0,r=>r
 | _,_,_+1,.nil=>.nil
 | _,_,n+1,.cons _ t=>Vals.drop n t
noncomputable def Df:Option V→Option Value→Prop
 | some v,some u=>RelV v u
 | none,none=>True
 | _,_=>False
noncomputable def KV{κ:Type}:List (κ×V)→List (κ×Value)→Prop:=Paired fun(p:κ×V) (q:κ×Value)=>p.1=q.1∧RelV p.2 q.2
noncomputable def kV:Key→V
 | .inl i=>.int i
 | .inr x=>.str x
inductive HO where
 /-- a list -/
 | lst (xs:List V)
 /-- a tuple (never changes) -/
 | tup (xs:List V)
 /-- a dict whose keys are ints and texts;one whose keys are tuples of ints and texts (the empty one is both) -/
 | dK (kvs:List (Key×V))|dT (kvs:List (List Key×V))
 /-- a set of ints: its members,its size -/
 | set (S:Int→Bool) (n:Nat)
 /-- an instance of the class at C,its dict at dx,its attributes -/
 | ins (C dx:Addr) (fs:List (Str×V))
 /-- the dict of the instance at x -/
 | own (x:Addr)
 /-- the dict of an exception -/
 | xd (fs:List (Str×V))
 /-- a bound method,f of x -/
 | met (f x:Addr)
 /-- a range object lo,lo+1,.. below hi -/
 | rng (lo hi:Int)
 /-- a thing that is known to the object (the script;a dict while a loop walks it): read,never written while it is so -/
 | Vn (o:Obj) (u:HO)
 /-- a code object's table -/
 | tbl (ps:Array Value)
 /-- any other thing,by what is true of its one object (a def of one's own: anI a S n:=HO.ext fun h=>..) -/
 | ext (φ:Heap→Prop)
noncomputable abbrev Hp:=Addr→Option HO
noncomputable def upd(H:Hp)(a:Addr)(o:HO):Hp:=fun b=>if b=a then some o else H b
theorem aW{H:Hp}{a:Addr}{o:HO}:upd H a o a=some o:=by unfold upd;rw[if_pos rfl]
theorem bK{H:Hp}{a b:Addr}{o:HO}(h:b≠a):upd H a o b=H b:=by unfold upd;rw[if_neg h]
theorem Mq{H:Hp}{a:Addr}{o u:HO}:upd (upd H a o) a u=upd H a u:=by
 funext b;unfold upd;split<;>rfl
theorem ahh{H:Hp}{a b:Addr}{o u:HO}(h:H a=some o)(h':H b=some u)(d:o≠u):a≠b:=by
 intro e;subst e;rw[h] at h';exact d (Option.some.inj h')
theorem fZ{H:Hp}{a b:Addr}{o:HO}(h:H a=some o)(h':H b=none):a≠b:=by
 intro e;subst e;rw[h] at h';cases h'
noncomputable def De(h:Heap)(a:Addr)(items:Array Value):Prop:=∃o,h.get? a=some o∧o.cls = .type "tuple"∧(∃n,o.data = .seq items n)∧o.dict=none
theorem De.is{h:Heap}{a:Addr}{items:Array Value}(x:De h a items):IsTup h a items:=let ⟨o,h1,h2,h3,_⟩:=x;⟨o,h1,h2,h3⟩
theorem De.new(h:Heap)(items:Array Value):De (h.push { cls:=.type "tuple",data:=.seq items }) h.objs.size items:=⟨_,Heap.get?_push_size _ rfl,rfl,⟨_,rfl⟩,rfl⟩
section
variable(P:Program)(w:World)
noncomputable def ik(H:Hp)(h:Heap)(a:Addr):HO→Prop
 | .lst xs=>xs.length≤sizeLine∧∃(its:List Value) (n:Nat),Vals xs its∧h.get? a=some { cls:=.type "list",data:=.seq its.toArray n }
 | .tup xs=>xs.length≤sizeLine∧∃its:List Value,Vals xs its∧De h a its.toArray
 | .dK kvs=>kvs.length≤sizeLine∧(a == sysModules)=false∧∃vs,KV kvs vs∧h.DictOf (d7 P w) a vs
 | .dT kvs=>kvs.length≤sizeLine∧(a == sysModules)=false∧∃xs:List (List Key×Addr×Value),
   Paired (fun(p:List Key×V) (q:List Key×Addr×Value)=>p.1=q.1∧H q.2.1=some (.tup (p.1.map kV))∧RelV p.2 q.2.2) kvs xs∧
   ∃o es ep,h.get? a=some o∧o.ExactDict∧o.data = .dict es ep∧es.toList=xs.map (entryOfKey (tupleKind (d7 P w)))∧(xs.map (·.1)).Nodup
 | .set S n=>h.SetOf (intKind P w) a S n
 | .ins C dx fs=>H dx=some (.own a)∧fs.length≤1000∧dx≠a∧h.get? a=some (PySem.W.instObj C dx)∧
   ∃mA,h.Ns1 dx mA∧(∀f,Df (fs.lookup f) (mA f))∧PySem.Within mA (fs.map (·.1))
 | .own _=>∃o,h.get? a=some o
 | .xd fs=>∃mA,h.Ns1 a mA∧∀f,Df (fs.lookup f) (mA f)
 | .rng lo hi=>∃t u v,h.get? a=some { cls:=.type "range",data:=.fields #[.int lo t,.int hi u,.int 1 v] }
 | .Vn o u=>h.get? a=some o∧ik H h a u
 | .tbl ps=>h.get? a=some { cls:=.none,data:=.fields ps }
 | .met f x=>h.get? a=some (PySem.W.methodObj (.ref f) (.ref x))
 | .ext φ=>φ h∧(∃o,h.get? a=some o)∧∀h1 h2:Heap,φ h1→(∀o,h1.get? a=some o→h2.get? a=some o)→φ h2
noncomputable def xC(H:Hp)(h:Heap):Prop:=∀a o,H a=some o→ik P w H h a o
end
section
variable{P:Program}{w:World}{H H':Hp}{h h':Heap}{a:Addr}{o:HO}
theorem ik.lt(x:ik P w H h a o):a<h.objs.size:=by
 cases o with
 | lst xs=>obtain⟨_,_,_,_,e⟩:=x;exact Heap.lt_size e
 | tup xs=>obtain⟨_,_,_,p⟩:=x;exact p.is.lt
 | dK kvs=>obtain⟨_,_,_,_,o,_,_,e,_⟩:=x;exact Heap.lt_size e
 | dT kvs=>obtain⟨_,_,_,_,o,_,_,e,_⟩:=x;exact Heap.lt_size e
 | set S n=>obtain⟨o,_,_,_,e,_⟩:=x;exact Heap.lt_size e
 | ins C dx fs=>obtain⟨_,_,_,e,_⟩:=x;exact Heap.lt_size e
 | own y=>obtain⟨_,e⟩:=x;exact Heap.lt_size e
 | xd fs=>obtain⟨_,⟨_,_,_,e,_⟩,_⟩:=x;exact Heap.lt_size e
 | rng lo hi=>obtain⟨_,_,_,e⟩:=x;exact Heap.lt_size e
 | Vn ob u=>obtain⟨e,_⟩:=x;exact Heap.lt_size e
 | tbl ps=>exact Heap.lt_size (show h.get? a=some _ from x)
 | met f y=>exact Heap.lt_size (show h.get? a=some _ from x)
 | ext φ=>obtain⟨_,⟨_,e⟩,_⟩:=x;exact Heap.lt_size e
theorem Paired.abC{α β:Type}{F G:α→β→Prop}:∀{l₁:List α} {l₂:List β},Paired F l₁ l₂→(∀a b,F a b→G a b)→Paired G l₁ l₂
 | _,_,.nil,_=>.nil
 | _,_,.cons r t,f=>.cons (f _ _ r) (Paired.abC t f)
theorem ik.stay(x:ik P w H h a o)(k:∀b u,(b=a∨H b=some (.own a))→h.get? b=some u→h'.get? b=some u)
  (ho:∀b,H b=some (.own a)→H' b=some (.own a)) (ht:∀b xs,H b=some (.tup xs)→H' b=some (.tup xs)):ik P w H' h' a o:=by
 induction o with
 | lst xs=>obtain⟨z,its,n,r,e⟩:=x;exact⟨z,its,n,r,k _ _ (.inl rfl) e⟩
 | tup xs=>obtain⟨z,its,r,ob,e,c⟩:=x;exact⟨z,its,r,ob,k _ _ (.inl rfl) e,c⟩
 | dK kvs=>obtain⟨z,y,vs,r,ob,es,ep,e,c⟩:=x;exact⟨z,y,vs,r,ob,es,ep,k _ _ (.inl rfl) e,c⟩
 | dT kvs=>
  obtain⟨z,y,xs,r,ob,es,ep,e,c⟩:=x
  exact⟨z,y,xs,Paired.abC r fun p q z=>⟨z.1,ht _ _ z.2.1,z.2.2⟩,ob,es,ep,k _ _ (.inl rfl) e,c⟩
 | set S n=>obtain⟨ob,es,ep,t,e,c⟩:=x;exact⟨ob,es,ep,t,k _ _ (.inl rfl) e,c⟩
 | ins C dx fs=>
  obtain⟨d,z,ne,e,mA,⟨od,es,ep,e2,c⟩,r⟩:=x
  exact⟨ho _ d,z,ne,k _ _ (.inl rfl) e,mA,⟨od,es,ep,k _ _ (.inr d) e2,c⟩,r⟩
 | own y=>obtain⟨ob,e⟩:=x;exact⟨ob,k _ _ (.inl rfl) e⟩
 | xd fs=>obtain⟨mA,⟨od,es,ep,e,c⟩,r⟩:=x;exact⟨mA,⟨od,es,ep,k _ _ (.inl rfl) e,c⟩,r⟩
 | rng lo hi=>obtain⟨t,u,v,e⟩:=x;exact⟨t,u,v,k _ _ (.inl rfl) e⟩
 | Vn ob u ih=>obtain⟨e,q⟩:=x;exact⟨k _ _ (.inl rfl) e,ih q⟩
 | tbl ps=>
  have e:h.get? a=some { cls:=.none,data:=.fields ps }:=x
  show h'.get? a=some { cls:=.none,data:=.fields ps }
  exact k a _ (.inl rfl) e
 | met f y=>
  have e:h.get? a=some (PySem.W.methodObj (.ref f) (.ref y)):=x
  show h'.get? a=some (PySem.W.methodObj (.ref f) (.ref y))
  exact k a _ (.inl rfl) e
 | ext φ=>obtain⟨p,⟨o,e⟩,st⟩:=x;exact⟨st _ _ p fun o q=>k _ _ (.inl rfl) q,⟨o,k _ _ (.inl rfl) e⟩,st⟩
theorem xC.lt(x:xC P w H h)(e:H a=some o):a<h.objs.size:=(x a o e).lt
theorem xC.fresh(x:xC P w H h)(e:h.objs.size≤a):H a=none:=by
 cases q:H a with
 | none=>rfl
 | some u=>exact absurd (Nat.lt_of_lt_of_le (x.lt q) e) (Nat.lt_irrefl _)
theorem xC.kept(x:xC P w H h)(k:∀b u,h.get? b=some u→h'.get? b=some u):xC P w H h':=fun a o e=>
 (x a o e).stay (fun b u _ q=>k b u q) (fun _ q=>q) fun _ _ q=>q
theorem xC.laid(x:xC P w H h)(k:∀b u,h.get? b=some u→h'.get? b=some u)(hp:h.objs.size≤a)(new:ik P w (upd H a o) h' a o):xC P w (upd H a o) h':=fun b u e=>by
 have hn:=x.fresh hp
 by_cases hb:b=a
 ·subst hb;rw[aW] at e;cases e;exact new
 ·rw[bK hb] at e
  exact(x b u e).stay (fun c v _ q=>k c v q) (fun c q=>by rw[bK (fZ q hn)];exact q) fun c xs q=>by rw[bK (fZ q hn)];exact q
end
noncomputable def Rd(H:Hp)(a:Addr)(u:HO):Prop:=H a=some u∨∃o,H a=some (.Vn o u)
theorem Rd.ok{P:Program}{w:World}{H:Hp}{h:Heap}{a:Addr}{u:HO}(r:Rd H a u)(x:xC P w H h):ik P w H h a u:=by
 rcases r with r|⟨o,r⟩
 ·exact x a u r
 ·obtain⟨_,q⟩:=x a _ r
  exact q
noncomputable def Mut:Option HO→Prop
 | some (.lst _)=>True
 | some (.dK _)=>True
 | some (.dT _)=>True
 | some (.set _ _)=>True
 | some (.ins _ _ _)=>True
 | some (.ext _)=>True
 | _=>False
section
variable{P:Program}{w:World}{H:Hp}{h h':Heap}{x e:Addr}{o':HO}
theorem xC.write(ok:xC P w H h)(mu:Mut (H x))(he:e=x∨H e=some (.own x))(k:∀b u,b≠e→h.get? b=some u→h'.get? b=some u)(heo:∃u,h'.get? e=some u)
  (new:ik P w (upd H x o') h' x o'):xC P w (upd H x o') h':=fun b u q=>by
 have ahf:∀c y,H c=some (.own y)→c≠x:=fun c y r z=>by subst z;rw[r] at mu;exact mu
 have al4:∀c xs,H c=some (.tup xs)→c≠x:=fun c xs r z=>by subst z;rw[r] at mu;exact mu
 by_cases hb:b=x
 ·subst hb;rw[aW] at q;cases q;exact new
 ·rw[bK hb] at q
  by_cases hbe:b=e
  ·have q':H b=some (.own x):=by
    rcases he with z|z
    ·exact absurd (hbe.trans z) hb
    ·rw[hbe];exact z
   rw[q] at q';cases q'
   obtain⟨v,hv⟩:=heo
   exact⟨v,by rw[hbe];exact hv⟩
  ·refine(ok b u q).stay (fun c v hc r=>k c v ?_ r) (fun c r=>by rw[bK (ahf c b r)];exact r) fun c xs r=>by rw[bK (al4 c xs r)];exact r
   rcases hc with rfl|hc
   ·exact hbe
   ·rintro rfl
    rcases he with z|z
    ·exact ahf c b hc z
    ·rw[hc] at z;cases z;exact hb rfl
end
structure Un(fs ex:List Addr)(H H':Hp)(h h':Heap):Prop where
 keep:∀b o,h.get? b=some o→H b=none→b ∉ fs→b ∉ ex→h'.get? b=some o
 slot:∀b o,h.get? b=some o→H b=none→b∈fs→b ∉ ex→∃sl,h'.get? b=some { o with slots:=sl }
 free:∀b o,h.get? b=some o→H b=none→b ∉ ex→H' b=none
 there:∀b o,h.get? b=some o→b ∉ ex→∃o',h'.get? b=some o'
 tups:∀b xs,H b=some (.tup xs)→H' b=some (.tup xs)
 Gf:∀b o u,H b=some (.Vn o u)→H' b=some (.Vn o u)
 GQ:∀b ps,H b=some (.tbl ps)→∃more,H' b=some (.tbl (ps++more))
section
variable{fs fs' ex ex':List Addr}{H H1 H2:Hp}{h h1 h2 h':Heap}{a x e:Addr}{o:HO}
theorem Un.any(u:Un fs ex H H1 h h1){b:Addr}{ob:Obj}(q:h.get? b=some ob)(n:H b=none)(hx:b ∉ ex):∃sl,h1.get? b=some { ob with slots:=sl }:=by
 by_cases hb:b∈fs
 ·exact u.slot b ob q n hb hx
 ·exact⟨ob.slots,u.keep b ob q n hb hx⟩
theorem Un.kept(k:∀b u,h.get? b=some u→h'.get? b=some u):Un fs ex H H h h':=
 ⟨fun b ob q _ _ _=>k b ob q,fun b ob q _ _ _=>⟨ob.slots,k b ob q⟩,fun _ _ _ n _=>n,fun b ob q _=>⟨ob,k b ob q⟩,fun _ _ q=>q,fun _ _ _ q=>q,fun _ ps q=>⟨#[],by rw[q];simp⟩⟩
theorem Un.refl:Un fs ex H H h h:=Un.kept fun _ _ q=>q
theorem Un.laid(k:∀b u,h.get? b=some u→h'.get? b=some u)(hp:h.objs.size≤a)(hn:H a=none):Un fs ex H (upd H a o) h h' where
 keep:=fun b u q _ _ _=>k b u q
 slot:=fun b u q _ _ _=>⟨u.slots,k b u q⟩
 free:=fun b u q n _=>by rw[bK (Nat.ne_of_lt (Nat.lt_of_lt_of_le (Heap.lt_size q) hp))];exact n
 there:=fun b u q _=>⟨u,k b u q⟩
 tups:=fun b xs q=>by rw[bK (fZ q hn)];exact q
 Gf:=fun b u xs q=>by rw[bK (fZ q hn)];exact q
 GQ:=fun b ps q=>⟨#[],by rw[bK (fZ q hn),q];simp⟩
theorem Un.write(mu:Mut (H x))(he:e=x∨H e=some (.own x))(k:∀b u,b≠e→h.get? b=some u→h'.get? b=some u)(heo:∃u,h'.get? e=some u):Un fs ex H (upd H x o) h h':=by
 have hx:∀b,H b=none→b≠x:=fun b n z=>by subst z;rw[n] at mu;exact mu
 have hb:∀b,H b=none→b≠e:=fun b n z=>by
  subst z
  rcases he with r|r
  ·exact hx b n r
  ·rw[n] at r;cases r
 have hm:∀b u,H b=some u→¬Mut (some u)→b≠x:=fun b u q nm z=>by subst z;rw[q] at mu;exact nm mu
 refine⟨fun b u q n _ _=>k b u (hb b n) q,fun b u q n _ _=>⟨u.slots,k b u (hb b n) q⟩,fun b u q n _=>by rw[bK (hx b n)];exact n,fun b u q _=>?_,
  fun b xs q=>by rw[bK (hm b _ q fun z=>z)];exact q,fun b u xs q=>by rw[bK (hm b _ q fun z=>z)];exact q,fun b ps q=>⟨#[],by rw[bK (hm b _ q fun z=>z),q];simp⟩⟩
 by_cases hbe:b=e
 ·subst hbe;exact heo
 ·exact⟨u,k b u hbe q⟩
end
noncomputable def trk(h:Heap)(H:Hp):List Addr:=(List.range h.objs.size).filter fun a=>(H a).isSome
noncomputable def Gb(h:Heap)(H:Hp):Heap:=PySem.W.hideAll h (trk h H)
theorem Qc(h:Heap)(H:Hp):(Gb h H).objs.size=h.objs.size:=PySem.W.hideAll_size _ _
theorem T3{h:Heap}{H:Hp}{b:Addr}{o:Obj}(e:h.get? b=some o)(n:H b=none):(Gb h H).get? b=some o:=
 PySem.W.hideAll_get _ e fun hm=>by
  have q:(H b).isSome=true:=(List.mem_filter.mp hm).2
  rw[n] at q;simp at q
theorem WT{h:Heap}{H:Hp}{b:Addr}{o:Obj}(e:(Gb h H).get? b=some o):h.get? b=some o∧H b=none:=by
 have e':h.get? b=some o:=PySem.W.of_hideAll (trk h H) e
 refine⟨e',?_⟩
 cases q:H b with
 | none=>rfl
 | some x=>
  have hm:b∈trk h H:=List.mem_filter.mpr ⟨List.mem_range.mpr (Heap.lt_size e'),by simp[q]⟩
  have z:(Gb h H).get? b=none:=PySem.W.hideAll_none (trk h H) hm
  rw[z] at e;cases e
noncomputable def Yt(g h:Heap)(L:Addr):List (Addr×Obj):=(List.range h.objs.size).filterMap fun a=>if a=L∨(g.get? a).isSome=true then none else (h.get? a).map fun o=>(a,o)
noncomputable def rest(g h:Heap)(L d:Addr):List (Addr×Obj):=(Yt g h L).filter fun p=>decide (p.1≠d)
end L2
namespace L2
open PySem PySem.Spec PyProof.Rows
structure Mod(K:PySem.W.Frag)(mg:Str→Option Value)(base:Heap):Prop where
 kin:K.In base
 glob:base.Ns mainGlobals mg
 blt:∃mb,base.Ns builtinsNs mb∧∀x:Str,x ≠ "__name__"→mb x=bootBuiltins x
 nolimit:base.NoLimit
structure Cx where
 prog:Program
 w:World
 K:PySem.W.Frag
 mg:Str→Option Value
 base:Heap
 A:Around
 N:List Str
 s₀:Shared
 H₀:Hp
 env:Env
 outer:List Env
 stack:List Env
 ex:List Addr
 fn:Str→Bool
 calm:Bool
 pn:List (Addr×Obj)
 xe:Value→Shared→Prop
noncomputable def frs(l:List Env):List Addr:=l.filterMap (·.frame)
noncomputable abbrev Cx.fs(X:Cx):List Addr:=frs X.outer
noncomputable def uw(sc:Scope)(x:Str):Prop:=sc.names.lookup x=some .local∨sc.names.lookup x=some .cell∨sc.names.lookup x=some .free
noncomputable def Loc(sc:Scope)(x:Str):Prop:=sc.names.lookup x=some .local∨sc.names.lookup x=some .cell
noncomputable def Look(env:Env)(h:Heap)(m:Str→Option Value)(x:Str)(u:Value):Prop:=
 (env.kindOf x=some .local∧m x=some u)∨((env.kindOf x=some .cell∨env.kindOf x=some .free)∧∃c,env.cells.lookup x=some c∧h.IsCell c (some u))
structure Cx.Ok(X:Cx):Prop where
 mod:Mod X.K X.mg X.base
 kind:X.env.scope.kind = .function
 glob:X.env.globals=mainGlobals
 blt:X.env.builtins=builtinsNs
 above:X.s₀.heap.objs.size≤X.env.locals
 inj:∀x y c,X.env.cells.lookup x=some c→X.env.cells.lookup y=some c→x=y
 has:∀x,(X.env.kindOf x=some .cell∨X.env.kindOf x=some .free)→∃c,X.env.cells.lookup x=some c
 cab:∀x c,X.fn x=true→X.env.cells.lookup x=some c→X.s₀.heap.objs.size≤c
 hd:X.calm=true→X.A.handled=none
 frames:X.A.frames=some X.stack
 Vj:X.stack=X.outer∨(X.stack=X.env::X.outer∧X.env.frame=some X.env.locals)
 exf:∀b∈X.ex,b≠X.env.locals∧∀x c,X.env.cells.lookup x=some c→c≠b
 bs:∀b o,X.base.get? b=some o→X.s₀.heap.get? b=some o∧X.H₀ b=none
 Z0:X.base.objs.size≤X.s₀.heap.objs.size
 Sw:∀b o,X.base.get? b=some o→b ∉ X.ex
 Qg:∀b∈X.ex,b ∉ X.fs
 Bm:X.s₀.heap.FunFrames X.base X.outer
 frf:∀b∈X.fs,X.H₀ b=none
structure Inv(X:Cx)(pins:List (Addr×Obj))(σ:List (Option V))(H:Hp)(s:Shared):Prop where
 ok:X.Ok
 os:s.os=X.s₀.os
 bare:AllBare s.gens
 base:Un X.fs X.ex X.H₀ H X.s₀.heap s.heap
 loc:∃m,s.heap.Ns X.env.locals m∧∀(i:Nat) (x:Str) (v:V),X.N[i]? = some x→σ[i]? = some (some v)→uw X.env.scope x→∃u,RelV v u∧Look X.env s.heap m x u
 cell:∀x c,X.env.cells.lookup x=some c→∃v,s.heap.IsCell c v
 free:H X.env.locals=none
 uI:∀x c,X.env.cells.lookup x=some c→H c=none
 pin:∀p∈X.pn++pins,s.heap.get? p.1=some p.2∧H p.1=none∧p.1≠X.env.locals∧p.1 ∉ X.fs∧∀v,p.2.data ≠ .cell v
 hok:xC X.prog X.w H s.heap
 len:σ.length=X.N.length
section
variable{X:Cx}{pins:List (Addr×Obj)}{σ:List (Option V)}{H H':Hp}{s:Shared}{h':Heap}
theorem Cx.Ok.al6(ok:X.Ok){b:Addr}{o:Obj}(e:X.base.get? b=some o):b ∉ X.fs:=fun hb=>by
 have:=(ok.Bm.mem hb).1
 rw[e] at this;cases this
theorem Inv.bs(I:Inv X pins σ H s):∀b o,X.base.get? b=some o→s.heap.get? b=some o∧H b=none:=fun b o e=>
 ⟨I.base.keep b o (I.ok.bs b o e).1 (I.ok.bs b o e).2 (I.ok.al6 e) (I.ok.Sw b o e),I.base.free b o (I.ok.bs b o e).1 (I.ok.bs b o e).2 (I.ok.Sw b o e)⟩
theorem Inv.bk(I:Inv X pins σ H s):∀b o,X.base.get? b=some o→s.heap.get? b=some o:=fun b o e=>(I.bs b o e).1
theorem Inv.mod(I:Inv X pins σ H s):Mod X.K X.mg X.base:=I.ok.mod
theorem Inv.kIn(I:Inv X pins σ H s):X.K.In s.heap:=I.ok.mod.kin.keeps I.bk
theorem Inv.lt(I:Inv X pins σ H s):X.env.locals<s.heap.objs.size:=let ⟨_,hn,_⟩:=I.loc;hn.lt
theorem Inv.sz(I:Inv X pins σ H s):X.s₀.heap.objs.size≤s.heap.objs.size:=Nat.le_trans I.ok.above (Nat.le_of_lt I.lt)
theorem Inv.al5(I:Inv X pins σ H s){a:Addr}(h:s.heap.objs.size≤a):a ∉ X.fs:=fun hb=>by
 obtain⟨_,o,ho,_⟩:=I.ok.Bm.mem hb
 exact absurd (Nat.lt_of_lt_of_le (Heap.lt_size ho) (Nat.le_trans I.sz h)) (Nat.lt_irrefl _)
theorem Inv.cne(I:Inv X pins σ H s):∀x c,X.env.cells.lookup x=some c→c≠X.env.locals:=fun x c e z=>by
 obtain⟨v,o,ho,hd⟩:=I.cell x c e
 obtain⟨m,⟨o',es,ep,ho',hd',_⟩,_⟩:=I.loc
 rw[z,ho'] at ho;cases ho;rw[hd'] at hd;cases hd
theorem Inv.Bm(I:Inv X pins σ H s):s.heap.FunFrames X.base X.outer:=by
 have all:∀(l:List Env),(∀b∈frs l,b∈X.fs)→X.s₀.heap.FunFrames X.base l→s.heap.FunFrames X.base l:=by
  intro l
  induction l with
  | nil=>intro _ _;trivial
  | cons env r ih=>
   intro hs hl
   obtain⟨hk,⟨L,o,hf,hn,ho,hd⟩,hr⟩:=hl
   have hL:L∈X.fs:=hs L (by unfold frs;rw[List.filterMap_cons,hf];exact List.mem_cons_self)
   obtain⟨sl,e⟩:=I.base.slot L o ho (I.ok.frf L hL) hL fun z=>I.ok.Qg L z hL
   exact⟨hk,⟨L,_,hf,hn,e,hd⟩,ih (fun b hb=>hs b (by unfold frs;rw[List.filterMap_cons,hf];exact List.mem_cons_of_mem _ hb)) hr⟩
 exact all X.outer (fun _ hb=>hb) I.ok.Bm
theorem Inv.stack(I:Inv X pins σ H s):s.heap.FunFrames X.base X.stack:=by
 rcases I.ok.Vj with e|⟨e,hf⟩
 ·rw[e];exact I.Bm
 ·rw[e]
  obtain⟨m,hn,_⟩:=I.loc
  refine .cons (by rw[I.ok.kind];decide) hf hn ?_ I.Bm
  exact Heap.get?_none_of_le (Nat.le_trans I.ok.Z0 I.ok.above)
theorem Inv.J5(I:Inv X pins σ H s):∀b∈frs X.stack,b∈X.env.locals::X.fs:=fun b hb=>by
 rcases I.ok.Vj with e|⟨e,hf⟩
 ·rw[e] at hb;exact List.mem_cons_of_mem _ hb
 ·rw[e] at hb
  unfold frs at hb
  rw[List.filterMap_cons,hf] at hb
  exact hb
theorem Inv.Mt(I:Inv X pins σ H s):∀b∈frs X.stack,H b=none:=fun b hb=>by
 rcases List.mem_cons.mp (I.J5 b hb) with e|hb
 ·rw[e];exact I.free
 ·obtain⟨_,o,ho,_⟩:=I.ok.Bm.mem hb
  exact I.base.free b o ho (I.ok.frf b hb) fun z=>I.ok.Qg b z hb
theorem Inv.step{g':Array GenState}{t':Nat}{d':Drawn}{ch:List Addr}(I:Inv X pins σ H s)
  (hch:∀b∈ch,(b∈X.ex∨X.s₀.heap.objs.size≤b)∧b≠X.env.locals∧(∀x c,X.env.cells.lookup x=some c→c≠b)∧∀p∈X.pn++pins,p.1≠b)
  (keep:∀b o,b≠X.env.locals→b ∉ X.fs→b ∉ ch→s.heap.get? b=some o→H b=none→h'.get? b=some o)
  (slot:∀b o,b≠X.env.locals→b∈X.fs→b ∉ ch→s.heap.get? b=some o→H b=none→∃sl,h'.get? b=some { o with slots:=sl }) (free:∀b o,b ∉ ch→s.heap.get? b=some o→H b=none→H' b=none)
  (there:∀b o,b ∉ ch→s.heap.get? b=some o→∃o',h'.get? b=some o')
  (tups:∀b xs,H b=some (.tup xs)→H' b=some (.tup xs)) (Gf:∀b o u,H b=some (.Vn o u)→H' b=some (.Vn o u)) (GQ:∀b ps,H b=some (.tbl ps)→∃more,H' b=some (.tbl (ps++more)))
  (ns:∀m,s.heap.Ns X.env.locals m→h'.Ns X.env.locals m) (hok:xC X.prog X.w H' h') (hg:AllBare g') :
  Inv X pins σ H' { s with heap:=h',gens:=g',drawn:=d',toks:=t' }:=by
 have neL:∀b o,X.s₀.heap.get? b=some o→b≠X.env.locals:=fun b o e=>Nat.ne_of_lt (Nat.lt_of_lt_of_le (Heap.lt_size e) I.ok.above)
 have neC:∀b o,X.s₀.heap.get? b=some o→b ∉ X.ex→b ∉ ch:=fun b o e hx hb=>by
  rcases(hch b hb).1 with z|z
  ·exact hx z
  ·exact absurd (Nat.lt_of_lt_of_le (Heap.lt_size e) z) (Nat.lt_irrefl _)
 have cellK:∀x c,X.env.cells.lookup x=some c→∀v,s.heap.IsCell c v→h'.IsCell c v:=fun x c e v ⟨o,ho,hd⟩=>by
  have nch:c ∉ ch:=fun z=>(hch c z).2.2.1 x c e rfl
  by_cases hc:c∈X.fs
  ·obtain⟨sl,q⟩:=slot c o (I.cne x c e) hc nch ho (I.uI x c e)
   exact⟨_,q,hd⟩
  ·exact⟨o,keep c o (I.cne x c e) hc nch ho (I.uI x c e),hd⟩
 refine⟨I.ok,I.os,hg,⟨fun b o e n hb hx=>?_,fun b o e n hb hx=>?_,fun b o e n hx=>?_,fun b o e hx=>?_,fun b xs e=>tups b xs (I.base.tups b xs e),fun b o xs e=>Gf b o xs (I.base.Gf b o xs e),fun b ps e=>?_⟩,?_,fun x c e=>?_,?_,fun x c e=>?_,fun p hp=>?_,hok,I.len⟩
 ·exact keep b o (neL b o e) hb (neC b o e hx) (I.base.keep b o e n hb hx) (I.base.free b o e n hx)
 ·obtain⟨sl,e1⟩:=I.base.slot b o e n hb hx
  obtain⟨sl',e2⟩:=slot b _ (neL b o e) hb (neC b o e hx) e1 (I.base.free b o e n hx)
  exact⟨sl',e2⟩
 ·obtain⟨o',e1⟩:=I.base.there b o e hx
  exact free b o' (neC b o e hx) e1 (I.base.free b o e n hx)
 ·obtain⟨o',e1⟩:=I.base.there b o e hx
  exact there b o' (neC b o e hx) e1
 ·obtain⟨m1,e1⟩:=I.base.GQ b ps e
  obtain⟨m2,e2⟩:=GQ b _ e1
  exact⟨m1++m2,by rw[e2,Array.append_assoc]⟩
 ·obtain⟨m,hn,hl⟩:=I.loc
  refine⟨m,ns m hn,fun i x v e1 e2 e3=>?_⟩
  obtain⟨u,r,l⟩:=hl i x v e1 e2 e3
  refine⟨u,r,?_⟩
  rcases l with l|⟨k,c,e,z⟩
  ·exact .inl l
  ·exact .inr ⟨k,c,e,cellK x c e _ z⟩
 ·obtain⟨v,z⟩:=I.cell x c e
  exact⟨v,cellK x c e v z⟩
 ·obtain⟨m,⟨o,_,_,ho,_⟩,_⟩:=I.loc
  exact free _ o (fun z=>(hch _ z).2.1 rfl) ho I.free
 ·obtain⟨v,o,ho,hd⟩:=I.cell x c e
  exact free c o (fun z=>(hch c z).2.2.1 x c e rfl) ho (I.uI x c e)
 ·obtain⟨e,n,ne,nf,d⟩:=I.pin p hp
  have nch:p.1 ∉ ch:=fun z=>(hch p.1 z).2.2.2 p hp rfl
  exact⟨keep p.1 p.2 ne nf nch e n,free p.1 p.2 nch e n,ne,nf,d⟩
theorem Inv.un{t':Nat}(I:Inv X pins σ H s)(u:Un X.fs [] H H' s.heap h')(hok:xC X.prog X.w H' h'):Inv X pins σ H' { s with heap:=h',toks:=t' }:=by
 obtain⟨m,⟨o,es,ep,ho,r⟩,_⟩:=id I.loc
 obtain⟨sl,hL⟩:=u.any ho I.free (by simp)
 exact I.step (g':=s.gens) (d':=s.drawn) (ch:=[]) (fun _ z=>nomatch z) (fun b o _ hb _ e n=>u.keep b o e n hb (by simp)) (fun b o _ hb _ e n=>u.slot b o e n hb (by simp)) (fun b o _ e n=>u.free b o e n (by simp)) (fun b o _ e=>u.there b o e (by simp)) u.tups u.Gf u.GQ (fun m' hm=>by
  obtain⟨o',es',ep',ho',r'⟩:=hm
  rw[ho] at ho';cases ho'
  exact⟨_,es',ep',hL,r'⟩) hok I.bare
theorem Inv.call{g':Array GenState}{t':Nat}{d':Drawn}{ch:List Addr}(I:Inv X pins σ H s)(u:Un (frs X.stack) ch H H' s.heap h')(hok:xC X.prog X.w H' h')(hg:AllBare g')
  (hch:∀b∈ch,(b∈X.ex∨X.s₀.heap.objs.size≤b)∧b≠X.env.locals∧(∀x c,X.env.cells.lookup x=some c→c≠b)∧∀p∈X.pn++pins,p.1≠b) :
  Inv X pins σ H' { s with heap:=h',gens:=g',drawn:=d',toks:=t' }:=by
 obtain⟨m,⟨o,es,ep,ho,r⟩,_⟩:=id I.loc
 obtain⟨sl,hL⟩:=u.any ho I.free fun z=>(hch _ z).2.1 rfl
 exact I.step (ch:=ch) hch (fun b o hL hb hc e n=>u.keep b o e n (fun z=>(List.mem_cons.mp (I.J5 b z)).elim hL hb) hc) (fun b o _ _ hc e n=>u.any e n hc) (fun b o hc e n=>u.free b o e n hc) (fun b o hc e=>u.there b o e hc) u.tups u.Gf u.GQ (fun m' hm=>by
  obtain⟨o',es',ep',ho',r'⟩:=hm
  rw[ho] at ho';cases ho'
  exact⟨_,es',ep',hL,r'⟩) hok hg
theorem Inv.turned{t':Nat}{it:Addr}(I:Inv X pins σ H s)(k:∀b o,b≠it→s.heap.get? b=some o→h'.get? b=some o)(hn:H it=none)(hL:it≠X.env.locals)
  (h1:it∈X.ex∨X.s₀.heap.objs.size≤it) (h2:∀x c,X.env.cells.lookup x=some c→c≠it) (h3:∀p∈X.pn++pins,p.1≠it):Inv X pins σ H { s with heap:=h',toks:=t' }:=by
 have Y0:∀b u,H b=some u→b≠it:=fun b u e z=>by rw[z,hn] at e;cases e
 refine I.step (g':=s.gens) (d':=s.drawn) (ch:=[it]) (fun b hb=>?_) (fun b o _ _ hc e _=>k b o (fun z=>hc (by simp[z])) e) (fun b o _ _ hc e _=>⟨o.slots,k b o (fun z=>hc (by simp[z])) e⟩) (fun _ _ _ _ n=>n)
  (fun b o hc e=>⟨o,k b o (fun z=>hc (by simp[z])) e⟩) (fun _ _ e=>e) (fun _ _ _ e=>e) (fun b ps e=>⟨#[],by rw[e];simp⟩) (fun m hm=>?_) (fun b u e=>?_) I.bare
 ·have e:b=it:=by simpa using hb
  subst e
  exact⟨h1,hL,h2,h3⟩
 ·obtain⟨o,es,ep,ho,r⟩:=hm
  exact⟨o,es,ep,k _ o (Ne.symm hL) ho,r⟩
 ·refine(I.hok b u e).stay (fun c v hc q=>k c v ?_ q) (fun _ q=>q) fun _ _ q=>q
  rcases hc with z|z
  ·rw[z];exact Y0 b u e
  ·exact Y0 c _ z
theorem Inv.tok(I:Inv X pins σ H s)(t:Nat):Inv X pins σ H { s with toks:=t }:=I.un (h':=s.heap) (t':=t) Un.refl I.hok
theorem Inv.kept{t':Nat}(I:Inv X pins σ H s)(k:∀b u,s.heap.get? b=some u→h'.get? b=some u):Inv X pins σ H { s with heap:=h',toks:=t' }:=I.un (Un.kept k) (I.hok.kept k)
theorem Inv.laid{a:Addr}{o:HO}{t':Nat}(I:Inv X pins σ H s)(k:∀b u,s.heap.get? b=some u→h'.get? b=some u)(hp:s.heap.objs.size≤a)(new:ik X.prog X.w (upd H a o) h' a o) :
  Inv X pins σ (upd H a o) { s with heap:=h',toks:=t' }:=I.un (Un.laid k hp (I.hok.fresh hp)) (I.hok.laid k hp new)
theorem Inv.write{x e:Addr}{o:HO}{t':Nat}(I:Inv X pins σ H s)(mu:Mut (H x))(he:e=x∨H e=some (.own x))(k:∀b u,b≠e→s.heap.get? b=some u→h'.get? b=some u)(heo:∃u,h'.get? e=some u)
  (new:ik X.prog X.w (upd H x o) h' x o):Inv X pins σ (upd H x o) { s with heap:=h',toks:=t' }:=I.un (Un.write mu he k heo) (I.hok.write mu he k heo new)
theorem Inv.MP{YQ:List (Addr×Obj)}(I:Inv X pins σ H s)(h:∀p∈YQ,s.heap.get? p.1=some p.2∧H p.1=none∧p.1≠X.env.locals∧p.1 ∉ X.fs∧∀v,p.2.data ≠ .cell v):Inv X YQ σ H s:=
 ⟨I.ok,I.os,I.bare,I.base,I.loc,I.cell,I.free,I.uI,fun p hp=>(List.mem_append.mp hp).elim (fun z=>I.pin p (List.mem_append_left _ z)) (h p),I.hok,I.len⟩
theorem Hx{N:List Str}(hN:N.Nodup){i j:Nat}{x:Str}(a:N[i]? = some x)(b:N[j]? = some x):i=j:=by
 obtain⟨h1,e1⟩:=List.getElem?_eq_some_iff.mp a
 obtain⟨h2,e2⟩:=List.getElem?_eq_some_iff.mp b
 exact(List.getElem_inj hN).mp (e1.trans e2.symm)
theorem xK{M:Model}{A:Around}{E:Value→Shared→Prop}{i:Nat}{x:Str}{v:V}{u:Value}{Q:Unit→Shared→Prop}(I:Inv X pins σ H s)(hN:X.N.Nodup)(hi:X.N[i]? = some x)(hx:Loc X.env.scope x)(r:RelV v u)
  (h:∀s',Inv X pins (σ.set i (some v)) H s'→(∃a,Heap.SameBut a s.heap s'.heap∧(a=X.env.locals∨X.env.cells.lookup x=some a))→Q () s') (hf:X.fn x=true∨X.env.scope.names.lookup x=some .local:=by first|exact .inl rfl|exact .inr rfl|assumption):wpAny M A (storeName X.env x u) Q E s:=by
 obtain⟨m,hn,hl⟩:=id I.loc
 have hcls:(X.env.scope.kind == .class||(X.env.scope.kind == .module&&X.env.locals != X.env.globals))=false:=by rw[I.ok.kind];rfl
 have hiσ:i<σ.length:=by rw[I.len];exact(List.getElem?_eq_some_iff.mp hi).1
 have cne:=I.cne
 have tracked:∀{a:Addr} {h':Heap},(∃o,s.heap.get? a=some o∧H a=none)→Heap.SameBut a s.heap h'→xC X.prog X.w H h':=fun{a h'} ha hs b ob e=>by
  obtain⟨_,_,hfree⟩:=ha
  refine(I.hok b ob e).stay (fun c w' hc q=>(hs.2 c ?_).trans q) (fun _ q=>q) fun _ _ q=>q
  rintro rfl
  rcases hc with rfl|hc
  ·rw[hfree] at e;cases e
  ·rw[hfree] at hc;cases hc
 rcases hx with hk|hk
 ·refine wpAny_storeName_local hk hn (fun h' hn' hs=>?_) hcls
  obtain⟨oL,_,_,hoL,_⟩:=id hn
  refine h _ ⟨I.ok,I.os,I.bare,⟨fun b o e n hb hx=>?_,fun b o e n hb hx=>?_,I.base.free,fun b o e hx=>?_,I.base.tups,I.base.Gf,I.base.GQ⟩,⟨_,hn',fun j y v' e1 e2 e3=>?_⟩,fun y c e=>?_,I.free,I.uI,fun p hp=>?_,tracked ⟨oL,hoL,I.free⟩ hs,by simpa using I.len⟩ ⟨_,hs,.inl rfl⟩
  ·exact(hs.2 b (Nat.ne_of_lt (Nat.lt_of_lt_of_le (Heap.lt_size e) I.ok.above))).trans (I.base.keep b o e n hb hx)
  ·obtain⟨sl,e1⟩:=I.base.slot b o e n hb hx
   exact⟨sl,(hs.2 b (Nat.ne_of_lt (Nat.lt_of_lt_of_le (Heap.lt_size e) I.ok.above))).trans e1⟩
  ·obtain⟨o',e1⟩:=I.base.there b o e hx
   exact⟨o',(hs.2 b (Nat.ne_of_lt (Nat.lt_of_lt_of_le (Heap.lt_size e) I.ok.above))).trans e1⟩
  ·by_cases hj:j=i
   ·subst hj
    rw[hi] at e1;cases e1
    rw[List.getElem?_set_self hiσ] at e2
    cases e2
    exact⟨u,r,.inl ⟨hk,by simp⟩⟩
   ·rw[List.getElem?_set_ne (Ne.symm hj)] at e2
    obtain⟨u',r',q⟩:=hl j y v' e1 e2 e3
    refine⟨u',r',?_⟩
    rcases q with ⟨k,e⟩|⟨k,c,e,z⟩
    ·refine .inl ⟨k,?_⟩
     have:y≠x:=fun e=>hj (Hx hN e1 (e ▸ hi))
     simp[this,e]
    ·exact .inr ⟨k,c,e,z.sameBut hs (cne y c e)⟩
  ·obtain⟨w',z⟩:=I.cell y c e
   exact⟨w',z.sameBut hs (cne y c e)⟩
  ·obtain⟨e,n,ne,nf,d⟩:=I.pin p hp
   exact⟨(hs.2 p.1 ne).trans e,n,ne,nf,d⟩
 ·have hfn:X.fn x=true:=by
   rcases hf with z|z
   ·exact z
   ·rw[z] at hk;cases hk
  obtain⟨c,hc⟩:=I.ok.has x (.inl hk)
  obtain⟨w',z⟩:=I.cell x c hc
  refine wpAny_storeName_cell I.ok.kind hk hc z (fun h' hc' hs=>?_)
  obtain⟨oc,hoc,amA⟩:=id z
  refine h { s with heap:=h' } ⟨I.ok,I.os,I.bare,⟨fun b o e n hb hx=>?_,fun b o e n hb hx=>?_,I.base.free,fun b o e hx=>?_,I.base.tups,I.base.Gf,I.base.GQ⟩,⟨m,hn.sameBut hs (Ne.symm (cne x c hc)),fun j y v' e1 e2 e3=>?_⟩,fun y c' e=>?_,I.free,I.uI,fun p hp=>?_,tracked ⟨oc,hoc,I.uI x c hc⟩ hs,by simpa using I.len⟩ ⟨c,hs,.inr hc⟩
  ·exact(hs.2 b (Nat.ne_of_lt (Nat.lt_of_lt_of_le (Heap.lt_size e) (I.ok.cab x c hfn hc)))).trans (I.base.keep b o e n hb hx)
  ·obtain⟨sl,e1⟩:=I.base.slot b o e n hb hx
   exact⟨sl,(hs.2 b (Nat.ne_of_lt (Nat.lt_of_lt_of_le (Heap.lt_size e) (I.ok.cab x c hfn hc)))).trans e1⟩
  ·obtain⟨o',e1⟩:=I.base.there b o e hx
   exact⟨o',(hs.2 b (Nat.ne_of_lt (Nat.lt_of_lt_of_le (Heap.lt_size e) (I.ok.cab x c hfn hc)))).trans e1⟩
  ·by_cases hj:j=i
   ·subst hj
    rw[hi] at e1;cases e1
    rw[List.getElem?_set_self hiσ] at e2
    cases e2
    exact⟨u,r,.inr ⟨.inl hk,c,hc,hc'⟩⟩
   ·rw[List.getElem?_set_ne (Ne.symm hj)] at e2
    obtain⟨u',r',q⟩:=hl j y v' e1 e2 e3
    refine⟨u',r',?_⟩
    rcases q with q|⟨k,c',e,z'⟩
    ·exact .inl q
    ·refine .inr ⟨k,c',e,z'.sameBut hs ?_⟩
     rintro rfl
     exact hj (Hx hN e1 (I.ok.inj _ _ _ e hc ▸ hi))
  ·by_cases hcc:c'=c
   ·subst hcc;exact⟨_,hc'⟩
   ·obtain⟨w2,z2⟩:=I.cell y c' e
    exact⟨w2,z2.sameBut hs hcc⟩
  ·obtain⟨e,n,ne,nf,d⟩:=I.pin p hp
   refine⟨(hs.2 p.1 ?_).trans e,n,ne,nf,d⟩
   intro q
   rw[q,hoc] at e
   have q':oc=p.2:=Option.some.inj e
   exact d w' (by rw[←q'];exact amA)
theorem G6{M:Model}{A:Around}{E:Value→Shared→Prop}{i:Nat}{x:Str}{v:V}{u:Value}{Q:Unit→Shared→Prop}(I:Inv X pins σ H s)(hN:X.N.Nodup)(hi:X.N[i]? = some x)(hx:Loc X.env.scope x)(r:RelV v u)
  (h:∀s',Inv X pins (σ.set i (some v)) H s'→Q () s') (hf:X.fn x=true∨X.env.scope.names.lookup x=some .local:=by first|exact .inl rfl|exact .inr rfl|assumption):wpAny M A (storeName X.env x u) Q E s:=
 xK I hN hi hx r (fun s' I' _=>h s' I') hf
theorem Inv.call'{s':Shared}{ch:List Addr}(I:Inv X pins σ H s)(ho:s'.os=s.os)(u:Un (frs X.stack) ch H H' s.heap s'.heap)(hok:xC X.prog X.w H' s'.heap)(hg:AllBare s'.gens)
  (hch:∀b∈ch,(b∈X.ex∨X.s₀.heap.objs.size≤b)∧b≠X.env.locals∧(∀x c,X.env.cells.lookup x=some c→c≠b)∧∀p∈X.pn++pins,p.1≠b):Inv X pins σ H' s':=by
 obtain⟨h',g',d',t',o'⟩:=s'
 have e:o'=s.os:=ho
 subst e
 exact I.call (g':=g') (t':=t') (d':=d') u hok hg hch
end
noncomputable abbrev XK:=Value→Option Addr→Hp→Prop
noncomputable abbrev St:=List (Option V)
noncomputable abbrev VK:=V→Hp→Prop
noncomputable abbrev TE:=St→Hp→VK→Prop
noncomputable abbrev TT:=St→Hp→(Bool→Hp→Prop)→Prop
noncomputable abbrev TA:=St→Hp→(List V→Hp→Prop)→Prop
structure Ends where
 nx:St→Hp→Prop
 rt:VK
 bk:St→Hp→Prop:=fun _ _=>False
 ct:St→Hp→Prop:=fun _ _=>False
noncomputable abbrev TS:=Ends→St→Hp→Prop
noncomputable def EP(X:Cx)(pins:List (Addr×Obj))(σ:St)(Q:VK)(u:Value)(s':Shared):Prop:=∃v H',Inv X pins σ H' s'∧RelV v u∧Q v H'
noncomputable def TP(X:Cx)(pins:List (Addr×Obj))(σ:St)(Q:Bool→Hp→Prop)(b:Bool)(s':Shared):Prop:=∃H',Inv X pins σ H' s'∧Q b H'
noncomputable def AP(X:Cx)(pins:List (Addr×Obj))(σ:St)(Q:List V→Hp→Prop)(us:List Value)(s':Shared):Prop:=∃vs H',Inv X pins σ H' s'∧Vals vs us∧Q vs H'
noncomputable def SP(X:Cx)(pins:List (Addr×Obj))(D:Ends)(f:Flow)(s':Shared):Prop:=
 match f with
 | .next=>∃σ' H',Inv X pins σ' H' s'∧D.nx σ' H'
 | .brk=>∃σ' H',Inv X pins σ' H' s'∧D.bk σ' H'
 | .cont=>∃σ' H',Inv X pins σ' H' s'∧D.ct σ' H'
 | .ret u=>∃v σ' H',Inv X pins σ' H' s'∧RelV v u∧D.rt v H'
noncomputable def PE(X:Cx)(e:Expr)(t:TE):Prop:=
 ∀(pins:List (Addr×Obj)) (s:Shared) (σ:St) (H:Hp) (Q:VK),Inv X pins σ H s→t σ H Q→wpAny (model X.prog X.w) X.A (eval e X.env) (EP X pins σ Q) X.xe s
noncomputable def PT(X:Cx)(e:Expr)(t:TT):Prop:=
 ∀(pins:List (Addr×Obj)) (s:Shared) (σ:St) (H:Hp) (Q:Bool→Hp→Prop),Inv X pins σ H s→t σ H Q→wpAny (model X.prog X.w) X.A (isTrue e X.env (eval e X.env)) (TP X pins σ Q) X.xe s
noncomputable def PW(X:Cx)(e:Expr)(t:TT):Prop:=
 ∀(whole:Sem Value) (pins:List (Addr×Obj)) (s:Shared) (σ:St) (H:Hp) (Q:Bool→Hp→Prop),Inv X pins σ H s→t σ H Q→wpAny (model X.prog X.w) X.A (isTrue e X.env whole) (TP X pins σ Q) X.xe s
theorem PW.pt{X:Cx}{e:Expr}{t:TT}(h:PW X e t):PT X e t:=h _
noncomputable def PA(X:Cx)(es:List Expr)(t:TA):Prop:=
 ∀(pos:Pos) (pins:List (Addr×Obj)) (s:Shared) (σ:St) (H:Hp) (Q:List V→Hp→Prop),Inv X pins σ H s→t σ H Q→wpAny (model X.prog X.w) X.A (spliced (backTo pos (starEach es X.env))) (AP X pins σ Q) X.xe s
noncomputable def PS(X:Cx)(st:Stmt)(t:TS):Prop:=
 ∀(pins:List (Addr×Obj)) (s:Shared) (σ:St) (H:Hp) (D:Ends),Inv X pins σ H s→t D σ H→wpAny (model X.prog X.w) X.A (exec st X.env) (SP X pins D) X.xe s
noncomputable def Js(X:Cx)(st:List Stmt)(t:TS):Prop:=
 ∀(pins:List (Addr×Obj)) (s:Shared) (σ:St) (H:Hp) (D:Ends),Inv X pins σ H s→t D σ H→wpAny (model X.prog X.w) X.A (execs st X.env) (SP X pins D) X.xe s
theorem gw{α:Type}{t:Sem α}{Q Q':α→Shared→Prop}{M:Model}{A:Around}{E:Value→Shared→Prop}{s:Shared}(h:wpAny M A t Q E s)(hQ:∀a s,Q a s→Q' a s):wpAny M A t Q' E s:=wpAny_mono h hQ fun _ _ x=>x
end L2
namespace L2
open PySem PySem.Spec PyProof.Rows
section
variable{X:Cx}
noncomputable def aev(i:Nat):TE:=fun σ H Q=>∃v,σ[i]? = some (some v)∧Q v H
noncomputable def tC(v:V):TE:=fun _ H Q=>Q v H
theorem mO{i:Nat}{x:Str}{pos:Pos}(hN:X.N[i]? = some x)(hv:uw X.env.scope x)(hd:(x == ("__debug__" : Str))=false:=by decide)(hcd:(x == ("__classdict__" : Str))=false:=by decide):PE X (.Name x pos) (aev i):=by
 intro pins s σ H Q I h
 obtain⟨v,e,h⟩:=h
 obtain⟨m,hn,hl⟩:=I.loc
 obtain⟨u,r,l⟩:=hl i x v hN e hv
 have fin:EP X pins σ Q u s:=⟨v,H,I,r,h⟩
 rcases l with ⟨hk,hm⟩|⟨hk,c,hc,hcell⟩
 ·exact wpAny_Name (wpAny_loadName_local I.ok.kind hk hn hm fin) hd
 ·rcases hk with hk|hk
  ·exact wpAny_Name (wpAny_loadName_cell I.ok.kind hk hc hcell fin) hd
  ·exact wpAny_Name (wpAny_loadName_free I.ok.kind hk hc hcell fin hcd) hd
theorem RP{i j pos}:PE X (.Constant (.int i) j pos) (tC (.int i)):=fun _ _ _ H _ I h=>wpAny_Constant_int ⟨.int i,H,I.tok _,⟨_,rfl⟩,h⟩
theorem af5{b j pos}:PE X (.Constant (.bool b) j pos) (tC (.bl b)):=fun _ _ _ H _ I h=>Constant_bool ⟨.bl b,H,I,rfl,h⟩
theorem aa0{j pos}:PE X (.Constant .none j pos) (tC .non):=fun _ _ _ H _ I h=>Constant_none ⟨.non,H,I,rfl,h⟩
theorem aaW{x j pos}:PE X (.Constant (.str x) j pos) (tC (.str x)):=fun _ _ _ H _ I h=>Calls.Constant_str ⟨.str x,H,I.tok _,⟨_,rfl⟩,h⟩
noncomputable def Gl(X:Cx)(x:Str):Prop:=X.env.kindOf x=some .globalImplicit
theorem M6{E:Value→Shared→Prop}{pins:List (Addr×Obj)}{s:Shared}{σ:St}{H:Hp}{x:Str}{u:Value}{pos:Pos}{Q:Value→Shared→Prop}(I:Inv X pins σ H s)(hg:Gl X x)(hm:X.mg x=some u)(h:Q u s)
  (hd:(x == ("__debug__" : Str))=false:=by decide):wpAny (model X.prog X.w) X.A (eval (.Name x pos) X.env) Q E s:=
 Calls.Name_function_global I.ok.kind hg (Calls.loadGlobal_global (by rw[I.ok.glob];exact I.mod.glob.keeps I.bk) hm h) hd
theorem uT{E:Value→Shared→Prop}{pins:List (Addr×Obj)}{s:Shared}{σ:St}{H:Hp}{x:Str}{u:Value}{pos:Pos}{Q:Value→Shared→Prop}(I:Inv X pins σ H s)(hg:Gl X x)(hm:X.mg x=none)(hv:bootBuiltins x=some u)(h:Q u s)
  (hn:x ≠ "__name__":=by decide) (hd:(x == ("__debug__" : Str))=false:=by decide):wpAny (model X.prog X.w) X.A (eval (.Name x pos) X.env) Q E s:=by
 obtain⟨mb,h1,h2⟩:=I.mod.blt
 exact Calls.Name_function_global I.ok.kind hg (Calls.loadGlobal_builtin (by rw[I.ok.glob];exact I.mod.glob.keeps I.bk) hm (by rw[I.ok.blt];exact h1.keeps I.bk) ((h2 x hn).trans hv) h) hd
theorem Wz{x:Str}{v:V}{u:Value}{pos:Pos}(hg:Gl X x)(hm:X.mg x=some u)(r:RelV v u)(hd:(x == ("__debug__" : Str))=false:=by decide):PE X (.Name x pos) (tC v):=
 fun _ _ _ H _ I h=>M6 I hg hm ⟨v,H,I,r,h⟩ hd
variable{a b:Expr}{ta tb:TE}{pos:Pos}
noncomputable def tB(t:TE):TT:=fun σ H Q=>t σ H fun x H1=>∃c,x = .bl c∧Q c H1
theorem aaO{e:Expr}{t:TE}(h:PE X e t)(he:∀whole,isTrue e X.env whole=(do let v ←whole;standAt e.pos;holding [v] (truthy v)):=by intro _;rfl):PT X e (tB t):=by
 intro pins s σ H Q I hw
 refine isTrue_plain (gw (h pins s σ H _ I hw) fun v s1 ⟨x,H1,I1,r1,q1⟩=>?_) (he _)
 obtain⟨d,rfl,q⟩:=q1
 cases r1
 exact wpAny_truthy_bool ⟨H1,I1,q⟩
variable{tA tB':TT}{rest:List Expr}
noncomputable def alf(t u:TT):TT:=fun σ H Q=>t σ H fun c H1=>if c=true then u σ H1 Q else Q false H1
noncomputable def ak8(t:TT):TT:=fun σ H Q=>t σ H fun c H1=>Q (!c) H1
theorem pw_and1(ha:PT X a tA):PW X (.BoolOp .And [a] pos) tA:=by
 intro wh pins s σ H Q I h
 refine isTrue_and (gw (ha pins s σ H Q I h) fun c s1 e=>?_)
 cases c with
 | true=>exact isTrue_and_nil e
 | false=>exact e
theorem pw_and(ha:PT X a tA)(hb:PW X (.BoolOp .And (b::rest) pos) tB'):PW X (.BoolOp .And (a::b::rest) pos) (alf tA tB'):=by
 intro wh pins s σ H Q I h
 refine isTrue_and (gw (ha pins s σ H _ I h) fun c s1 ⟨H1,I1,q1⟩=>?_)
 cases c with
 | true=>exact hb wh pins s1 σ H1 Q I1 q1
 | false=>exact⟨H1,I1,q1⟩
theorem aaP(ha:PT X a tA):PT X (.UnaryOp .Not a pos) (ak8 tA):=by
 intro pins s σ H Q I h
 exact isTrue_not (ha pins s σ H (fun c H1=>Q (!c) H1) I h)
noncomputable def ak7(ta tb:TE):TE:=fun σ H Q=>ta σ H fun x H1=>∃c,x = .bl c∧if c=true then Q (.bl true) H1 else tb σ H1 Q
noncomputable def aey(ta:TE):TE:=fun σ H Q=>ta σ H fun x H1=>∃c,x = .bl c∧Q (.bl (!c)) H1
theorem aaY{op}{t:TE}(h:PE X a t):PE X (.BoolOp op [a] pos) t:=fun pins s σ H Q I hw=>BoolOp_one (h pins s σ H Q I hw)
theorem af3(ha:PE X a ta)(hb:PE X (.BoolOp .Or (b::rest) pos) tb):PE X (.BoolOp .Or (a::b::rest) pos) (ak7 ta tb):=by
 intro pins s σ H Q I h
 refine BoolOp_or (gw (ha pins s σ H _ I h) fun v s1 ⟨x,H1,I1,r1,q1⟩=>?_)
 obtain⟨c,rfl,q1⟩:=q1
 cases r1
 refine wpAny_truthy_bool ?_
 cases c with
 | false=>exact hb pins s1 σ H1 Q I1 q1
 | true=>exact⟨.bl true,H1,I1,rfl,q1⟩
theorem aaZ(ha:PE X a ta):PE X (.UnaryOp .Not a pos) (aey ta):=by
 intro pins s σ H Q I h
 refine UnaryOp_ (gw (ha pins s σ H _ I h) fun v s1 ⟨x,H1,I1,r1,q1⟩=>?_)
 obtain⟨c,rfl,q1⟩:=q1
 cases r1
 exact not_of (wpAny_truthy_bool ⟨.bl (!c),H1,I1,rfl,q1⟩)
end
end L2
namespace L2
open PySem PySem.Spec PyProof.Rows
noncomputable def jY(K:PySem.W.Frag)(H:Hp)(a:Addr)(xs:List V):Prop:=
 Rd H a (.lst xs)∨
  ∃(o:Obj) (its:Array Value) (n:Nat),K.lookup a=some o∧o.cls = .type "list"∧o.dict=none∧o.data = .seq its n∧its.size≤sizeLine∧Vals xs its.toList
noncomputable def oM(K:PySem.W.Frag)(H:Hp)(a:Addr)(xs:List V):Prop:=
 Rd H a (.tup xs)∨
  ∃(o:Obj) (its:Array Value) (n:Nat),K.lookup a=some o∧o.cls = .type "tuple"∧o.dict=none∧o.data = .seq its n∧its.size≤sizeLine∧Vals xs its.toList
noncomputable def anH:Value→Option V
 | .none=>some .non
 | .bool b=>some (.bl b)
 | .int i _=>some (.int i)
 | .str x _=>some (.str x)
 | .bytes b _=>some (.byt b)
 | .float b _=>some (.flt b)
 | .ref a=>some (.ref a)
 | .type n=>some (.ty n)
 | _=>none
theorem RelV.abs{x:V}{u:Value}(r:RelV x u):anH u=some x:=by
 cases x with
 | non=>cases r;rfl
 | bl _=>cases r;rfl
 | int _=>obtain⟨t,rfl⟩:=r;rfl
 | str _=>obtain⟨t,rfl⟩:=r;rfl
 | byt _=>obtain⟨t,rfl⟩:=r;rfl
 | flt _=>obtain⟨t,rfl⟩:=r;rfl
 | ref _=>cases r;rfl
 | ty _=>cases r;rfl
theorem RelV.inj{x y:V}{u:Value}(r:RelV x u)(q:RelV y u):x=y:=Option.some.inj (r.abs.symm.trans q.abs)
theorem Vals.inj:∀{xs ys:List V} {us:List Value},Vals xs us→Vals ys us→xs=ys
 | _,_,_,.nil,.nil=>rfl
 | _,_,_,.cons r t,.cons r' t'=>by rw[r.inj r',Vals.inj t t']
section
variable{X:Cx}{pins:List (Addr×Obj)}{σ:St}{H:Hp}{s:Shared}{a:Addr}{xs ys:List V}
theorem jY.of{K:PySem.W.Frag}(h:H a=some (.lst xs)):jY K H a xs:=.inl (.inl h)
theorem oM.of{K:PySem.W.Frag}(h:H a=some (.tup xs)):oM K H a xs:=.inl (.inl h)
theorem Inv.list(I:Inv X pins σ H s)(h:jY X.K H a xs):∃its:List Value,Vals xs its∧PlainL s.heap a its.toArray∧xs.length≤sizeLine:=by
 rcases h with h|⟨o,its,n,hk,hc,hd,hs,hz,r⟩
 ·obtain⟨z,its,n,r,e⟩:=h.ok I.hok
  exact⟨its,r,⟨_,n,e,rfl,rfl,rfl⟩,z⟩
 ·refine⟨its.toList,r,⟨o,n,I.kIn a o hk,hc,hd,by simpa using hs⟩,?_⟩
  have e:=r.length
  simp only[Array.length_toList] at e
  omega
theorem Inv.tuple(I:Inv X pins σ H s)(h:oM X.K H a xs):∃its:List Value,Vals xs its∧IsTup s.heap a its.toArray∧xs.length≤sizeLine:=by
 rcases h with h|⟨o,its,n,hk,hc,hdn,hs,hz,r⟩
 ·obtain⟨z,its,r,p⟩:=h.ok I.hok
  exact⟨its,r,p.is,z⟩
 ·refine⟨its.toList,r,⟨o,I.kIn a o hk,hc,n,by simpa using hs⟩,?_⟩
  have e:=r.length
  simp only[Array.length_toList] at e
  omega
theorem Inv.Ay(I:Inv X pins σ H s)(h:jY X.K H a xs)(h':jY X.K H a ys):xs=ys:=by
 obtain⟨its,r,⟨o,n,e,_,_,d⟩,_⟩:=I.list h
 obtain⟨its',r',⟨o',n',e',_,_,d'⟩,_⟩:=I.list h'
 rw[e] at e';cases e'
 rw[d] at d'
 injection d' with d1 _
 have:its=its':=by simpa using congrArg Array.toList d1
 subst this
 exact r.inj r'
theorem Inv.Dj(I:Inv X pins σ H s)(h:oM X.K H a xs)(h':oM X.K H a ys):xs=ys:=by
 obtain⟨its,r,⟨o,e,_,n,d⟩,_⟩:=I.tuple h
 obtain⟨its',r',⟨o',e',_,n',d'⟩,_⟩:=I.tuple h'
 rw[e] at e';cases e'
 rw[d] at d'
 injection d' with d1 _
 have:its=its':=by simpa using congrArg Array.toList d1
 subst this
 exact r.inj r'
end
noncomputable abbrev Cx.wish(X:Cx)(E:Value→Shared→Prop):Cx:={ X with xe:=E }
noncomputable abbrev Cx.nox(X:Cx):Cx:=X.wish fun _ _=>False
theorem Cx.Ok.wish{X:Cx}(ok:X.Ok)(E:Value→Shared→Prop):(X.wish E).Ok:=
 ⟨ok.mod,ok.kind,ok.glob,ok.blt,ok.above,ok.inj,ok.has,ok.cab,ok.hd,ok.frames,ok.Vj,ok.exf,ok.bs,ok.Z0,ok.Sw,ok.Qg,ok.Bm,ok.frf⟩
theorem Cx.Ok.rQ{X:Cx}{E:Value→Shared→Prop}(ok:(X.wish E).Ok):X.Ok:=
 ⟨ok.mod,ok.kind,ok.glob,ok.blt,ok.above,ok.inj,ok.has,ok.cab,ok.hd,ok.frames,ok.Vj,ok.exf,ok.bs,ok.Z0,ok.Sw,ok.Qg,ok.Bm,ok.frf⟩
section
variable{X:Cx}{pins:List (Addr×Obj)}{σ:St}{H:Hp}{s:Shared}{E:Value→Shared→Prop}
theorem Inv.wish(I:Inv X pins σ H s)(E:Value→Shared→Prop):Inv (X.wish E) pins σ H s:=⟨I.ok.wish E,I.os,I.bare,I.base,I.loc,I.cell,I.free,I.uI,I.pin,I.hok,I.len⟩
theorem Inv.rQ(I:Inv (X.wish E) pins σ H s):Inv X pins σ H s:=⟨I.ok.rQ,I.os,I.bare,I.base,I.loc,I.cell,I.free,I.uI,I.pin,I.hok,I.len⟩
theorem SP.rQ{D:Ends}{f:Flow}{s':Shared}(h:SP (X.wish E) pins D f s'):SP X pins D f s':=by
 cases f with
 | next=>obtain⟨σ',H',I,q⟩:=h;exact⟨σ',H',I.rQ,q⟩
 | brk=>obtain⟨σ',H',I,q⟩:=h;exact⟨σ',H',I.rQ,q⟩
 | cont=>obtain⟨σ',H',I,q⟩:=h;exact⟨σ',H',I.rQ,q⟩
 | ret u=>obtain⟨v,σ',H',I,r,q⟩:=h;exact⟨v,σ',H',I.rQ,r,q⟩
theorem Js.nox{st:List Stmt}{t:TS}(h:Js X.nox st t):Js X st t:=fun pins s σ H D I hw=>
 wpAny_mono (h pins s σ H D (I.wish _) hw) (fun _ _ q=>q.rQ) fun _ _ z=>False.elim z
end
section
variable{X:Cx}{st:Stmt}{rest:List Stmt}{t u:TS}{e:Expr}{te:TE}{pos:Pos}
noncomputable def aez:TS:=fun D σ H=>D.nx σ H
noncomputable def ak3(t u:TS):TS:=fun D σ H=>t { D with nx:=u D } σ H
theorem Wo:Js X [] aez:=fun _ _ σ H _ I h=>wpAny_execs_nil ⟨σ,H,I,h⟩
theorem Ru(h1:PS X st t)(h2:Js X rest u):Js X (st::rest) (ak3 t u):=by
 intro pins s σ H D I h
 refine wpAny_execs_cons (gw (h1 pins s σ H { D with nx:=u D } I h) fun f s1 q=>?_)
 cases f with
 | next=>
  obtain⟨σ',H',I',q⟩:=q
  exact h2 pins s1 σ' H' D I' q
 | ret v=>exact q
 | brk=>exact q
 | cont=>exact q
theorem Wn(h1:PS X st t):Js X [st] t:=by
 intro pins s σ H D I h
 refine wpAny_execs_cons (gw (h1 pins s σ H D I h) fun f s1 q=>?_)
 cases f with
 | next=>exact wpAny_execs_nil q
 | ret v=>exact q
 | brk=>exact q
 | cont=>exact q
theorem Inv.quiet{pins:List (Addr×Obj)}{σ:St}{H:Hp}{s:Shared}(I:Inv X pins σ H s):interactive X.env=false:=by simp[interactive,I.ok.kind]
noncomputable def aeB(te:TE):TS:=fun D σ H=>te σ H fun _ H1=>D.nx σ H1
theorem MN(he:PE X e te)(hs:swapsWith e none pos.line X.env=pure false:=by rfl):PS X (.Expr e pos) (aeB te):=by
 intro pins s σ H D I h
 exact wpAny_Expr_any (gw (he pins s σ H _ I h) fun v s1 ⟨x,H1,I1,r1,q1⟩=>⟨σ,H1,I1,q1⟩) I.quiet hs
noncomputable def ak5(te:TE):TS:=fun D σ H=>te σ H D.rt
theorem Ry(he:PE X e te):PS X (.Return (some e) pos) (ak5 te):=by
 intro pins s σ H D I h
 exact wpAny_Return_some (gw (he pins s σ H _ I h) fun v s1 ⟨x,H1,I1,r1,q1⟩=>⟨x,σ,H1,I1,r1,q1⟩)
noncomputable def alc(c:TT)(t u:TS):TS:=fun D σ H=>c σ H fun b H1=>if b=true then t D σ H1 else u D σ H1
theorem afB{c:Expr}{a b:List Stmt}{tc:TT}(hc:PT X c tc)(ha:Js X a t)(hb:Js X b u):PS X (.If c a b pos) (alc tc t u):=by
 intro pins s σ H D I h
 refine wpAny_If (gw (hc pins s σ H _ I h) fun d s1 ⟨H1,I1,q1⟩=>?_)
 cases d with
 | true=>exact ha pins s1 σ H1 D I1 q1
 | false=>exact hb pins s1 σ H1 D I1 q1
end
noncomputable abbrev TG:=V→St→Hp→(St→Hp→Prop)→Prop
noncomputable abbrev Yv:=List V→St→Hp→(St→Hp→Prop)→Prop
noncomputable def PG(X:Cx)(target:Expr)(t:TG):Prop:=
 ∀(pins:List (Addr×Obj)) (s:Shared) (σ:St) (H:Hp) (v:V) (u:Value) (Q:St→Hp→Prop),Inv X pins σ H s→RelV v u→t v σ H Q→
  wpAny (model X.prog X.w) X.A (assign target X.env u) (fun _ s'=>∃σ' H',Inv X pins σ' H' s'∧Q σ' H') X.xe s
noncomputable def Z7(X:Cx)(ts:List Expr)(t:Yv):Prop:=
 ∀(pins:List (Addr×Obj)) (s:Shared) (σ:St) (H:Hp) (vs:List V) (us:List Value) (Q:St→Hp→Prop),Inv X pins σ H s→Vals vs us→t vs σ H Q→
  wpAny (model X.prog X.w) X.A (assignInOrder ((assignEach ts X.env).map (·.2)) us) (fun _ s'=>∃σ' H',Inv X pins σ' H' s'∧Q σ' H') X.xe s
noncomputable abbrev Vc:=V→V→V→Hp→(Hp→Prop)→Prop
noncomputable def akx(X:Cx)(t:Vc):Prop:=
 ∀(pins:List (Addr×Obj)) (s:Shared) (σ:St) (H:Hp) (o i v:V) (ov iv u:Value) (Q:Hp→Prop),Inv X pins σ H s→RelV o ov→RelV i iv→RelV v u→t o i v H Q→
  wpAny (model X.prog X.w) X.A (setItem ov iv u) (fun _ s'=>∃H',Inv X pins σ H' s'∧Q H') X.xe s
section
variable{X:Cx}{pos:Pos}
noncomputable def za(i:Nat):TG:=fun v σ H Q=>Q (σ.set i (some v)) H
theorem Wy{i:Nat}{x:Str}(hN:X.N.Nodup)(hi:X.N[i]? = some x)(hx:Loc X.env.scope x)(hf:X.fn x=true∨X.env.scope.names.lookup x=some .local:=by first|exact .inl rfl|exact .inr rfl|assumption):PG X (.Name x pos) (za i):=by
 intro pins s σ H v u Q I r h
 exact wpAny_assign_Name (G6 I hN hi hx r (fun s' I'=>⟨_,H,I',h⟩) hf)
noncomputable def amM:Yv:=fun vs σ H Q=>vs=[]∧Q σ H
noncomputable def aiH(t:TG)(u:Yv):Yv:=fun vs σ H Q=>∃v r,vs=v::r∧t v σ H fun σ' H'=>u r σ' H' Q
theorem Wx:Z7 X [] amM:=by
 intro pins s σ H vs us Q I r h
 obtain⟨e,h⟩:=h
 subst e
 cases r
 exact assignInOrder_nil ⟨σ,H,I,h⟩
theorem RN{e:Expr}{es:List Expr}{t:TG}{u:Yv}(h1:PG X e t)(h2:Z7 X es u)
  (hs:(assignEach (e::es) X.env).map (·.2)=assign e X.env::(assignEach es X.env).map (·.2):=by rfl):Z7 X (e::es) (aiH t u):=by
 intro pins s σ H vs us Q I r h
 obtain⟨v,vr,e1,h⟩:=h
 subst e1
 cases r with
 | cons r rr=>
  rw[hs]
  refine assignInOrder_cons (gw (h1 pins s σ H _ _ _ I r h) fun _ s1 ⟨σ1,H1,I1,q1⟩=>?_)
  exact h2 pins s1 σ1 H1 _ _ Q I1 rr q1
noncomputable def amL(K:PySem.W.Frag)(n:Nat)(t:Yv):TG:=fun v σ H Q=>∃a xs,v = .ref a∧oM K H a xs∧xs.length=n∧t xs σ H Q
theorem aaT{es:List Expr}{k:Nat}{t:Yv}{n:Nat}(hc:X.calm=true)(h:Z7 X es t)
  (hn:(assignEach es X.env).length=n:=by rfl) (hst:(assignEach es X.env).findIdx? (·.1)=none:=by rfl):PG X (.Tuple es k pos) (amL X.K n t):=by
 intro pins s σ H v u Q I r hw
 obtain⟨a,xs,e1,hq,hl,hw⟩:=hw
 subst e1
 cases r
 obtain⟨its,rv,ht,hz⟩:=I.tuple hq
 refine assign_Tuple_tuple (I.ok.hd hc) ht (by simp[hn,←hl,rv.length]) hst fun h' hx=>?_
 have I1:Inv X pins σ H { s with heap:=h' }:=I.kept (t':=s.toks) fun b o e=>hx b o (Nat.ne_of_lt (Heap.lt_size e)) e
 exact h pins _ σ H xs _ Q I1 (by simpa using rv) hw
noncomputable def tQ(to ti:TE)(t:Vc):TG:=fun v σ H Q=>to σ H fun o H1=>ti σ H1 fun i H2=>t o i v H2 fun H3=>Q σ H3
theorem aaU{o i:Expr}{to ti:TE}{t:Vc}(ho:PE X o to)(hi:PE X i ti)(hs:akx X t)
  (ha:∀v,assign (.Subscript o i pos) X.env v=(do
   let ov ←holding [v] (eval o X.env)
   let iv ←holding [v,ov] (eval i X.env)
   standAt pos
   holding [v,ov,iv] (setItem ov iv v)
   release [v,ov,iv] []):=by intro _;rfl):PG X (.Subscript o i pos) (tQ to ti t):=by
 intro pins s σ H v u Q I r h
 rw[ha]
 refine wpAny_bind (wpAny_holding (gw (ho pins s σ H _ I h) fun ov s1 ⟨x,H1,I1,r1,q1⟩=>?_))
 refine wpAny_bind (wpAny_holding (gw (hi pins s1 σ H1 _ I1 q1) fun iv s2 ⟨y,H2,I2,r2,q2⟩=>?_))
 refine wpAny_bind (wpAny_standAt (wpAny_bind (wpAny_holding (gw (hs pins s2 σ H2 x y v ov iv u _ I2 r1 r2 r q2) fun _ s3 ⟨H3,I3,q3⟩=>?_))))
 exact wpAny_release ⟨σ,H3,I3,q3⟩
noncomputable def Q4(te:TE)(g:TG):TS:=fun D σ H=>te σ H fun x H1=>g x σ H1 D.nx
theorem aaR{tg e:Expr}{te:TE}{g:TG}(he:PE X e te)(hg:PG X tg g)(hs:swapsWithSole [tg] e pos.line X.env=pure false:=by rfl)(hw:swappedStores [tg] e X.env=pure none:=by rfl)
  (h1:(assignEach [tg] X.env).map (·.2)=[assign tg X.env]:=by rfl):PS X (.Assign [tg] e pos) (Q4 te g):=by
 intro pins s σ H D I h
 refine wpAny_Assign_stores (gw (he pins s σ H _ I h) fun v s1 ⟨x,H1,I1,r1,q1⟩=>?_) hs hw
 rw[h1]
 exact gw (hg pins s1 σ H1 x v _ I1 r1 q1) fun _ s2 q=>q
theorem Rx{i:Nat}{x:Str}{e:Expr}{te:TE}{pos':Pos}(hN:X.N.Nodup)(hi:X.N[i]? = some x)(hx:Loc X.env.scope x)(he:PE X e te)(hs:swapsWith e (some (.Name x pos')) pos.line X.env=pure false:=by rfl)(hf:X.fn x=true∨X.env.scope.names.lookup x=some .local:=by first|exact .inl rfl|exact .inr rfl|assumption) :
  PS X (.Assign [.Name x pos'] e pos) (Q4 te (za i)):=by
 intro pins s σ H D I h
 refine wpAny_Assign_Name (gw (he pins s σ H _ I h) fun v s1 ⟨y,H1,I1,r1,q1⟩=>?_) hs
 exact G6 I1 hN hi hx r1 (fun s2 I2=>⟨_,H1,I2,q1⟩) hf
end
section
variable{X:Cx}{pos:Pos}
noncomputable def aap(c:TT)(tb:TS):TS:=fun D σ H=>∃W:Nat→St→Hp→Prop,(∃m,W m σ H)∧∀m σ H,W m σ H→
 c σ H fun b H1=>if b=true then ∃N:St→Hp→Prop,(∀σ' H',N σ' H'→∃m',m'<m∧W m' σ' H')∧tb { D with nx:=N,ct:=N,bk:=D.nx } σ H1 else D.nx σ H1
theorem Rv{c:Expr}{body:List Stmt}{tc:TT}{tb:TS}(hp:PassesOwn (model X.prog X.w) X.A X.env X.xe)(hc:PT X c tc)(hb:Js X body tb):PS X (.While c body [] pos) (aap tc tb):=by
 intro pins s σ H D I h
 obtain⟨W,⟨m0,w0⟩,turn⟩:=h
 refine wpAny_While (codeAny_whileLoop (fun n s'=>∃σ' H',Inv X pins σ' H' s'∧W n σ' H') ?_ m0 ⟨σ,H,I,w0⟩)
 rintro n s1 ⟨σ1,H1,I1,w1⟩
 refine wpAny_passesOwn hp (gw (hc pins s1 σ1 H1 _ I1 (turn n σ1 H1 w1)) fun b s2 ⟨H2,I2,q2⟩=>?_)
 cases b with
 | true=>
  obtain⟨N,hN,q2⟩:=q2
  rw[if_pos rfl]
  refine wpAny_passesOwn hp (gw (hb pins s2 σ1 H2 _ I2 q2) fun f s3 q3=>?_)
  cases f with
  | next=>
   obtain⟨σ3,H3,I3,n3⟩:=q3
   obtain⟨m',hm,w3⟩:=hN σ3 H3 n3
   exact⟨m',hm,σ3,H3,I3,w3⟩
  | cont=>
   obtain⟨σ3,H3,I3,n3⟩:=q3
   obtain⟨m',hm,w3⟩:=hN σ3 H3 n3
   exact⟨m',hm,σ3,H3,I3,w3⟩
  | brk=>exact q3
  | ret v=>exact q3
 | false=>
  rw[if_neg Bool.false_ne_true]
  exact wpAny_execs_nil ⟨σ1,H2,I2,q2⟩
end
structure It where
 go:Nat→Hp→Prop
 Vw:Nat→Hp→V→Hp→Prop
 stop:Nat→Hp→Prop
noncomputable def qp(X:Cx)(pins:List (Addr×Obj))(H:Hp)(b:Addr):Prop:=
 H b=none∧b≠X.env.locals∧b ∉ X.fs∧(b∈X.ex∨X.s₀.heap.objs.size≤b)∧(∀x c,X.env.cells.lookup x=some c→c≠b)∧∀p∈X.pn++pins,p.1≠b
theorem Inv.Lp{X:Cx}{pins:List (Addr×Obj)}{σ:St}{H H':Hp}{s:Shared}{b:Addr}(I:Inv X pins σ H s)(hb:s.heap.objs.size≤b)(hn:H' b=none):qp X pins H' b:=by
 refine⟨hn,Nat.ne_of_gt (Nat.lt_of_lt_of_le I.lt hb),I.al5 hb,.inr (Nat.le_trans I.sz hb),fun x c e z=>?_,fun p hp z=>?_⟩
 ·obtain⟨v,q⟩:=I.cell x c e
  exact absurd (Nat.lt_of_lt_of_le q.lt (by rw[z];exact hb)) (Nat.lt_irrefl _)
 ·exact absurd (Nat.lt_of_lt_of_le (Heap.lt_size (I.pin p hp).1) (by rw[z];exact hb)) (Nat.lt_irrefl _)
structure Turn(P:Program)(w:World)(K:PySem.W.Frag)(tg:Expr)(J:It)(fp:List Addr)(it:Addr)(tn:Nat→Heap→Prop):Prop where
 mem:it∈fp
 obj:∀i h,tn i h→∀b∈fp,∃o,h.get? b=some o∧∀v,o.data ≠ .cell v
 keep:∀i h h',tn i h→(∀b∈fp,∀o,h.get? b=some o→h'.get? b=some o)→tn i h'
 item:∀(X:Cx),X.prog=P→X.w=w→X.K=K→X.calm=true→∀(i:Nat) (pins:List (Addr×Obj)) (s:Shared) (σ:St) (H:Hp) (E:Value→Shared→Prop),Inv X pins σ H s→(∀b∈fp,qp X pins H b)→tn i s.heap→J.go i H→
  wpAny (model P w) X.A (pyNext (.ref it)) (fun r s1=>∃u,r=some u∧
   wpAny (model P w) X.A (letOwnedTupleGo tg (.ref it) u) (fun _ s2=>∃x H',Inv X pins σ H' s2∧RelV x u∧J.Vw i H x H'∧tn (i+1) s2.heap∧∀b∈fp,H' b=none) E s1) E s
 done:∀(X:Cx),X.prog=P→X.w=w→X.K=K→X.calm=true→∀(i:Nat) (pins:List (Addr×Obj)) (s:Shared) (σ:St) (H:Hp) (E:Value→Shared→Prop),Inv X pins σ H s→(∀b∈fp,qp X pins H b)→tn i s.heap→J.stop i H→
  wpAny (model P w) X.A (pyNext (.ref it)) (fun r s1=>r=none∧Inv X pins σ H s1) E s
 self:∀(A:Around) (i:Nat) (s:Shared) (Q:Value→Shared→Prop) (E:Value→Shared→Prop),tn i s.heap→Q (.ref it) s→wpAny (model P w) A (pyIter (.ref it)) Q E s
noncomputable abbrev TI:=St→Hp→(It→Hp→Prop)→Prop
noncomputable def PIE(X:Cx)(pins:List (Addr×Obj))(σ:St)(tg:Expr)(R:It→Hp→Prop)(itv:Value)(s2:Shared):Prop:=
 ∃(it:Addr) (fp:List Addr) (tn:Nat→Heap→Prop) (J:It) (H':Hp),itv = .ref it∧Inv X pins σ H' s2∧Turn X.prog X.w X.K tg J fp it tn∧tn 0 s2.heap∧(∀b∈fp,qp X pins H' b)∧R J H'
noncomputable def PI(X:Cx)(tg iter:Expr)(wi:TI):Prop:=
 ∀(pins:List (Addr×Obj)) (s:Shared) (σ:St) (H:Hp) (R:It→Hp→Prop),Inv X pins σ H s→wi σ H R→
  wpAny (model X.prog X.w) X.A (eval iter X.env) (fun v s1=>wpAny (model X.prog X.w) X.A (pyIter v) (PIE X pins σ tg R) X.xe s1) X.xe s
theorem Ii{M : Model}{A : Around}{E : Value → Shared → Prop}{s : Shared}{tg : Expr}{it : Addr}{u : Value}{o : Obj}{n : String}{vs : Array Value}{Q : Unit → Shared → Prop}(ho : s.heap.get? it = some o)(hc : o.cls = .type n)(hd : o.data = .fields vs)
    (hn : ["enumerate", "zip", "dict_itemiterator", "dict_reverseitemiterator", "odict_iterator", "itertools.zip_longest", "itertools.pairwise"].contains n = false) (hQ : Q () s) : wpAny M A (letOwnedTupleGo tg (.ref it) u) Q E s := by
  unfold letOwnedTupleGo
  cases tg <;> first
    | exact wpAny_pure hQ
    | (cases u <;> first
        | exact wpAny_pure hQ
        | (refine wpAny_bind (wpAny_load ho ?_)
           rw [hc, hd]
           show wpAny M A (if (["enumerate", "zip", "dict_itemiterator", "dict_reverseitemiterator", "odict_iterator", "itertools.zip_longest", "itertools.pairwise"].contains n && vs[0]? == some (rawInt _)) = true then _ else _) Q E s
           rw [if_neg (by intro h; rw [hn, Bool.false_and] at h; cases h)]
           exact wpAny_pure hQ))
noncomputable def Itl(K:PySem.W.Frag)(a:Addr):It:=
 ⟨fun i H=>∃xs x,jY K H a xs∧xs[i]? = some x,fun i H x H'=>H'=H∧∀xs,jY K H a xs→xs[i]? = some x,fun i H=>∃xs,jY K H a xs∧xs.length≤i⟩
noncomputable def Itt(K:PySem.W.Frag)(a:Addr):It:=
 ⟨fun i H=>∃xs x,oM K H a xs∧xs[i]? = some x,fun i H x H'=>H'=H∧∀xs,oM K H a xs→xs[i]? = some x,fun i H=>∃xs,oM K H a xs∧xs.length≤i⟩
noncomputable def Itr(lo:Int)(n:Nat):It:=⟨fun i _=>i<n,fun i H x H'=>H'=H∧x = .int (lo+i),fun i _=>n≤i⟩
theorem Og{P:Program}{w:World}{K:PySem.W.Frag}{tg:Expr}(a it:Addr):Turn P w K tg (Itl K a) [it] it (fun i h=>h.IsListIter it a i) where
 mem:=by simp
 obj:=fun i h st b hb=>by
  have e:b=it:=by simpa using hb
  subst e
  obtain⟨o,e,c,d⟩:=st
  exact⟨o,e,fun v z=>by rw[d] at z;cases z⟩
 keep:=fun i h h' st k=>st.at fun o e=>k it (by simp) o e
 item:=by
  intro X hP hw hK hc i pins s σ H E I hf st hg
  subst hP hw hK
  obtain⟨xs,x,hq,hx⟩:=hg
  obtain⟨its,rv,p,hz⟩:=I.list hq
  obtain⟨u,hu,ru⟩:=rv.get hx
  obtain⟨f0,f1,f2,f3,f4,f5⟩:=hf it (by simp)
  refine wpAny_pyNext_list_item st p.isList (x:=u) (by simpa using hu) fun h' st' sb=>?_
  have I1:Inv X pins σ H { s with heap:=h' }:=I.turned (t':=s.toks) (fun b o hb e=>(sb.2 b hb).trans e) f0 f1 f3 f4 f5
  obtain⟨o,e,c,d⟩:=id st'
  exact⟨u,rfl,Ii (s:={ s with heap:=h' }) e c d (by decide) ⟨x,H,I1,ru,⟨rfl,fun ys hy=>by rw[I.Ay hy hq];exact hx⟩,st',fun b hb=>(hf b hb).1⟩⟩
 done:=by
  intro X hP hw hK hc i pins s σ H E I hf st hg
  subst hP hw hK
  obtain⟨xs,hq,hx⟩:=hg
  obtain⟨its,rv,p,hz⟩:=I.list hq
  obtain⟨f0,f1,f2,f3,f4,f5⟩:=hf it (by simp)
  have hl:=rv.length
  exact wpAny_pyNext_list_end (I.ok.hd hc) st p.isList (by simp;omega) fun h' eb=>⟨rfl,I.turned (t':=s.toks) (fun b o hb e=>eb b o hb e) f0 f1 f3 f4 f5⟩
 self:=fun _ _ _ _ _ st h=>wpAny_pyIter_listiter st h
theorem JM{P:Program}{w:World}{K:PySem.W.Frag}{tg:Expr}(a it:Addr):Turn P w K tg (Itt K a) [it] it (fun i h=>h.IsTupleIter it a i) where
 mem:=by simp
 obj:=fun i h st b hb=>by
  have e:b=it:=by simpa using hb
  subst e
  obtain⟨o,e,c,d⟩:=st
  exact⟨o,e,fun v z=>by rw[d] at z;cases z⟩
 keep:=fun i h h' st k=>st.at fun o e=>k it (by simp) o e
 item:=by
  intro X hP hw hK hc i pins s σ H E I hf st hg
  subst hP hw hK
  obtain⟨xs,x,hq,hx⟩:=hg
  obtain⟨its,rv,p,hz⟩:=I.tuple hq
  obtain⟨u,hu,ru⟩:=rv.get hx
  obtain⟨f0,f1,f2,f3,f4,f5⟩:=hf it (by simp)
  refine wpAny_pyNext_tuple_item st (show s.heap.IsTuple a its.toArray from p) (x:=u) (by simpa using hu) fun h' st' sb=>?_
  have I1:Inv X pins σ H { s with heap:=h' }:=I.turned (t':=s.toks) (fun b o hb e=>(sb.2 b hb).trans e) f0 f1 f3 f4 f5
  obtain⟨o,e,c,d⟩:=id st'
  exact⟨u,rfl,Ii (s:={ s with heap:=h' }) e c d (by decide) ⟨x,H,I1,ru,⟨rfl,fun ys hy=>by rw[I.Dj hy hq];exact hx⟩,st',fun b hb=>(hf b hb).1⟩⟩
 done:=by
  intro X hP hw hK hc i pins s σ H E I hf st hg
  subst hP hw hK
  obtain⟨xs,hq,hx⟩:=hg
  obtain⟨its,rv,p,hz⟩:=I.tuple hq
  obtain⟨f0,f1,f2,f3,f4,f5⟩:=hf it (by simp)
  have hl:=rv.length
  exact wpAny_pyNext_tuple_end (I.ok.hd hc) st (show s.heap.IsTuple a its.toArray from p) (by simp;omega) fun h' eb=>⟨rfl,I.turned (t':=s.toks) (fun b o hb e=>eb b o hb e) f0 f1 f3 f4 f5⟩
 self:=fun _ _ _ _ _ st h=>wpAny_pyIter_tupleiter st h
theorem JN{P:Program}{w:World}{K:PySem.W.Frag}{tg:Expr}(it:Addr)(lo:Int)(n:Nat):Turn P w K tg (Itr lo n) [it] it (fun i h=>IsRangeIter h it (lo+(i:Nat)*1) ((n:Int) - (i:Nat)) 1) where
 mem:=by simp
 obj:=fun i h st b hb=>by
  have e:b=it:=by simpa using hb
  subst e
  exact⟨_,st,fun v z=>by
   have z':Data.fields _=Data.cell v:=z
   cases z'⟩
 keep:=fun i h h' st k=>k it (by simp) _ st
 item:=by
  intro X hP hw hK hc i pins s σ H E I hf st hg
  subst hP hw hK
  obtain⟨f0,f1,f2,f3,f4,f5⟩:=hf it (by simp)
  have W:=Walks.range (prog:=X.prog) (w:=X.w) (I.ok.hd hc) it lo 1 n
  refine W.item i s _ _ hg st fun v h' tk hv st' kk=>?_
  obtain⟨t,rfl⟩:=hv
  have I1:Inv X pins σ H { s with heap:=h',toks:=tk }:=I.turned (fun b o hb e=>kk b o (by simpa using hb) e) f0 f1 f3 f4 f5
  refine⟨_,rfl,Ii (s:={ s with heap:=h',toks:=tk }) (n:="range_iterator") st' rfl rfl (by decide) ⟨.int (lo+i),H,I1,⟨t,?_⟩,⟨rfl,rfl⟩,st',fun b hb=>(hf b hb).1⟩⟩
  rw[Int.mul_one]
 done:=by
  intro X hP hw hK hc i pins s σ H E I hf st hg
  subst hP hw hK
  obtain⟨f0,f1,f2,f3,f4,f5⟩:=hf it (by simp)
  exact wpAny_pyNext_range_end (I.ok.hd hc) st (by have:n≤i:=hg;omega) fun h' eb=>⟨rfl,I.turned (t':=s.toks) (fun b o hb e=>eb b o hb e) f0 f1 f3 f4 f5⟩
 self:=fun _ _ _ _ _ st h=>wpAny_pyIter_rangeiter st h
end L2
namespace L2
open PySem PySem.Spec PyProof.Rows
section
variable{X:Cx}{tg:Expr}
theorem Hq{pins:List (Addr×Obj)}{σ:St}{H:Hp}{s:Shared}{R:It→Hp→Prop}{E:Value→Shared→Prop}{lo hi:Int}{t u v:Tok}{tk:Nat}(I:Inv X pins σ H s)(h1 : -(2^62)≤lo)(h2:lo<2^62)(h3 : -(2^62)≤hi)(h4:hi<2^62)
  (q:R (Itr lo (hi - lo).toNat) H):wpAny (model X.prog X.w) X.A (pyIter (.ref s.heap.objs.size)) (PIE X pins σ tg R) E { s with heap:=s.heap.push { cls:=.type "range",data:=.fields #[.int lo t,.int hi u,.int 1 v] },toks:=tk }:=by
 refine wpAny_pyIter_range (IsRange.new ..) (small_one h1 h2 h3 h4) ?_
 have I1:Inv X pins σ H { s with heap:=s.heap.push { cls:=.type "range",data:=.fields #[.int lo t,.int hi u,.int 1 v] },toks:=tk }:=I.kept fun b o e=>Heap.get?_push_of_some _ e
 refine⟨(s.heap.push { cls:=.type "range",data:=.fields #[.int lo t,.int hi u,.int 1 v] }).objs.size,[(s.heap.push { cls:=.type "range",data:=.fields #[.int lo t,.int hi u,.int 1 v] }).objs.size],_,_,H,rfl,
  I1.kept (t':=tk) fun b o e=>Heap.get?_push_of_some _ e,JN _ lo (hi - lo).toNat,?_,fun b hb=>?_,q⟩
 ·have e1:lo+((0:Nat):Int)*1=lo:=by simp
  have e2:(((hi - lo).toNat:Nat):Int) - ((0:Nat):Int)=Builtin.Range.rangeSize lo hi 1:=by rw[rangeSize_one];split<;>omega
  show IsRangeIter _ _ (lo+((0:Nat):Int)*1) ((((hi - lo).toNat:Nat):Int) - ((0:Nat):Int)) 1
  rw[e1,e2]
  exact Heap.get?_push_size _ rfl
 ·have e:b=(s.heap.push { cls:=.type "range",data:=.fields #[.int lo t,.int hi u,.int 1 v] }).objs.size:=by simpa using hb
  subst e
  exact I1.Lp (Nat.le_refl _) (I1.hok.fresh (Nat.le_refl _))
noncomputable def aim(ta:TA):TI:=fun σ H R=>ta σ H fun vs H1=>∃j:Int,vs=[.int j]∧-(2^62)≤j∧j<2^62∧R (Itr 0 j.toNat) H1
noncomputable def ail(ta:TA):TI:=fun σ H R=>ta σ H fun vs H1=>∃i j:Int,vs=[.int i,.int j]∧(-(2^62)≤i∧i<2^62∧-(2^62)≤j∧j<2^62)∧R (Itr i (j - i).toNat) H1
theorem Ph{a:Expr}{ta:TA}{p pos:Pos}(hg:Gl X "range")(hm:X.mg "range" = none)(ha:PA X [a] ta)(hs:starEach [a] X.env=[(false,eval a X.env)]:=by rfl):PI X tg (.Call (.Name "range" p) [a] [] pos) (aim ta):=by
 intro pins s σ H R I h
 refine Call_ (uT I hg hm boot_range (PyProof.Rows.callWith_type1 (gw (ha pos pins s σ H _ I h) fun us s1 ⟨vs,H1,I1,r1,q1⟩=>?_) hs rfl))
 obtain⟨j,e,q1,q2,q⟩:=q1
 subst e
 cases r1 with
 | cons r rr=>
  cases rr
  obtain⟨t,rfl⟩:=r
  exact call_range_1 (Hq I1 (by omega) (by omega) q1 q2 (by simpa using q))
theorem Pg{a b:Expr}{ta:TA}{p pos:Pos}(hg:Gl X "range")(hm:X.mg "range" = none)(ha:PA X [a,b] ta)(hs:starEach [a,b] X.env=[(false,eval a X.env),(false,eval b X.env)]:=by rfl)(hs2:starEach [b] X.env=[(false,eval b X.env)]:=by rfl) :
  PI X tg (.Call (.Name "range" p) [a,b] [] pos) (ail ta):=by
 intro pins s σ H R I h
 refine Call_ (uT I hg hm boot_range (PyProof.Rows.callWith_type1 (gw (ha pos pins s σ H _ I h) fun us s1 ⟨vs,H1,I1,r1,q1⟩=>?_) (by rw[hs,hs2]) (by rw[hs2];rfl)))
 obtain⟨i,j,e,⟨q1,q2,q3,q4⟩,q⟩:=q1
 subst e
 cases r1 with
 | cons r rr=>
  cases rr with
  | cons r' rr=>
   cases rr
   obtain⟨t,rfl⟩:=r
   obtain⟨t',rfl⟩:=r'
   exact call_range_2 (Hq I1 q1 q2 q3 q4 q)
noncomputable def ald(wi:TI)(g:TG)(tb:TS):TS:=fun D σ H=>wi σ H fun J H1=>∃W:Nat→Nat→St→Hp→Prop,(∃m,W 0 m σ H1)∧∀i m σ H,W i m σ H→
 (J.stop i H∧D.nx σ H)∨(J.go i H∧∃N:St→Hp→Prop,(∀σ' H',N σ' H'→∃m',m'<m∧W (i+1) m' σ' H')∧∀x H',J.Vw i H x H'→g x σ H' fun σ2 H2=>tb { D with nx:=N,ct:=N,bk:=D.nx } σ2 H2)
noncomputable def nQ(fp:List Addr)(h:Heap):List (Addr×Obj):=fp.filterMap fun b=>(h.get? b).map fun o=>(b,o)
theorem iW{fp:List Addr}{h:Heap}{b:Addr}{o:Obj}(hb:b∈fp)(e:h.get? b=some o):(b,o)∈nQ fp h:=List.mem_filterMap.mpr ⟨b,hb,by rw[e];rfl⟩
theorem Py{fp:List Addr}{h:Heap}{p:Addr×Obj}(hp:p∈nQ fp h):p.1∈fp∧h.get? p.1=some p.2:=by
 obtain⟨b,hb,e⟩:=List.mem_filterMap.mp hp
 cases q:h.get? b with
 | none=>rw[q] at e;cases e
 | some o=>
  rw[q] at e
  have e':(b,o)=p:=Option.some.inj e
  subst e'
  exact⟨hb,q⟩
theorem Inv.pinned{pins:List (Addr×Obj)}{σ:St}{H:Hp}{s:Shared}{fp:List Addr}(I:Inv X pins σ H s)(hf:∀b∈fp,qp X pins H b)(ho:∀b∈fp,∃o,s.heap.get? b=some o∧∀v,o.data ≠ .cell v):Inv X (pins++nQ fp s.heap) σ H s:=
 I.MP fun p hp=>(List.mem_append.mp hp).elim (fun z=>I.pin p (List.mem_append_right _ z)) fun z=>by
  obtain⟨hb,e⟩:=Py z
  obtain⟨f0,f1,f2,_⟩:=hf p.1 hb
  obtain⟨o,e',d⟩:=ho p.1 hb
  rw[e] at e';cases e'
  exact⟨e,f0,f1,f2,d⟩
theorem Inv.pX{pins pl:List (Addr×Obj)}{σ:St}{H:Hp}{s:Shared}(I:Inv X (pins++pl) σ H s):Inv X pins σ H s:=I.MP fun p hp=>I.pin p (List.mem_append_right _ (List.mem_append_left _ hp))
theorem aaQ{iter:Expr}{body:List Stmt}{wi:TI}{g:TG}{tb:TS}{pos:Pos}(hp:PassesOwn (model X.prog X.w) X.A X.env X.xe)(hc:X.calm=true)(hi:PI X tg iter wi)(hg:PG X tg g)(hb:Js X body tb)
  (hs:∀x,foldedSetIterable iter X.env x=pure x:=by intro _;rfl):PS X (.For tg iter body [] pos) (ald wi g tb):=by
 intro pins s σ H D I h
 refine wpAny_For (gw (hi pins s σ H _ I h) fun v s1 h1=>gw h1 fun itv s2 h2=>?_) hs
 obtain⟨it,fp,tn,J,H2,e,I2,T,st2,f2,W,⟨m0,w0⟩,turn⟩:=h2
 subst e
 -- what stays true of the iterator's objects through the loop
 have stat:∀{H':Hp},(∀b∈fp,H' b=none)→∀b∈fp,qp X pins H' b:=fun hn b hb=>⟨hn b hb,(f2 b hb).2⟩
 refine codeAny_forLoop_any (fun n s'=>∃i σ' H',Inv X pins σ' H' s'∧tn i s'.heap∧(∀b∈fp,H' b=none)∧W i n σ' H') ?_ m0 ⟨0,σ,H2,I2,st2,fun b hb=>(f2 b hb).1,w0⟩
 rintro n s3 ⟨i,σ3,H3,I3,st3,fr3,w3⟩
 rcases turn i n σ3 H3 w3 with ⟨stop,qn⟩|⟨go,N,hN,step⟩
 ·refine wpAny_passesOwn hp (gw (T.done X rfl rfl rfl hc i pins s3 σ3 H3 X.xe I3 (stat fr3) st3 stop) fun r s4 ⟨hr,I4⟩=>?_)
  subst hr
  exact wpAny_execs_nil ⟨σ3,H3,I4,qn⟩
 ·refine wpAny_passesOwn hp (gw (T.item X rfl rfl rfl hc i pins s3 σ3 H3 X.xe I3 (stat fr3) st3 go) fun r s4 ⟨u,hr,h4⟩=>?_)
  subst hr
  refine wpAny_passesOwn hp (gw h4 fun _ s5 ⟨x,H5,I5,r5,y5,VR,fr5⟩=>?_)
  have I5':=I5.pinned (stat fr5) (T.obj _ _ VR)
  refine wpAny_passesOwn hp (gw (hg _ s5 σ3 H5 x u _ I5' r5 (step x H5 y5)) fun _ s6 ⟨σ6,H6,I6,q6⟩=>?_)
  refine wpAny_passesOwn hp (gw (hb _ s6 σ6 H6 _ I6 q6) fun f s7 q7=>?_)
  have again:∀{σ7:St} {H7:Hp},Inv X (pins++nQ fp s5.heap) σ7 H7 s7→N σ7 H7→∃m,m<n∧∃i σ' H',Inv X pins σ' H' s7∧tn i s7.heap∧(∀b∈fp,H' b=none)∧W i m σ' H':=fun{σ7 H7} I7 n7=>by
   obtain⟨m',hm,w7⟩:=hN σ7 H7 n7
   refine⟨m',hm,i+1,σ7,H7,I7.pX,T.keep _ _ _ VR fun b hb o e=>(I7.pin (b,o) (List.mem_append_right _ (List.mem_append_right _ (iW hb e)))).1,fun b hb=>?_,w7⟩
   obtain⟨o,e,d⟩:=T.obj _ _ VR b hb
   exact(I7.pin (b,o) (List.mem_append_right _ (List.mem_append_right _ (iW hb e)))).2.1
  cases f with
  | next=>obtain⟨σ7,H7,I7,n7⟩:=q7;exact again I7 n7
  | cont=>obtain⟨σ7,H7,I7,n7⟩:=q7;exact again I7 n7
  | brk=>obtain⟨σ7,H7,I7,q7⟩:=q7;exact⟨σ7,H7,I7.pX,q7⟩
  | ret v=>obtain⟨x7,σ7,H7,I7,r7,q7⟩:=q7;exact⟨x7,σ7,H7,I7.pX,r7,q7⟩
end
end L2
namespace L2
open PySem PySem.Spec PyProof.Rows
noncomputable abbrev R2:=V→V→Hp→VK→Prop
noncomputable def oK(X:Cx)(f:Value→Value→Sem Value)(r:R2):Prop:=
 ∀(pins:List (Addr×Obj)) (s:Shared) (σ:St) (H:Hp) (x y:V) (v u:Value) (Q:VK),Inv X pins σ H s→RelV x v→RelV y u→r x y H Q→
  wpAny (model X.prog X.w) X.A (f v u) (EP X pins σ Q) X.xe s
noncomputable def UnR(X:Cx)(f:Value→Sem Value)(r:V→Hp→VK→Prop):Prop:=
 ∀(pins:List (Addr×Obj)) (s:Shared) (σ:St) (H:Hp) (x:V) (v:Value) (Q:VK),Inv X pins σ H s→RelV x v→r x H Q→
  wpAny (model X.prog X.w) X.A (f v) (EP X pins σ Q) X.xe s
noncomputable def jZ(X:Cx)(f:Value)(r:List V→Hp→VK→Prop):Prop:=
 ∀(pins:List (Addr×Obj)) (s:Shared) (σ:St) (H:Hp) (xs:List V) (us:List Value) (Q:VK),Inv X pins σ H s→Vals xs us→r xs H Q→
  wpAny (model X.prog X.w) X.A (call f us) (EP X pins σ Q) X.xe s
noncomputable def tOp(r:R2)(ta tb:TE):TE:=fun σ H Q=>ta σ H fun x H1=>tb σ H1 fun y H2=>r x y H2 Q
noncomputable def tUn(r:V→Hp→VK→Prop)(ta:TE):TE:=fun σ H Q=>ta σ H fun x H1=>r x H1 Q
noncomputable def rI(C:Int→Int→Prop)(g:Int→Int→V):R2:=fun x y H Q=>∃i j,x = .int i∧y = .int j∧C i j∧Q (g i j) H
noncomputable def Jw(g:Int→Int→V):R2:=fun x y H Q=>∃i j,x = .int i∧y = .int j∧Q (g i j) H
noncomputable def rU(g:Int→V):V→Hp→VK→Prop:=fun x H Q=>∃i,x = .int i∧Q (g i) H
section
variable{X:Cx}{a b c:Expr}{ta tb tc:TE}{pos:Pos}
theorem aeb(ha:PE X a ta)(hb:PE X b tb){pins:List (Addr×Obj)}{s:Shared}{σ:St}{H:Hp}{R:V→V→Hp→Prop}(I:Inv X pins σ H s)
  (h:ta σ H fun x H1=>tb σ H1 fun y H2=>R x y H2) {Q:Value→Shared→Prop} {f:Value→Value→Sem Value}
  (hf:∀v u s2 x y H2,Inv X pins σ H2 s2→RelV x v→RelV y u→R x y H2→wpAny (model X.prog X.w) X.A (f v u) Q X.xe s2) :
  wpAny (model X.prog X.w) X.A (eval a X.env) (fun v s₁=>wpAny (model X.prog X.w) X.A (eval b X.env) (fun u s₂=>wpAny (model X.prog X.w) X.A (f v u) Q X.xe s₂) X.xe s₁) X.xe s:=by
 refine gw (ha pins s σ H _ I h) fun v s1 ⟨x,H1,I1,r1,q1⟩=>?_
 refine gw (hb pins s1 σ H1 _ I1 q1) fun u s2 ⟨y,H2,I2,r2,q2⟩=>?_
 exact hf v u s2 x y H2 I2 r1 r2 q2
theorem YT{op:Operator}{r:R2}(ho:oK X (binaryOp op) r)(ha:PE X a ta)(hb:PE X b tb):PE X (.BinOp a op b pos) (tOp r ta tb):=by
 intro pins s σ H Q I h
 exact wpAny_BinOp (aeb ha hb I h fun v u s2 x y H2 I2 rx ry q=>ho pins s2 σ H2 x y v u Q I2 rx ry q)
theorem YS{op:UnaryOp}{r:V→Hp→VK→Prop}(ho:UnR X (unaryOp op) r)(ha:PE X a ta):PE X (.UnaryOp op a pos) (tUn r ta):=by
 intro pins s σ H Q I h
 exact UnaryOp_ (gw (ha pins s σ H _ I h) fun v s1 ⟨x,H1,I1,r1,q1⟩=>ho pins s1 σ H1 x v Q I1 r1 q1)
theorem opI{f:Value→Value→Sem Value}{C:Int→Int→Prop}{g:Int→Int→Int}
  (rule:∀(i j:Int) (t u:Tok) (s:Shared) (Q:Value→Shared→Prop) (E:Value→Shared→Prop),C i j→Q (.int (g i j) s.toks) { s with toks:=s.toks+1 }→wpAny (model X.prog X.w) X.A (f (.int i t) (.int j u)) Q E s) :
  oK X f (rI C fun i j=>.int (g i j)):=by
 intro pins s σ H x y v u Q I rx ry h
 obtain⟨i,j,rfl,rfl,hc,q⟩:=h
 obtain⟨t,rfl⟩:=rx
 obtain⟨t',rfl⟩:=ry
 exact rule i j t t' s _ _ hc ⟨.int (g i j),H,I.tok _,⟨_,rfl⟩,q⟩
theorem abk{f:Value→Value→Sem Value}{g:Int→Int→Int}
  (rule:∀(i j:Int) (t u:Tok) (s:Shared) (Q:Value→Shared→Prop) (E:Value→Shared→Prop),Q (.int (g i j) s.toks) { s with toks:=s.toks+1 }→wpAny (model X.prog X.w) X.A (f (.int i t) (.int j u)) Q E s) :
  oK X f (Jw fun i j=>.int (g i j)):=by
 intro pins s σ H x y v u Q I rx ry h
 obtain⟨i,j,rfl,rfl,q⟩:=h
 obtain⟨t,rfl⟩:=rx
 obtain⟨t',rfl⟩:=ry
 exact rule i j t t' s _ _ ⟨.int (g i j),H,I.tok _,⟨_,rfl⟩,q⟩
theorem abl{f:Value→Value→Sem Value}{g:Int→Int→Bool}
  (rule:∀(i j:Int) (t u:Tok) (s:Shared) (Q:Value→Shared→Prop) (E:Value→Shared→Prop),Q (.bool (g i j)) s→wpAny (model X.prog X.w) X.A (f (.int i t) (.int j u)) Q E s) :
  oK X f (Jw fun i j=>.bl (g i j)):=by
 intro pins s σ H x y v u Q I rx ry h
 obtain⟨i,j,rfl,rfl,q⟩:=h
 obtain⟨t,rfl⟩:=rx
 obtain⟨t',rfl⟩:=ry
 exact rule i j t t' s _ _ ⟨.bl (g i j),H,I,rfl,q⟩
noncomputable def akE(i j:Int):Prop:=0<j∧j<1073741824
noncomputable def YC(i j:Int):Prop:=0≤j∧j≤1000000∧i.natAbs<2^64
theorem JK(k:Nat):(0:Int)≤2^k:=by
 rw[two_pow_cast]
 exact Int.natCast_nonneg _
theorem abj:oK X (binaryOp .Add) (Jw fun i j=>.int (i+j)):=abk fun _ _ _ _ _ _ _ q=>add_int q
theorem aa4:oK X (binaryOp .Sub) (Jw fun i j=>.int (i - j)):=abk fun _ _ _ _ _ _ _ q=>sub_int q
theorem aa9:oK X (binaryOp .Mod) (rI (fun _ j=>0<j) fun i j=>.int (i % j)):=opI fun i j _ _ _ _ _ hc q=>by
 have h1:(0:Int)<j:=hc
 exact mod_int' (by omega) (by rw[Int.fmod_eq_emod_of_nonneg i (by omega)];exact q)
theorem aa7:oK X (binaryOp .Pow) (rI YC fun i j=>.int (i^j.toNat)):=opI fun _ _ _ _ _ _ _ hc q=>pow_int_small hc.1 hc.2.1 hc.2.2 q
theorem aa6:oK X (binaryOp .LShift) (rI YC fun i j=>.int (i*2^j.toNat)):=opI fun _ _ _ _ _ _ _ hc q=>lshift_int_small hc.1 hc.2.1 hc.2.2 q
theorem aa5:oK X (binaryOp .RShift) (rI (fun _ j=>0≤j) fun i j=>.int (i / 2^j.toNat)):=opI fun i j _ _ _ _ _ hc q=>
 rshift_int hc (by rw[Int.fdiv_eq_ediv_of_nonneg i (JK _)];exact q)
theorem abi:oK X (binaryOp .BitAnd) (Jw fun i j=>.int (Builtin.bitAnd i j)):=abk fun _ _ _ _ _ _ _ q=>and_int q
theorem unI{f:Value→Sem Value}{g:Int→Int}
  (rule:∀(i:Int) (t:Tok) (s:Shared) (Q:Value→Shared→Prop) (E:Value→Shared→Prop),Q (.int (g i) s.toks) { s with toks:=s.toks+1 }→wpAny (model X.prog X.w) X.A (f (.int i t)) Q E s) :
  UnR X f (rU fun i=>.int (g i)):=by
 intro pins s σ H x v Q I rx h
 obtain⟨i,rfl,q⟩:=h
 obtain⟨t,rfl⟩:=rx
 exact rule i t s _ _ ⟨.int (g i),H,I.tok _,⟨_,rfl⟩,q⟩
theorem QW:UnR X (unaryOp .USub) (rU fun i=>.int (-i)):=unI fun _ _ _ _ _ q=>neg_int q
end
theorem ad0{i j:Bool}:decide (V.bl i=V.bl j)=(i == j):=by
 rw[Bool.eq_iff_iff]
 simp
section
variable{X:Cx}{a b c:Expr}{ta tb tc:TE}{pos:Pos}
theorem vI{pins:List (Addr×Obj)}{σ:St}{H:Hp}{s:Shared}{Q:VK}{k k':Bool}(I:Inv X pins σ H s)(q:Q (.bl k) H)(e:k=k'):EP X pins σ Q (.bool k') s:=by
 subst e
 exact⟨.bl k,H,I,rfl,q⟩
theorem af6:oK X (compareOp .Lt) (Jw fun i j=>.bl (decide (i<j))):=abl fun _ _ _ _ _ _ _ q=>lt_int q
theorem af7:oK X (compareOp .LtE) (Jw fun i j=>.bl (decide (i≤j))):=abl fun _ _ _ _ _ _ _ q=>le_int q
theorem af8:oK X (compareOp .Gt) (Jw fun i j=>.bl (decide (j<i))):=abl fun _ _ _ _ _ _ _ q=>gt_int q
theorem Pq:oK X (compareOp .Lt) (fun x y H Q=>∃i j,x = .str i∧y = .str j∧Q (.bl (decide (i.cps.toList<j.cps.toList))) H):=by
 intro pins s σ H x y v u Q I rx ry h
 obtain⟨i,j,rfl,rfl,q⟩:=h
 obtain⟨t,rfl⟩:=rx
 obtain⟨t',rfl⟩:=ry
 exact lt_str (vI I q rfl)
theorem Px:oK X (compareOp .In) (fun x y H Q=>∃i j,x = .str i∧y = .str j∧Q (.bl (!(Builtin.Str.occurrences j i 0 j.length 1).isEmpty)) H):=by
 intro pins s σ H x y v u Q I rx ry h
 obtain⟨i,j,rfl,rfl,q⟩:=h
 obtain⟨t,rfl⟩:=rx
 obtain⟨t',rfl⟩:=ry
 exact in_str (vI I q rfl)
theorem abb:oK X (compareOp .Is) (fun x y H Q=>y = .non∧Q (.bl (decide (x = .non))) H):=by
 intro pins s σ H x y v u Q I rx ry h
 obtain⟨rfl,q⟩:=h
 cases ry
 refine is_none_gen (vI I q ?_)
 cases x<;>first
  | (cases rx;rfl)
  | (obtain⟨t,rfl⟩:=rx;rfl)
theorem WM:oK X (compareOp .IsNot) (fun x y H Q=>y = .non∧Q (.bl (!decide (x = .non))) H):=by
 intro pins s σ H x y v u Q I rx ry h
 obtain⟨rfl,q⟩:=h
 cases ry
 refine isnot_none_gen (vI I q ?_)
 cases x<;>first
  | (cases rx;rfl)
  | (obtain⟨t,rfl⟩:=rx;rfl)
theorem Fx:oK X (compareOp .NotIn) (fun x y H Q=>∃i j,x = .str i∧y = .str j∧Q (.bl (!(!(Builtin.Str.occurrences j i 0 j.length 1).isEmpty))) H):=by
 intro pins s σ H x y v u Q I rx ry h
 obtain⟨i,j,rfl,rfl,q⟩:=h
 obtain⟨t,rfl⟩:=rx
 obtain⟨t',rfl⟩:=ry
 exact notIn_str (vI I q rfl)
theorem oK.or{f:Value→Value→Sem Value}{r r':R2}(h:oK X f r)(h':oK X f r'):oK X f (fun x y H Q=>r x y H Q∨r' x y H Q):=by
 intro pins s σ H x y v u Q I rx ry q
 rcases q with q|q
 ·exact h pins s σ H x y v u Q I rx ry q
 ·exact h' pins s σ H x y v u Q I rx ry q
theorem M3{op:CmpOp}{r:R2}(ho:oK X (compareOp op) r)(ha:PE X a ta)(hb:PE X b tb)(hm:behindInMarks op b=false):PE X (.Compare a [op] [b] pos) (tOp r ta tb):=by
 intro pins s σ H Q I h
 exact wpAny_Compare1 (aeb ha hb I h fun v u s2 x y H2 I2 rx ry q=>ho pins s2 σ H2 x y v u Q I2 rx ry q) hm
noncomputable def aew(t:TE):TT:=fun σ H Q=>t σ H fun x H'=>∃k,x = .bl k∧Q k H'
theorem MK{op:CmpOp}{r:R2}(ho:oK X (compareOp op) r)(ha:PE X a ta)(hb:PE X b tb)(hm:behindInMarks op b=false):PT X (.Compare a [op] [b] pos) (aew (tOp r ta tb)):=by
 intro pins s σ H Q I h
 refine wpAny_isTrue_Compare1 (gw (ha pins s σ H _ I h) fun v s1 ⟨x,H1,I1,r1,q1⟩=>gw (hb pins s1 σ H1 _ I1 q1) fun u s2 ⟨y,H2,I2,r2,q2⟩=>
  gw (ho pins s2 σ H2 x y v u _ I2 r1 r2 q2) fun c s3 ⟨z,H3,I3,r3,k,e,q3⟩=>?_) hm
 subst e
 cases r3
 exact wpAny_truthy_bool ⟨H3,I3,q3⟩
theorem acG{κ:Type}{kvs:List (κ×V)}{vs:List (κ×Value)}(r:KV kvs vs):(!vs.isEmpty) = !kvs.isEmpty:=by
 cases r<;>rfl
theorem acF{xs:List V}{its:List Value}(r:Vals xs its):(!its.toArray.isEmpty) = !xs.isEmpty:=by
 cases r<;>simp
theorem Az:(sizeLine:Nat)<2^63:=by rw[sizeLine_eq];decide
theorem Kr:oK X (binaryOp .Add) (fun x y H Q=>∃i j,x = .str i∧y = .str j∧i.length+j.length≤sizeLine∧Q (.str (i++j)) H):=by
 intro pins s σ H x y v u Q I rx ry h
 obtain⟨i,j,rfl,rfl,hz,q⟩:=h
 obtain⟨t,rfl⟩:=rx
 obtain⟨t',rfl⟩:=ry
 exact add_str (fun t' tk=>⟨.str (i++j),H,I.tok _,⟨_,rfl⟩,q⟩) hz
theorem vals1{x:V}{us:List Value}(r:Vals [x] us):∃u,us=[u]∧RelV x u:=by
 cases r with
 | cons r1 r2=>cases r2;exact⟨_,rfl,r1⟩
theorem vals2{x y:V}{us:List Value}(r:Vals [x,y] us):∃u w',us=[u,w']∧RelV x u∧RelV y w':=by
 cases r with
 | cons r1 r2=>
  cases r2 with
  | cons r3 r4=>cases r4;exact⟨_,_,rfl,r1,r3⟩
noncomputable def akz(K:PySem.W.Frag)(x:V)(H:Hp)(n:Nat):Prop:=
 match x with
 | .str y=>y.length≤sizeLine∧n=y.length
 | .byt y=>y.size≤sizeLine∧n=y.size
 | .ref p=>(∃xs,jY K H p xs∧n=xs.length)∨∃xs,oM K H p xs∧n=xs.length
 | _=>False
theorem UW:jZ X (.builtin "len") (fun xs H Q=>∃x n,xs=[x]∧akz X.K x H n∧Q (.int n) H):=by
 intro pins s σ H xs us Q I r h
 obtain⟨x,n,rfl,e,q⟩:=h
 obtain⟨u,rfl,rx⟩:=vals1 r
 have hl:=Az
 have hs:sizeLine=16777216:=sizeLine_eq
 cases x with
 | str y=>
  obtain⟨t,rfl⟩:=rx
  obtain⟨hy,e'⟩:y.length≤sizeLine∧n=y.length:=e
  subst e'
  exact len_str (by omega) ⟨.int _,H,I.tok _,⟨_,rfl⟩,q⟩
 | byt y=>
  obtain⟨t,rfl⟩:=rx
  obtain⟨hy,e'⟩:y.size≤sizeLine∧n=y.size:=e
  subst e'
  exact PySem.W.len_bytes (by omega) ⟨.int _,H,I.tok _,⟨_,rfl⟩,q⟩
 | ref p=>
  cases rx
  have e':(∃xs,jY X.K H p xs∧n=xs.length)∨∃xs,oM X.K H p xs∧n=xs.length:=e
  rcases e' with ⟨xs,hx,e'⟩|⟨xs,hx,e'⟩
  ·subst e'
   obtain⟨its,r',pl,hz⟩:=I.list hx
   have hlen:=r'.length
   exact Calls.call_len_list pl.isList (by simp only[List.size_toArray];omega) ⟨.int xs.length,H,I.tok _,⟨_,by simp only[List.size_toArray];rw[hlen]⟩,q⟩
  ·subst e'
   obtain⟨its,r',pl,hz⟩:=I.tuple hx
   have hlen:=r'.length
   exact len_tuple pl (by simp only[List.size_toArray];omega) ⟨.int xs.length,H,I.tok _,⟨_,by simp only[List.size_toArray];rw[hlen]⟩,q⟩
 | _=>exact(show False from e).elim
theorem Jl:jZ X (.builtin "divmod") (fun xs H Q=>∃i j,xs=[.int i,.int j]∧akE i j∧∀p,H p=none→Q (.ref p) (upd H p (.tup [.int (i / j),.int (i % j)]))):=by
 intro pins s σ H xs us Q I r h
 obtain⟨i,j,rfl,⟨h1,h2⟩,q⟩:=h
 obtain⟨u,w',rfl,⟨t,rfl⟩,⟨t',rfl⟩⟩:=vals2 r
 refine divmod_int (by omega) ?_ (.inl (PyProof.noPylong_small (by omega)))
 rw[Int.fdiv_eq_ediv_of_nonneg i (by omega),Int.fmod_eq_emod_of_nonneg i (by omega)]
 have hn:H s.heap.objs.size=none:=I.hok.fresh (Nat.le_refl _)
 refine⟨.ref s.heap.objs.size,_,?_,rfl,q _ hn⟩
 refine I.laid (fun b o e=>Heap.get?_push_of_some _ e) (Nat.le_refl _) ⟨by simp only[List.length_cons,List.length_nil];rw[sizeLine_eq];decide,[.int (i / j) s.toks,.int (i % j) (s.toks+1)],.cons ⟨_,rfl⟩ (.cons ⟨_,rfl⟩ .nil),?_⟩
 exact⟨_,Heap.get?_push_size s.heap rfl,rfl,⟨0,rfl⟩,rfl⟩
end
end L2
namespace L2
open PySem PySem.Spec PyProof.Rows
theorem Df.some_of{v:V}{o:Option Value}(r:Df (some v) o):∃u,o=some u∧RelV v u:=by
 cases o with
 | none=>exact(show False from r).elim
 | some u=>exact⟨u,rfl,r⟩
end L2
namespace L2
open PySem PySem.Spec PyProof.Rows
structure iZ(k:Nat)(A:Around):Prop where
 hd:A.handled=none
 dp:A.depth+3*k+5<recursionLimit
 un:A.units+16*k+200<cLine
theorem iZ.mono{j k:Nat}{A:Around}(r:iZ k A)(h:j≤k):iZ j A:=⟨r.hd,by have:=r.dp;omega,by have:=r.un;omega⟩
theorem iZ.deeper{k:Nat}{A:Around}(r:iZ (k+1) A)(env:Env):iZ k (A.deeper env):=
 ⟨r.hd,by have:=r.dp;show A.depth+1+3*k+5<_;omega,by have:=r.un;show A.units+3+16*k+200<_;omega⟩
theorem iZ.depth{k:Nat}{A:Around}(r:iZ k A):A.depth<recursionLimit:=by have:=r.dp;omega
theorem iZ.units{k:Nat}{A:Around}(r:iZ k A):A.units+64<cLine:=by have:=r.un;omega
noncomputable def ak9:TA:=fun _ H Q=>Q [] H
noncomputable def aeD(ta:TE)(tr:TA):TA:=fun σ H Q=>ta σ H fun x H1=>tr σ H1 fun xs H2=>Q (x::xs) H2
section
variable{X:Cx}{e:Expr}{es:List Expr}{te:TE}{t:TA}{pos:Pos}
theorem uP:PA X [] ak9:=fun _ _ _ _ H Q I h=>Calls.spliced_nil ⟨[],H,I,.nil,h⟩
theorem lW(ha:PE X e te)(hr:PA X es t)(hs:starEach (e::es) X.env=(false,eval e X.env)::starEach es X.env:=by rfl):PA X (e::es) (aeD te t):=by
 intro pos pins s σ H Q I h
 rw[hs]
 show wpAny _ _ (spliced ((false,eval e X.env)::backTo pos (starEach es X.env))) _ _ s
 refine Calls.spliced_cons (gw (ha pins s σ H _ I h) fun u s1 ⟨x,H1,I1,r1,q1⟩=>?_)
 exact gw (hr pos pins s1 σ H1 _ I1 q1) fun us s2 ⟨xs,H2,I2,r2,q2⟩=>⟨x::xs,H2,I2,.cons r1 r2,q2⟩
noncomputable def ak2(t:TA):TE:=fun σ H Q=>t σ H fun xs H1=>xs.length≤sizeLine∧∀p,H1 p=none→Q (.ref p) (upd H1 p (.tup xs))
noncomputable def ala(t:TA):TE:=fun σ H Q=>t σ H fun xs H1=>xs.length≤sizeLine∧∀p,H1 p=none→Q (.ref p) (upd H1 p (.lst xs))
theorem aaV{x1}(h:PA X es t):PE X (.Tuple es x1 pos) (ak2 t):=by
 intro pins s σ H Q I hq
 refine wpAny_Tuple_spliced (gw (h pos pins s σ H _ I hq) fun us s1 ⟨xs,H1,I1,r,z,q⟩=>⟨by rw[←r.length];exact z,?_⟩)
 have hf:H1 s1.heap.objs.size=none:=I1.hok.fresh (Nat.le_refl _)
 refine⟨.ref s1.heap.objs.size,upd H1 s1.heap.objs.size (.tup xs),I1.laid (t':=s1.toks) (fun b u e=>Heap.get?_push_of_some _ e) (Nat.le_refl _) ?_,rfl,q _ hf⟩
 exact⟨z,us,r,De.new _ _⟩
theorem aa1(h:PA X es t):PE X (.List es pos) (ala t):=by
 intro pins s σ H Q I hq
 refine wpAny_List_spliced (gw (h pos pins s σ H _ I hq) fun us s1 ⟨xs,H1,I1,r,z,q⟩=>⟨by rw[←r.length];exact z,?_⟩)
 have hf:H1 s1.heap.objs.size=none:=I1.hok.fresh (Nat.le_refl _)
 refine⟨.ref s1.heap.objs.size,upd H1 s1.heap.objs.size (.lst xs),I1.laid (t':=s1.toks) (fun b u e=>Heap.get?_push_of_some _ e) (Nat.le_refl _) ?_,rfl,q _ hf⟩
 exact⟨z,us,0,r,Heap.get?_push_size _ rfl⟩
end
noncomputable abbrev Sp:=List V→Hp→VK→XK→Prop
noncomputable abbrev YB:=List Env→Hp→Shared→XK→Value→Shared→Prop
structure Yz(P:Program)(w:World)(K:PySem.W.Frag)(mg:Str→Option Value)(base:Heap)(A:Around)(outer:List Env)(s:Shared)(H:Hp):Prop where
 frames:A.frames=some outer
 mod:Mod K mg base
 bs:∀b o,base.get? b=some o→s.heap.get? b=some o∧H b=none
 Z0:base.objs.size≤s.heap.objs.size
 Bm:s.heap.FunFrames base outer
 frf:∀b∈frs outer,H b=none
 hok:xC P w H s.heap
 bare:AllBare s.gens
noncomputable def CE(outer:List Env)(P:Program)(w:World)(H:Hp)(s:Shared)(Q:VK)(u:Value)(s':Shared):Prop:=
 ∃v H',s'.os=s.os∧AllBare s'.gens∧Un (frs outer) [] H H' s.heap s'.heap∧xC P w H' s'.heap∧RelV v u∧Q v H'
noncomputable def CR(CX:YB)(outer:List Env)(P:Program)(w:World)(H:Hp)(s:Shared)(Q:VK)(E:XK)(r:Result)(s':Shared):Prop:=
 match r with
 | .ok (.ret u)=>CE outer P w H s Q u s'
 | .ok _=>False
 | .error e=>CX outer H s E e s'
structure rF(P:Program)(w:World)(K:PySem.W.Frag)(mg:Str→Option Value)(base:Heap)(CX:YB)(k:Nat)(f:Addr)(fd:FuncData)(ps:List Str)(sp:Sp):Prop where
 len:∀vs H Q E,sp vs H Q E→vs.length=ps.length
 run:∀(A:Around) (outer:List Env) (s:Shared) (H:Hp) (args:Args) (us:List Value) (vs:List V) (Q:VK) (E:XK),iZ k A→Yz P w K mg base A outer s H→BindsTo s fd args (ps.zip us)→Vals vs us→sp vs H Q E→
  codeAny (model P w) A (.call (.ref f) args) (CR CX outer P w H s Q E) s
section
variable{X:Cx}{pins:List (Addr×Obj)}{σ:St}{H:Hp}{s s':Shared}
theorem Inv.env0(I:Inv X pins σ H s):Yz X.prog X.w X.K X.mg X.base X.A X.stack s H:=
 ⟨I.ok.frames,I.ok.mod,I.bs,Nat.le_trans I.ok.Z0 I.sz,I.stack,I.Mt,I.hok,I.bare⟩
theorem Inv.after{Q:VK}{u:Value}(I:Inv X pins σ H s)(h:CE X.stack X.prog X.w H s Q u s'):EP X pins σ Q u s':=by
 obtain⟨v,H',os,bare,un,hok,r,q⟩:=h
 obtain⟨hh,g,d,t,os'⟩:=s'
 obtain rfl:os'=s.os:=os
 exact⟨v,H',I.call (h':=hh) (g':=g) (d':=d) (t':=t) (ch:=[]) un hok bare (fun b z=>absurd z (by simp)),r,q⟩
end
noncomputable def aeE(sp:Sp)(Zj:List V)(E:XK)(t:TA):TE:=fun σ H Q=>t σ H fun vs H1=>sp (vs++Zj) H1 Q E
noncomputable def Binds(K:PySem.W.Frag)(fd:FuncData)(ps:List Str)(ds:List Value):Prop:=
 ∀(s:Shared) (us:List Value),K.In s.heap→(us++ds).length=ps.length→BindsTo s fd ⟨us,[]⟩ (ps.zip (us++ds))
theorem Binds.all{K:PySem.W.Frag}{fd:FuncData}{ps:List Str}(h:∀us:List Value,us.length=ps.length→bindArgs fd ⟨us,[]⟩=pure (ps.zip us)):Binds K fd ps []:=fun s us _ hl=>by
 rw[List.append_nil] at hl ⊢
 exact .of_eq (h us hl)
noncomputable def Passes(CX:YB)(X:Cx)(E:XK):Prop:=∀(pins:List (Addr×Obj)) (σ:St) (H:Hp) (s:Shared) (e:Value) (s':Shared),Inv X pins σ H s→CX X.stack H s E e s'→X.xe e s'
section
variable{X:Cx}{CX:YB}{k:Nat}{f C:Addr}{fd:FuncData}{ps:List Str}{sp:Sp}{Zj:List V}{ds:List Value}{E:XK}{x m:Str}{p pos apos:Pos}{e o:Expr}{es:List Expr}{ta:TE}{t:TA}
theorem aaC{pins:List (Addr×Obj)}{σ:St}{H:Hp}{s:Shared}{Q:VK}{us:List Value}{vs:List V}(F:rF X.prog X.w X.K X.mg X.base CX k f fd ps sp)(hr:iZ k X.A)(hb:Binds X.K fd ps ds)(hd:Vals Zj ds)(hx:Passes CX X E)
  (I:Inv X pins σ H s) (r:Vals vs us) (h:sp (vs++Zj) H Q E):wpAny (model X.prog X.w) X.A (call (.ref f) us) (EP X pins σ Q) X.xe s:=by
 have r2:Vals (vs++Zj) (us++ds):=r.append hd
 have hl:(us++ds).length=ps.length:=by rw[←r2.length];exact F.len _ _ _ _ h
 refine wpAny_call (codeAny_mono (F.run X.A X.stack s H ⟨us,[]⟩ (us++ds) (vs++Zj) Q E hr I.env0 (hb s us I.kIn hl) r2 h) fun r s' hq=>?_)
 cases r with
 | error e=>exact hx pins σ H s e s' I hq
 | ok fl=>
  cases fl with
  | ret u=>exact I.after hq
  | next=>exact False.elim hq
  | brk=>exact False.elim hq
  | cont=>exact False.elim hq
theorem zF(F:rF X.prog X.w X.K X.mg X.base CX k f fd ps sp)(hr:iZ k X.A)(hg:Gl X x)(hm:X.mg x=some (.ref f))(hk:PySem.W.keepIn X.K (.ref f)=true)(hb:Binds X.K fd ps ds)(hd:Vals Zj ds)(hx:Passes CX X E)
  (ha:PA X (e::es) t) (hdb:(x == ("__debug__" : Str))=false:=by decide) (he:starEach (e::es) X.env=(false,eval e X.env)::starEach es X.env:=by rfl) (hpl:(backTo pos (starEach es X.env)).any (·.1)=false:=by rfl) :
  PE X (.Call (.Name x p) (e::es) [] pos) (aeE sp Zj E t):=by
 intro pins s σ H Q I h
 refine wpAny_Call_Name_kw (M6 I hg hm ?_ hdb)
 refine PySem.W.callWith_K (h₀:=X.base) I.ok.mod.kin hk (gw (ha pos pins s σ H _ I h) fun us s1 ⟨vs,H1,I1,r,q⟩=>⟨I1.kIn,?_⟩) he hpl
 exact aaC F hr hb hd hx I1 r q
end
structure bC(N P:List Str)(sc:Scope):Prop where
 kind:sc.kind = .function
 co:sc.isCoroutine=false
 gen:sc.isGenerator=false
 nd:N.Nodup
 pre:N.take P.length=P
 par:∀x∈P,sc.names.lookup x=some .local∨sc.names.lookup x=some .cell
 abz:∀y∈sc.names,y.2 ≠ .free
theorem Eb{kindOf:Str→Option NameKind}{x:Str}:∀{binds:List (Str×Value)} {m:Str→Option Value},(∀v,(x,v) ∉ binds)→bindL kindOf binds m x=m x
 | [],_,_=>rfl
 | (n,v)::r,m,h=>by
  unfold bindL
  rw[Eb fun w hw=>h w (List.mem_cons_of_mem _ hw)]
  split
  ·have:x≠n:=by rintro rfl;exact h v List.mem_cons_self
   simp[this]
  ·rfl
theorem Ed{kindOf:Str→Option NameKind}{x:Str}:∀{binds:List (Str×Value)} {m:Str→Option Value},(∀v,(x,v) ∉ binds)→bindC kindOf binds m x=m x
 | [],_,_=>rfl
 | (n,v)::r,m,h=>by
  unfold bindC
  rw[Ed fun w hw=>h w (List.mem_cons_of_mem _ hw)]
  split
  ·rfl
  ·have:x≠n:=by rintro rfl;exact h v List.mem_cons_self
   simp[this]
theorem Ec{kindOf:Str→Option NameKind}{x:Str}{v:Value}:∀{P:List Str} {vs:List Value} {i:Nat} {m:Str→Option Value},P.Nodup→P[i]? = some x→vs[i]? = some v→kindOf x=some .local→
  bindL kindOf (P.zip vs) m x=some v
 | [],_,_,_,_,h,_,_=>by simp at h
 | _::_,[],_,_,_,_,h,_=>by simp at h
 | p::P,w::vs,0,m,nd,h1,h2,hk=>by
  simp at h1 h2;subst h1;subst h2
  show bindL kindOf ((p,w)::P.zip vs) m p=_
  unfold bindL
  rw[Eb fun v hv=>(List.nodup_cons.mp nd).1 (List.of_mem_zip hv).1,if_pos hk]
  simp
 | p::P,w::vs,i+1,m,nd,h1,h2,hk=>by
  show bindL kindOf ((p,w)::P.zip vs) m x=_
  unfold bindL
  exact Ec (i:=i) (List.nodup_cons.mp nd).2 (by simpa using h1) (by simpa using h2) hk
theorem Ef{kindOf:Str→Option NameKind}{x:Str}{v:Value}:∀{P:List Str} {vs:List Value} {i:Nat} {m:Str→Option Value},P.Nodup→P[i]? = some x→vs[i]? = some v→kindOf x≠some .local→
  bindC kindOf (P.zip vs) m x=some v
 | [],_,_,_,_,h,_,_=>by simp at h
 | _::_,[],_,_,_,_,h,_=>by simp at h
 | p::P,w::vs,0,m,nd,h1,h2,hk=>by
  simp at h1 h2;subst h1;subst h2
  show bindC kindOf ((p,w)::P.zip vs) m p=_
  unfold bindC
  rw[Ed fun v hv=>(List.nodup_cons.mp nd).1 (List.of_mem_zip hv).1,if_neg hk]
  simp
 | p::P,w::vs,i+1,m,nd,h1,h2,hk=>by
  show bindC kindOf ((p,w)::P.zip vs) m x=_
  unfold bindC
  exact Ef (i:=i) (List.nodup_cons.mp nd).2 (by simpa using h1) (by simpa using h2) hk
noncomputable def start(N:List Str)(vs:List V):St:=vs.map some++List.replicate (N.length - vs.length) none
noncomputable def Lr(CX:YB)(P:Program)(w:World)(K:PySem.W.Frag)(mg:Str→Option Value)(base:Heap)(N:List Str)(qual:Str)(scope:Scope)(f:Addr)(cd:Value)(A:Around)(outer:List Env)(s:Shared)(H:Hp)(E:XK):Cx where
 prog:=P
 w:=w
 K:=K
 mg:=mg
 base:=base
 A:=A.deeper (envOfC qual scope s.heap.objs.size f cd)
 N:=N
 s₀:=s
 H₀:=H
 env:=envOfC qual scope s.heap.objs.size f cd
 outer:=outer
 stack:=envOfC qual scope s.heap.objs.size f cd::outer
 ex:=[]
 calm:=true
 fn:=fun _=>true
 pn:=[]
 xe:=fun e s'=>wpAny (model P w) (A.deeper (envOfC qual scope s.heap.objs.size f cd)) (leaving (envOfC qual scope s.heap.objs.size f cd) e) (fun _ s''=>CX outer H s E e s'') (fun e' s''=>CX outer H s E e' s'') s'
theorem Ji{sc:Scope}{n:Nat}{x:Str}(h:sc.names.lookup x=some .cell):∃c,(cellsFrom n sc.names []).lookup x=some c:=by
 have q:=PySem.W.cellsFrom_some sc.names n [] (.inl h)
 exact Option.isSome_iff_exists.mp q
theorem P0{CX:YB}{P:Program}{w:World}{K:PySem.W.Frag}{mg:Str→Option Value}{base:Heap}{N ps:List Str}{qual:Str}{scope:Scope}{f:Addr}{cd:Value}{A:Around}{outer:List Env}{s s1:Shared}{H:Hp}{E:XK}{us:List Value}{vs:List V}
  (S:bC N ps scope) (hd:A.handled=none) (e0:Yz P w K mg base A outer s H) (hl:vs.length=ps.length) (r:Vals vs us)
  (x:InCallC s s.heap.objs.size (bindL (envOfC qual scope s.heap.objs.size f cd).kindOf (ps.zip us) fun _=>none) (cellsFrom (s.heap.objs.size+1) scope.names []) (bindC (envOfC qual scope s.heap.objs.size f cd).kindOf (ps.zip us) fun _=>none) s1) :
  Inv (Lr CX P w K mg base N qual scope f cd A outer s H E) [] (start N vs) H s1:=by
 have hpl:ps.length≤N.length:=by have:=congrArg List.length S.pre;rw[List.length_take] at this;omega
 obtain⟨h1,tk,rfl,hk⟩:=x.done
 have noA:∀b:Addr,b ∉ (Lr CX P w K mg base N qual scope f cd A outer s H E).ex:=fun b z=>absurd (show b∈([]:List Addr) from z) (by simp)
 refine⟨⟨e0.mod,S.kind,rfl,rfl,Nat.le_refl _,fun y z c h1 h2=>?_,fun y hy=>?_,fun y c _ h=>?_,fun _=>hd,Around.frames_deeper e0.frames,.inr ⟨rfl,rfl⟩,fun b z=>absurd z (noA b),e0.bs,e0.Z0,fun b _ _=>noA b,fun b z=>absurd z (noA b),e0.Bm,e0.frf⟩,
  rfl,e0.bare,Un.kept hk,⟨_,x.toInCall.ns,fun i y v h1 h2 h3=>?_⟩,fun y c h=>⟨_,x.cell y c h⟩,e0.hok.fresh (Nat.le_refl _),fun y c h=>?_,fun p hp=>absurd (show p∈([]:List (Addr×Obj)) from hp) (by simp),e0.hok.kept hk,?_⟩
 ·exact name_of_addr x.apart (PySem.mem_of_lookup h1) (PySem.mem_of_lookup h2)
 ·have hy:scope.names.lookup y=some .cell∨scope.names.lookup y=some .free:=hy
  rcases hy with hy|hy
  ·exact Ji hy
  ·exact absurd rfl (S.abz _ (PySem.mem_of_lookup hy))
 ·exact Nat.le_of_lt (x.above y c (PySem.mem_of_lookup h))
 ·have hi:i<vs.length:=by
   unfold start at h2
   by_cases hi:i<vs.length
   ·exact hi
   ·rw[List.getElem?_append_right (by simpa using hi)] at h2
    rw[List.getElem?_replicate] at h2
    split at h2<;>cases h2
  have ha:vs[i]? = some v:=by
   unfold start at h2
   rw[List.getElem?_append_left (by simpa using hi),List.getElem?_map] at h2
   cases e:vs[i]? with
   | none=>rw[e] at h2;cases h2
   | some a=>rw[e] at h2;cases h2;rfl
  obtain⟨u,hu,rv⟩:=r.get ha
  have hp:ps[i]? = some y:=by
   rw[←S.pre,List.getElem?_take_of_lt (by omega)];exact h1
  have ndP:ps.Nodup:=by rw[←S.pre];exact S.nd.sublist (List.take_sublist _ _)
  refine⟨u,rv,?_⟩
  rcases S.par y (List.mem_of_getElem? hp) with k|k
  ·exact .inl ⟨k,Ec ndP hp hu k⟩
  ·obtain⟨c,e⟩:=Ji (n:=s.heap.objs.size+1) k
   refine .inr ⟨.inl k,c,e,?_⟩
   have q:=x.cell y c e
   rw[Ef ndP hp hu (by show scope.names.lookup y≠_;rw[k];decide)] at q
   exact q
 ·exact e0.hok.fresh (Nat.le_of_lt (x.above y c (PySem.mem_of_lookup h)))
 ·unfold start
  show _=N.length
  rw[List.length_append,List.length_map,List.length_replicate]
  omega
theorem aiL{CX:YB}{P:Program}{w:World}{K:PySem.W.Frag}{mg:Str→Option Value}{base:Heap}{k:Nat}{f:Addr}{name qual:Str}{params:Arguments}{body:List Stmt}{scope:Scope}{dV kV doc pm cdv ct oc:Value}{an od:Option Addr}
  {osl:Array (Option Value)} {N ps:List Str} {sp:Sp} (lk:K.lookup f=some ⟨oc,od,.func (PySem.W.fnOf name qual params body scope dV kV doc pm an cdv ct),osl⟩) (hcd:PySem.W.codeIn K cdv qual=true) (S:bC N ps scope)
  (len:∀vs H Q E,sp vs H Q E→vs.length=ps.length)
  (hbody:∀(A:Around) (outer:List Env) (s:Shared) (H:Hp) (vs:List V) (Q:VK) (E:XK),iZ k (A.deeper (envOfC qual scope s.heap.objs.size f cdv))→sp vs H Q E→
   ∃t,Js (Lr CX P w K mg base N qual scope f cdv A outer s H E) body t∧t { nx:=fun _ H'=>Q .non H',rt:=Q } (start N vs) H) :
  rF P w K mg base CX (k+1) f (PySem.W.fnOf name qual params body scope dV kV doc pm an cdv ct) ps sp:=by
 refine⟨len,fun A outer s H args us vs Q E hr e0 hb r hsp=>?_⟩
 have hl:=len _ _ _ _ hsp
 have KX:K.In s.heap:=e0.mod.kin.keeps fun b o e=>(e0.bs b o e).1
 have lim:s.heap.NoLimit:=e0.mod.nolimit.keeps fun b o e=>(e0.bs b o e).1
 have hkind:∀y∈ps.zip us,scope.names.lookup y.1=some .local∨(scope.names.lookup y.1=some .cell∧((cellsFrom (s.heap.objs.size+1) scope.names []).lookup y.1).isSome=true):=fun⟨n,v⟩ hy=>by
  rcases S.par n (List.of_mem_zip hy).1 with q|q
  ·exact .inl q
  ·exact .inr ⟨q,PySem.W.cellsFrom_some _ _ _ (.inl q)⟩
 refine codeAny_call_function hr.depth (KX _ _ lk) rfl S.co S.gen rfl (PySem.W.codeRec_of KX hcd) (hb _ _ _ _ ?_)
 refine wpAny_newFunctionEnv_cells S.kind hkind fun env he s1 x=>?_
 subst he
 refine⟨lim.keeps x.toInCall.keep,codeAny_func ?_⟩
 obtain⟨t,ht,hq⟩:=hbody A outer s H vs Q E (hr.deeper _) hsp
 have I:Inv (Lr CX P w K mg base N qual scope f cdv A outer s H E) [] (start N vs) H s1:=P0 S hr.hd e0 hl r x
 refine wpAny_mono (ht [] s1 (start N vs) H _ I hq) (fun fl s' hs=>?_) fun e s' hs=>hs
 have fin:∀{σ':St} {H':Hp} {v:V} {u:Value},Inv (Lr CX P w K mg base N qual scope f cdv A outer s H E) [] σ' H' s'→RelV v u→Q v H'→CE outer P w H s Q u s':=
  fun{σ' H' v u} J rv q=>⟨v,H',J.os,J.bare,J.base,J.hok,rv,q⟩
 cases fl with
 | ret u=>
  obtain⟨v,σ',H',J,rv,q⟩:=hs
  exact fin J rv q
 | next=>
  obtain⟨σ',H',J,q⟩:=hs
  exact fin (v:=V.non) (u:=Value.none) J rfl q
 | brk=>
  obtain⟨_,_,_,q⟩:=hs
  exact False.elim q
 | cont=>
  obtain⟨_,_,_,q⟩:=hs
  exact False.elim q
end L2
namespace L2
open PySem PySem.Spec PyProof.Rows
section
variable{X:Cx}{x:Str}{p pos:Pos}{e:Expr}{es:List Expr}{t:TA}{id T:String}{r:List V→Hp→VK→Prop}
noncomputable def tCB(r:List V→Hp→VK→Prop)(t:TA):TE:=fun σ H Q=>t σ H fun vs H1=>r vs H1 Q
theorem RT(hc:jZ X (.builtin id) r)(hg:Gl X x)(hm:X.mg x=none)(hv:bootBuiltins x=some (.builtin id))(ha:PA X (e::es) t)(hn:x ≠ "__name__":=by decide)(hdb:(x == ("__debug__" : Str))=false:=by decide)
  (he:starEach (e::es) X.env=(false,eval e X.env)::starEach es X.env:=by rfl) (hpl:(backTo pos (starEach es X.env)).any (·.1)=false:=by rfl):PE X (.Call (.Name x p) (e::es) [] pos) (tCB r t):=by
 intro pins s σ H Q I h
 refine wpAny_Call_Name_kw (uT I hg hm hv ?_ hn hdb)
 exact PyProof.Rows.callWith_builtin1 (gw (ha pos pins s σ H _ I h) fun us s1 ⟨vs,H1,I1,r1,q1⟩=>hc pins s1 σ H1 vs us Q I1 r1 q1) he hpl
theorem yc(hc:jZ X (.type T) r)(hg:Gl X x)(hm:X.mg x=none)(hv:bootBuiltins x=some (.type T))(ha:PA X (e::es) t)(hn:x ≠ "__name__":=by decide)(hdb:(x == ("__debug__" : Str))=false:=by decide)
  (he:starEach (e::es) X.env=(false,eval e X.env)::starEach es X.env:=by rfl) (hpl:(backTo pos (starEach es X.env)).any (·.1)=false:=by rfl):PE X (.Call (.Name x p) (e::es) [] pos) (tCB r t):=by
 intro pins s σ H Q I h
 refine wpAny_Call_Name_kw (uT I hg hm hv ?_ hn hdb)
 exact PyProof.Rows.callWith_type1 (gw (ha pos pins s σ H _ I h) fun us s1 ⟨vs,H1,I1,r1,q1⟩=>hc pins s1 σ H1 vs us Q I1 r1 q1) he hpl
end
end L2
namespace HT
open PySem PyProof.Rows
section
variable{prog:Program}{w:World}{A:Around}{E:Value→Shared→Prop}{s:Shared}
theorem Yq{t b:Addr}{vs ws:List Value}{Q:Value→Shared→Prop}(ht:IsTup s.heap t vs.toArray)(hb:IsTup s.heap b ws.toArray)(hv:vs≠[])
  (h1:ws=[]→Q (.ref t) s) (h2:ws≠[]→Q (.ref s.heap.objs.size) { s with heap:=s.heap.push { cls:=.type "tuple",data:=.seq (vs++ws).toArray } })
  (hsz:vs.length+ws.length≤sizeLine):wpAny (model prog w) A (binaryOp .Add (.ref t) (.ref b)) Q E s:=by
 obtain⟨⟨cls,dd,data,sl⟩,ho,hc,n,hd⟩:=id ht
 obtain⟨⟨cls2,dd2,data2,sl2⟩,ho2,hc2,n2,hd2⟩:=id hb
 simp only at hc hd hc2 hd2
 subst hc hd hc2 hd2
 have e:vs.toArray++ws.toArray=(vs++ws).toArray:=by simp
 by_cases hw:ws=[]
 ·exact concat_meets ⟨_,ho,rfl⟩ ⟨_,ho2,rfl⟩ noFill_tuple_add seq_tuple_add PySem.F.slot_tuple_add PySem.F.entry_tuple_add (PySem.F.args_tuple_add_2 _ _)
   (tuple_addW1 t b vs.toArray ws.toArray n n2 dd dd2 sl sl2 (by simpa using hv) (by simp[hw])) ⟨ho,ho2,h1 hw⟩
 ·refine concat_meets ⟨_,ho,rfl⟩ ⟨_,ho2,rfl⟩ noFill_tuple_add seq_tuple_add PySem.F.slot_tuple_add PySem.F.entry_tuple_add (PySem.F.args_tuple_add_2 _ _)
   (tuple_addW2 t b vs.toArray ws.toArray n n2 dd dd2 sl sl2 (by simpa using hv) (by simpa using hw) (by rw[List.size_toArray,List.size_toArray];exact hsz)) ⟨ho,ho2,?_⟩
  rw[e]
  exact h2 hw
noncomputable def fj(n d:Nat):Option Int→Nat
 | none=>d
 | some v=>if v<0 then (v+(n:Int)).toNat else min v.toNat n
theorem My(n d k:Nat):fj n d (some (k:Int))=min k n:=by
 show(if (k:Int)<0 then ((k:Int)+(n:Int)).toNat else min (k:Int).toNat n)=min k n
 rw[if_neg (by omega),Int.toNat_natCast]
theorem Fj(n d:Nat)(hd:d≤n)(o:Option Int):fj n d o≤n:=by
 cases o with
 | none=>exact hd
 | some v=>
  show(if v<0 then (v+(n:Int)).toNat else min v.toNat n)≤n
  by_cases hv:v<0
  ·rw[if_pos hv];omega
  ·rw[if_neg hv];exact Nat.min_le_right _ _
theorem Nz(v:Int)(n d:Nat):(if v<0 then max (v+(n:Int)) 0 else min v (n:Int))=((fj n d (some v):Nat):Int):=by
 show(if v<0 then max (v+(n:Int)) 0 else min v (n:Int))=(((if v<0 then (v+(n:Int)).toNat else min v.toNat n):Nat):Int)
 by_cases hv:v<0
 ·simp only[if_pos hv];omega
 ·simp only[if_neg hv];omega
theorem Mg(lo hi:Option Int)(n:Nat):Builtin.Slice.sliceAdjust lo hi 1 (n:Int)=(((fj n 0 lo:Nat):Int),((fj n n hi:Nat):Int)):=by
 have h1:¬((1:Int)<0):=by omega
 unfold Builtin.Slice.sliceAdjust
 simp only[h1,if_false]
 refine Prod.ext ?_ ?_
 ·cases lo with
  | none=>rfl
  | some v=>exact Nz v n 0
 ·cases hi with
  | none=>rfl
  | some v=>exact Nz v n n
theorem Kp(i j:Nat):Builtin.Slice.slicePlaces (i:Int) (j:Int) 1=j - i:=by
 unfold Builtin.Slice.slicePlaces
 have h1:(1:Int) > 0:=by omega
 simp only[h1,if_true,Int.ediv_one]
 split<;>omega
theorem z9{v:Value}{o:Option Int}{Q:Option Int→Shared→Prop}(p:IsPart v o)(h:Q o s):wpAny (model prog w) A (Builtin.Slice.slicePartIndex v) Q E s:=by
 cases p with
 | none=>exact slicePart_none h
 | int i t=>exact slicePart_int h
theorem pZ{sl:Addr}{vl vu:Value}{lo hi:Option Int}{n:Nat}{Q:Int×Int×Nat→Shared→Prop}(hs:s.heap.IsSliceOf sl vl vu .none)(pl:IsPart vl lo)(pu:IsPart vu hi)
  (h:Q (((fj n 0 lo:Nat):Int),1,fj n n hi - fj n 0 lo) s):wpAny (model prog w) A (Builtin.Slice.sliceApplied (.ref sl) (pure (n:Int))) Q E s:=by
 obtain⟨os,hos,hcs,hds⟩:=id hs
 unfold Builtin.Slice.sliceApplied Builtin.Slice.sliceFields
 refine wpAny_bind (wpAny_bind (wpAny_field hos hds (x:=vl) rfl (wpAny_bind (wpAny_field hos hds (x:=vu) rfl (wpAny_bind (wpAny_field hos hds (x:=.none) rfl (wpAny_pure ?_)))))))
 refine wpAny_bind (slicePart_none ?_)
 show wpAny _ _ (if ((1:Int) == 0)=true then _ else _) _ _ s
 rw[if_neg (by decide)]
 refine wpAny_bind (z9 pl (wpAny_bind (z9 pu (wpAny_bind (wpAny_pure ?_)))))
 show wpAny _ _ (match Builtin.Slice.sliceAdjust lo hi 1 (n:Int) with|(lo,hi)=>pure (lo,(1:Int),Builtin.Slice.slicePlaces lo hi 1)) _ _ s
 rw[Mg lo hi n]
 show wpAny _ _ (pure (((fj n 0 lo:Nat):Int),(1:Int),Builtin.Slice.slicePlaces ((fj n 0 lo:Nat):Int) ((fj n n hi:Nat):Int) 1)) _ _ s
 rw[Kp]
 exact wpAny_pure h
theorem RJ(xs:Array Value)(i k:Nat):((List.range k).filterMap fun(m:Nat)=>xs[((i:Int)+(m:Int)*1).toNat]?).toArray=((xs.toList.drop i).take k).toArray:=by
 have e:(fun(m:Nat)=>xs[((i:Int)+(m:Int)*1).toNat]?)=fun m=>xs[i+m]?:=by
  funext m
  have:((i:Int)+(m:Int)*1).toNat=i+m:=by omega
  rw[this]
 rw[e]
 have:=pick_run xs i k
 rw[List.filterMap_map] at this
 have e2:((fun x=>xs[x]?) ∘ fun x=>i+x)=fun m=>xs[i+m]?:=rfl
 rw[e2] at this
 rw[this]
theorem xj{t sl:Addr}{items:Array Value}{vl vu:Value}{lo hi:Option Int}{Q:Value→Shared→Prop}(ht:IsTup s.heap t items)(hs:s.heap.IsSliceOf sl vl vu .none)(pl:IsPart vl lo)(pu:IsPart vu hi)
  (hw:¬(fj items.size 0 lo=0∧fj items.size items.size hi=items.size))
  (h:Q (.ref s.heap.objs.size) { s with heap:=s.heap.push { cls:=.type "tuple",data:=.seq ((items.toList.drop (fj items.size 0 lo)).take (fj items.size items.size hi - fj items.size 0 lo)).toArray } })
  (hsz:items.size≤sizeLine):wpAny (model prog w) A (getItem (.ref t) (.ref sl)) Q E s:=by
 have Nh:sizeOk (.seq ((items.toList.drop (fj items.size 0 lo)).take (fj items.size items.size hi - fj items.size 0 lo)).toArray):=by
  show((items.toList.drop (fj items.size 0 lo)).take (fj items.size items.size hi - fj items.size 0 lo)).toArray.size≤sizeLine
  rw[List.size_toArray,List.length_take,List.length_drop,Array.length_toList]
  omega
 have hj:fj items.size items.size hi≤items.size:=Fj _ _ (Nat.le_refl _) hi
 obtain⟨os,hos,hcs,hds⟩:=id hs
 have hTs:s.TypeIs (.ref sl) "slice":=⟨os,hos,hcs⟩
 unfold getItem
 try with_reducible refine wpAny_holding ?_
 first|refine wpAny_bind (wpAny_pure ?_)|skip
 refine wpAny_bind (wpAny_sequenceKey ht.typeIs (by decide) ?_)
 refine wpAny_bind (wpAny_callSpecial?_slot (name:=Str.ofString "__getitem__") ht.typeIs PyProof.Rows.slot_tuple_getitem
  (wpAny_call_entry PyProof.Rows.slot_tuple_getitem ht.typeIs entry_tuple_getitem ?_ (args_tuple_getitem _ _)))
 show wpAny _ _ (Builtin.Tuple.tupleItemsOf (.ref t) >>= _) _ _ s
 refine wpAny_bind (tupleItemsOf_ ht ?_)
 refine wpAny_bind (wpAny_typeOf hTs ?_)
 rw[if_pos (by decide)]
 refine wpAny_bind (pZ hs pl pu ?_)
 have hno:¬((((fj items.size 0 lo:Nat):Int) == 0&&(1:Int) == 1&&(fj items.size items.size hi - fj items.size 0 lo) == items.size)=true):=by
  intro q
  rw[Bool.and_eq_true,Bool.and_eq_true] at q
  have q1:((fj items.size 0 lo:Nat):Int)=0:=eq_of_beq q.1.1
  have q2:fj items.size items.size hi - fj items.size 0 lo=items.size:=eq_of_beq q.2
  exact hw ⟨by omega,by omega⟩
 show wpAny _ _ (if (((fj items.size 0 lo:Nat):Int) == 0&&(1:Int) == 1&&(fj items.size items.size hi - fj items.size 0 lo) == items.size)=true then _ else _) _ _ s
 rw[if_neg hno,RJ]
 first
  | exact wpAny_bind (m:=Builtin.Tuple.tupleExact _) (wpAny_newObj_type (wpAny_pure ⟨_,rfl,wpAny_pure h⟩) Nh)
  | exact wpAny_bind (m:=Builtin.Tuple.tupleExact _) (wpAny_newObj_type (wpAny_bind (wpAny_pure (wpAny_pure ⟨_,rfl,wpAny_pure h⟩))) Nh)
  | exact wpAny_bind (wpAny_bind (m:=Builtin.Tuple.tupleExact _) (wpAny_newObj_type (wpAny_pure (wpAny_pure ⟨_,rfl,wpAny_pure h⟩)) Nh))
  | exact wpAny_bind (wpAny_bind (m:=Builtin.Tuple.tupleExact _) (wpAny_newObj_type (wpAny_pure ⟨_,rfl,wpAny_pure h⟩) Nh))
end
end HT
namespace L2
open PySem PySem.Spec PyProof.Rows
noncomputable abbrev TO:=St→Hp→(Option Int→Hp→Prop)→Prop
noncomputable def PO(X:Cx)(e:Option Expr)(t:TO):Prop:=
 ∀(pins:List (Addr×Obj)) (s:Shared) (σ:St) (H:Hp) (Q:Option Int→Hp→Prop),Inv X pins σ H s→t σ H Q→
  wpAny (model X.prog X.w) X.A (evalPart e X.env) (fun u s'=>∃o H',Inv X pins σ H' s'∧IsPart u o∧Q o H') X.xe s
noncomputable def VG:TO:=fun _ H Q=>Q none H
noncomputable def aex(t:TE):TO:=fun σ H Q=>t σ H fun x H1=>∃i,x = .int i∧Q (some i) H1
section
variable{X:Cx}{e:Expr}{te:TE}{lo hi:Option Expr}{tl th:TO}{pos p2:Pos}
theorem Ws:PO X none VG:=by
 intro pins s σ H Q I h
 rw[evalPart_none]
 exact wpAny_pure ⟨none,H,I,.none,h⟩
theorem Wr(h:PE X e te):PO X (some e) (aex te):=by
 intro pins s σ H Q I hw
 rw[evalPart_some]
 refine gw (h pins s σ H _ I hw) fun u s1 ⟨x,H1,I1,r1,q1⟩=>?_
 obtain⟨i,rfl,q⟩:=q1
 obtain⟨t,rfl⟩:=r1
 exact⟨some i,H1,I1,.int i t,q⟩
noncomputable def Mm(X:Cx)(r:V→Option Int→Option Int→Hp→VK→Prop):Prop:=
 ∀(pins:List (Addr×Obj)) (s:Shared) (σ:St) (H:Hp) (x:V) (v vl vu:Value) (lo hi:Option Int) (sl:Addr) (Q:VK),Inv X pins σ H s→RelV x v→s.heap.IsSliceOf sl vl vu .none→IsPart vl lo→IsPart vu hi→r x lo hi H Q→
  ∃T id,typeLookup (.type T) "__getitem__" = pure (some (.builtin id))∧s.TypeIs v T∧wpAny (model X.prog X.w) X.A (getItem v (.ref sl)) (EP X pins σ Q) X.xe s
theorem Mm.or{r r':V→Option Int→Option Int→Hp→VK→Prop}(h:Mm X r)(h':Mm X r'):Mm X (fun x lo hi H Q=>r x lo hi H Q∨r' x lo hi H Q):=by
 intro pins s σ H x v vl vu lo hi sl Q I rx hs pl pu q
 rcases q with q|q
 ·exact h pins s σ H x v vl vu lo hi sl Q I rx hs pl pu q
 ·exact h' pins s σ H x v vl vu lo hi sl Q I rx hs pl pu q
noncomputable def tSl(r:V→Option Int→Option Int→Hp→VK→Prop)(te:TE)(tl th:TO):TE:=fun σ H Q=>te σ H fun x H1=>tl σ H1 fun l H2=>th σ H2 fun u H3=>r x l u H3 Q
theorem wY{r:V→Option Int→Option Int→Hp→VK→Prop}(hr:Mm X r)(he:PE X e te)(hl:PO X lo tl)(hu:PO X hi th):PE X (.Subscript e (.Slice lo hi none p2) pos) (tSl r te tl th):=by
 intro pins s σ H Q I h
 refine Subscript_ (gw (he pins s σ H _ I h) fun v s1 ⟨x,H1,I1,r1,q1⟩=>?_)
 refine wpAny_Slice (gw (hl pins s1 σ H1 _ I1 q1) fun vl s2 ⟨l,H2,I2,pl,q2⟩=>gw (hu pins s2 σ H2 _ I2 q2) fun vu s3 ⟨u,H3,I3,pu,q3⟩=>?_)
 rw[evalPart_none]
 refine wpAny_pure ?_
 have I4:Inv X pins σ H3 { s3 with heap:=s3.heap.push { cls:=.type "slice",data:=.fields #[vl,vu,.none] } }:=I3.kept (t':=s3.toks) fun b ob q=>Heap.get?_push_of_some _ q
 obtain⟨T,id,hT,ht,hg⟩:=hr pins { s3 with heap:=s3.heap.push { cls:=.type "slice",data:=.fields #[vl,vu,.none] } } σ H3 x v vl vu l u s3.heap.objs.size Q I4 r1 (Heap.IsSliceOf.new ..) pl pu q3
 show wpAny (model X.prog X.w) X.A (subscriptTail e (.Slice lo hi none p2) v (.ref s3.heap.objs.size)) (EP X pins σ Q) X.xe { s3 with heap:=s3.heap.push { cls:=.type "slice",data:=.fields #[vl,vu,.none] } }
 exact tail_any (ops:=[.ref s3.heap.objs.size,v]) ht hT hg (by with_unfolding_all rfl)
noncomputable def zA(xs:List V)(lo hi:Option Int):List V:=(xs.drop (HT.fj xs.length 0 lo)).take (HT.fj xs.length xs.length hi - HT.fj xs.length 0 lo)
theorem zc(xs:List V)(lo hi:Option Int):(zA xs lo hi).length≤xs.length:=by
 unfold zA
 rw[List.length_take,List.length_drop]
 omega
noncomputable def aaG(K:PySem.W.Frag):V→Option Int→Option Int→Hp→VK→Prop:=fun x lo hi H Q=>∃a xs,x = .ref a∧oM K H a xs∧
 ¬(HT.fj xs.length 0 lo=0∧HT.fj xs.length xs.length hi=xs.length)∧∀p,H p=none→Q (.ref p) (upd H p (.tup (zA xs lo hi)))
theorem Ez:Mm X (aaG X.K):=by
 intro pins s σ H x v vl vu lo hi sl Q I rx hs pl pu h
 obtain⟨a,xs,rfl,hx,hw,q⟩:=h
 cases rx
 obtain⟨its,r,ht,hz⟩:=I.tuple hx
 have hlen:its.toArray.size=xs.length:=by rw[List.size_toArray];exact r.length.symm
 refine⟨"tuple",_,PyProof.Rows.slot_tuple_getitem.lookup,ht.typeIs,?_⟩
 refine HT.xj ht hs pl pu (by rw[hlen];exact hw) ?_ (by rw[hlen];exact hz)
 rw[hlen]
 refine⟨.ref s.heap.objs.size,_,I.laid (t':=s.toks) (o:=.tup (zA xs lo hi)) (fun b ob q=>Heap.get?_push_of_some _ q) (Nat.le_refl _) ?_,rfl,q _ (I.hok.fresh (Nat.le_refl _))⟩
 exact⟨Nat.le_trans (zc xs lo hi) hz,_,(r.drop (HT.fj xs.length 0 lo)).take (HT.fj xs.length xs.length hi - HT.fj xs.length 0 lo),De.new _ _⟩
noncomputable def YL(K:PySem.W.Frag):R2:=fun x y H Q=>∃a b xs ys,x = .ref a∧y = .ref b∧oM K H a xs∧oM K H b ys∧xs≠[]∧xs.length+ys.length≤sizeLine∧
 (ys=[]→Q (.ref a) H)∧(ys≠[]→∀p,H p=none→Q (.ref p) (upd H p (.tup (xs++ys))))
theorem Vals.Fy{xs:List V}{us:List Value}(r:Vals xs us):us=[]↔xs=[]:=by
 cases r with
 | nil=>simp
 | cons _ _=>simp
theorem WQ:oK X (binaryOp .Add) (YL X.K):=by
 intro pins s σ H x y v u Q I rx ry h
 obtain⟨a,b,xs,ys,rfl,rfl,ha,hb,hx,hz,q1,q2⟩:=h
 cases rx
 cases ry
 obtain⟨its,r1,p1,_⟩:=I.tuple ha
 obtain⟨its2,r2,p2,_⟩:=I.tuple hb
 refine HT.Yq p1 p2 (fun z=>hx (r1.Fy.mp z)) (fun z=>⟨.ref a,H,I,rfl,q1 (r2.Fy.mp z)⟩) (fun z=>?_) (by rw[←r1.length,←r2.length];exact hz)
 refine⟨.ref s.heap.objs.size,_,I.laid (t':=s.toks) (o:=.tup (xs++ys)) (fun b ob q=>Heap.get?_push_of_some _ q) (Nat.le_refl _) ?_,rfl,q2 (fun w=>z (r2.Fy.mpr w)) _ (I.hok.fresh (Nat.le_refl _))⟩
 exact⟨by rw[List.length_append];exact hz,_,r1.append r2,De.new _ _⟩
end
end L2
namespace L2
open PySem PySem.Spec PyProof.Rows
noncomputable def TX(n:Nat)(i:Int):Option Nat:=if 0≤i then (if i<n then some i.toNat else none) else if -(n:Int)≤i then some (i+n).toNat else none
noncomputable def pN{α:Type}(xs:List α)(i:Int):Option α:=(TX xs.length i).bind fun j=>xs[j]?
theorem M9{n:Nat}{i:Int}{j:Nat}(h:TX n i=some j):seqIndex? i n=some j∧j<n∧-(n:Int)≤i∧i<n:=by
 unfold TX at h
 by_cases h0:0≤i
 ·rw[if_pos h0] at h
  by_cases h1:i<n
  ·rw[if_pos h1] at h
   have e:i.toNat=j:=Option.some.inj h
   exact⟨by rw[seqIndex_of h0 h1,e],by omega,by omega,h1⟩
  ·rw[if_neg h1] at h;cases h
 ·rw[if_neg h0] at h
  by_cases h1 : -(n:Int)≤i
  ·rw[if_pos h1] at h
   have e:(i+n).toNat=j:=Option.some.inj h
   exact⟨by rw[seqIndex_neg (by omega) h1,e],by omega,h1,by omega⟩
  ·rw[if_neg h1] at h;cases h
theorem Gw{α:Type}{xs:List α}{i:Int}{v:α}(h:pN xs i=some v):∃j,seqIndex? i xs.length=some j∧xs[j]? = some v∧j<xs.length∧-(xs.length:Int)≤i∧i<xs.length:=by
 unfold pN at h
 cases e:TX xs.length i with
 | none=>rw[e] at h;cases h
 | some j=>
  rw[e] at h
  obtain⟨h1,h2,h3,h4⟩:=M9 e
  exact⟨j,h1,h,h2,h3,h4⟩
theorem mj{α:Type}{xs:List α}{j:Nat}{v:α}(h:xs[j]? = some v):pN xs (j:Int)=some v:=by
 have hj:j<xs.length:=(List.getElem?_eq_some_iff.mp h).1
 have e:TX xs.length (j:Int)=some j:=by
  unfold TX
  rw[if_pos (by omega),if_pos (by omega)];simp
 unfold pN;rw[e];exact h
noncomputable def rE(b:Expr):Prop:=∀o i,subscripted b false o i=operate [o,i] (getItem o i)
noncomputable def Yy(X:Cx)(r:R2):Prop:=
 ∀(value slice:Expr) (pins:List (Addr×Obj)) (s:Shared) (σ:St) (H:Hp) (x y:V) (v u:Value) (Q:VK),Inv X pins σ H s→RelV x v→RelV y u→r x y H Q→
  subscripted slice false v u=operate [v,u] (getItem v u)→wpAny (model X.prog X.w) X.A (subscriptTail value slice v u) (EP X pins σ Q) X.xe s
noncomputable def MtR(X:Cx)(id:String)(r:V→List V→Hp→VK→Prop):Prop:=
 ∀(pins:List (Addr×Obj)) (s:Shared) (σ:St) (H:Hp) (x:V) (xs:List V) (v:Value) (us:List Value) (Q:VK),Inv X pins σ H s→RelV x v→Vals xs us→r x xs H Q→
  wpAny (model X.prog X.w) X.A (call (.builtin id) (v::us)) (EP X pins σ Q) X.xe s
section
variable{X:Cx}{a b:Expr}{ta tb:TE}{pos:Pos}
theorem Yy.or{r r':R2}(h:Yy X r)(h':Yy X r'):Yy X (fun x y H Q=>r x y H Q∨r' x y H Q):=by
 intro value slice pins s σ H x y v u Q I rx ry q hs
 rcases q with q|q
 ·exact h value slice pins s σ H x y v u Q I rx ry q hs
 ·exact h' value slice pins s σ H x y v u Q I rx ry q hs
theorem YW{r:R2}(hr:Yy X r)(ha:PE X a ta)(hb:PE X b tb)(hs:rE b):PE X (.Subscript a b pos) (tOp r ta tb):=by
 intro pins s σ H Q I h
 exact Subscript_ (aeb ha hb I h fun v u s2 x y H2 I2 rx ry q=>hr a b pins s2 σ H2 x y v u Q I2 rx ry q (hs _ _))
noncomputable def afp(K:PySem.W.Frag):R2:=fun x y H Q=>∃p xs i v,x = .ref p∧y = .int i∧jY K H p xs∧pN xs i=some v∧Q v H
noncomputable def afn(K:PySem.W.Frag):R2:=fun x y H Q=>∃p xs i v,x = .ref p∧y = .int i∧oM K H p xs∧pN xs i=some v∧Q v H
noncomputable def afo:R2:=fun x y H Q=>∃z i c,x = .str z∧y = .int i∧z.length≤sizeLine∧pN z.cps.toList i=some c∧Q (.str ⟨#[c]⟩) H
theorem Xn:Yy X (afp X.K):=by
 intro value slice pins s σ H x y v u Q I rx ry h hs
 obtain⟨p,xs,i,z,rfl,rfl,hq,he,q⟩:=h
 cases rx
 obtain⟨t,rfl⟩:=ry
 obtain⟨its,r,pl,hz⟩:=I.list hq
 obtain⟨j,h1,h2,h3,h4,h5⟩:=Gw he
 obtain⟨w,ew,V4⟩:=r.get h2
 have hl:=r.length
 have hn:=Az
 have fin:EP X pins σ Q w s:=⟨z,H,I,V4,q⟩
 by_cases h0:0≤i
 ·have hj:i.toNat=j:=by
   rw[seqIndex_of h0 h5] at h1
   exact Option.some.inj h1
  exact item_listR pl.isList h0 (by omega) (by rw[hj];simpa using ew) fin hs
 ·have hj:(i+(its.toArray.size:Int)).toNat=j:=by
   rw[seqIndex_neg (by omega) h4] at h1
   rw[List.size_toArray,←hl]
   exact Option.some.inj h1
  exact subscriptTail_builtinR (x:=w) pl.isList.typeIs slot_list_getitem.lookup
   (wpAny_getItem_list_neg (Q:=fun r s'=>r=w∧EP X pins σ Q r s') pl.isList (by omega) (by rw[List.size_toArray]<;>omega) (by omega) (by rw[hj];simpa using ew) ⟨rfl,fin⟩) hs
theorem acC:Yy X (afn X.K):=by
 intro value slice pins s σ H x y v u Q I rx ry h hs
 obtain⟨p,xs,i,z,rfl,rfl,hq,he,q⟩:=h
 cases rx
 obtain⟨t,rfl⟩:=ry
 obtain⟨its,r,pl,hz⟩:=I.tuple hq
 obtain⟨j,h1,h2,h3,h4,h5⟩:=Gw he
 obtain⟨w,ew,V4⟩:=r.get h2
 have hl:=r.length
 have hn:=Az
 have fin:EP X pins σ Q w s:=⟨z,H,I,V4,q⟩
 exact subscriptTail_builtinR (x:=w) pl.typeIs slot_tuple_getitem.lookup
  (getItem_tuple (j:=j) (Q:=fun r s'=>r=w∧EP X pins σ Q r s') pl (by omega) (by omega) (by rw[List.size_toArray,←hl];exact h1) (by simpa using ew) ⟨rfl,fin⟩) hs
theorem acD:Yy X afo:=by
 intro value slice pins s σ H x y v u Q I rx ry h hs
 obtain⟨z,i,c,rfl,rfl,hz,he,q⟩:=h
 obtain⟨t,rfl⟩:=rx
 obtain⟨t',rfl⟩:=ry
 obtain⟨j,h1,h2,h3,h4,h5⟩:=Gw he
 have hl:z.cps.toList.length=z.length:=by simp[Str.length]
 rw[hl] at h1 h4 h5
 have hn:=Az
 exact tail_any (typeIs_str s z t) slot_str_getitem.lookup (getItem_str (c:=c) (by
  have e1:decide (i < -(2^63:Int))=false:=decide_eq_false (by omega)
  have e2:decide (i ≥ 2^63)=false:=decide_eq_false (by omega)
  rw[e1,e2,Bool.or_false]) (by rw[h1];simpa using h2) ⟨.str ⟨#[c]⟩,H,I.tok _,⟨_,rfl⟩,q⟩) hs
noncomputable def rIx(K:PySem.W.Frag):R2:=fun x y H Q=>afp K x y H Q∨afn K x y H Q∨afo x y H Q
theorem TV:Yy X (rIx X.K):=Xn.or (acC.or acD)
theorem KH(its:List Value)(n j:Nat)(u:Value):Obj.mapSeq (·.setIfInBounds j u) { cls:=.type "list",data:=.seq its.toArray n } = { cls:=.type "list",data:=.seq (its.set j u).toArray n }:=by
 simp[Obj.mapSeq]
theorem Inv.lst{pins:List (Addr×Obj)}{σ:St}{H:Hp}{s:Shared}{p:Addr}{xs:List V}(I:Inv X pins σ H s)(h:H p=some (.lst xs)) :
  ∃(its:List Value) (n:Nat),Vals xs its∧s.heap.get? p=some { cls:=.type "list",data:=.seq its.toArray n }∧xs.length≤sizeLine:=by
 obtain⟨z,its,n,r,e⟩:=I.hok p _ h
 exact⟨its,n,r,e,z⟩
theorem Inv.abE{pins:List (Addr×Obj)}{σ:St}{H:Hp}{s:Shared}{p:Addr}{xs ys:List V}{its its':List Value}{n n':Nat}{f:Obj→Obj}(I:Inv X pins σ H s)(h:H p=some (.lst xs))
  (ho:s.heap.get? p=some { cls:=.type "list",data:=.seq its.toArray n }) (hf:f { cls:=.type "list",data:=.seq its.toArray n } = { cls:=.type "list",data:=.seq its'.toArray n' }) (r:Vals ys its') (hz:ys.length≤sizeLine) (t:Nat) :
  Inv X pins σ (upd H p (.lst ys)) { s with heap:=s.heap.update p f,toks:=t }:=by
 have e:(s.heap.update p f).get? p=some { cls:=.type "list",data:=.seq its'.toArray n' }:=by
  rw[Heap.get?_update_self f ho (by rw[hf]<;>rfl),hf]
 refine I.write (x:=p) (e:=p) (by rw[h];trivial) (.inl rfl) (fun b u hb q=>(Heap.get?_update_other _ _ (Ne.symm hb)).trans q) ⟨_,e⟩ ?_
 exact⟨hz,its',n',r,e⟩
noncomputable def afj:V→V→V→Hp→(Hp→Prop)→Prop:=fun o i v H Q=>∃p xs k j,o = .ref p∧i = .int k∧H p=some (.lst xs)∧TX xs.length k=some j∧Q (upd H p (.lst (xs.set j v)))
theorem set_list:akx X afj:=by
 intro pins s σ H o i v ov iv u Q I ro ri rv h
 obtain⟨p,xs,k,j,rfl,rfl,hp,hj,q⟩:=h
 cases ro
 obtain⟨t,rfl⟩:=ri
 obtain⟨its,n,r,ho,hz⟩:=I.lst hp
 obtain⟨h1,h2,h3,h4⟩:=M9 hj
 have hl:=r.length
 have hn:=Az
 have I':Inv X pins σ (upd H p (.lst (xs.set j v))) { s with heap:=s.heap.update p (Obj.mapSeq (·.setIfInBounds j u)) }:=
  I.abE hp ho (KH its n j u) (r.set rv j) (by rw[List.length_set];exact hz) s.toks
 by_cases h0:0≤k
 ·have hk:k.toNat=j:=by
   rw[seqIndex_of h0 h4] at h1
   exact Option.some.inj h1
  exact PySem.W.ki_setAt ho h0 (by omega) (by rw[List.size_toArray,←hl];exact h4) (by rw[hk];exact⟨_,I',q⟩)
 ·have hk:(k+(its.toArray.size:Int)).toNat=j:=by
   rw[seqIndex_neg (by omega) h3] at h1
   rw[List.size_toArray,←hl]
   exact Option.some.inj h1
  exact PySem.W.ki_setBack ho (by omega) (by rw[List.size_toArray,←hl];exact h3) (by omega) (by rw[hk];exact⟨_,I',q⟩)
theorem Ey(lo hi:Option Int)(n:Nat):(sliceBounds lo hi none n).1=((HT.fj n 0 lo:Nat):Int)∧(sliceBounds lo hi none n).2.1=((HT.fj n n hi:Nat):Int)∧(sliceBounds lo hi none n).2.2=1:=by
 refine⟨?_,?_,rfl⟩
 ·cases lo with
  | none=>simp[sliceBounds,HT.fj]
  | some i=>
   simp only[sliceBounds,HT.fj,Option.getD_none,show(1:Int) > 0 by decide,if_true]
   by_cases h:i<0
   ·simp only[h,if_true]<;>omega
   ·simp only[h,if_false]<;>omega
 ·cases hi with
  | none=>simp[sliceBounds,HT.fj]
  | some i=>
   simp only[sliceBounds,HT.fj,Option.getD_none,show(1:Int) > 0 by decide,if_true]
   by_cases h:i<0
   ·simp only[h,if_true]<;>omega
   ·simp only[h,if_false]<;>omega
theorem Cr(its:List Value)(lo hi:Option Int):slicePick its.toArray lo hi none=((its.drop (HT.fj its.length 0 lo)).take (HT.fj its.length its.length hi - HT.fj its.length 0 lo)).toArray:=by
 obtain⟨h1,h2,h3⟩:=Ey lo hi its.toArray.size
 unfold slicePick
 rw[h1,h2,h3]
 simp only[sliceRange_one,pick_run,List.size_toArray]<;>rfl
noncomputable def afi(K:PySem.W.Frag):V→Option Int→Option Int→Hp→VK→Prop:=fun x lo hi H Q=>∃a xs,x = .ref a∧jY K H a xs∧∀p,H p=none→Q (.ref p) (upd H p (.lst (zA xs lo hi)))
theorem Mv:Mm X (afi X.K):=by
 intro pins s σ H x v vl vu lo hi sl Q I rx hs pl pu h
 obtain⟨a,xs,rfl,hx,q⟩:=h
 cases rx
 obtain⟨its,r,ht,hz⟩:=I.list hx
 have hlen:=r.length
 refine⟨"list",_,slot_list_getitem.lookup,ht.isList.typeIs,?_⟩
 refine wpAny_getItem_list_slice ht.isList hs pl pu .none (by simp) ?_ (by rw[List.size_toArray]<;>omega)
 rw[Cr,←hlen]
 refine⟨.ref s.heap.objs.size,_,I.laid (t':=s.toks) (o:=.lst (zA xs lo hi)) (fun b ob q=>Heap.get?_push_of_some _ q) (Nat.le_refl _) ?_,rfl,q _ (I.hok.fresh (Nat.le_refl _))⟩
 exact⟨Nat.le_trans (zc xs lo hi) hz,_,0,(r.drop (HT.fj xs.length 0 lo)).take (HT.fj xs.length xs.length hi - HT.fj xs.length 0 lo),Heap.get?_push_size _ rfl⟩
theorem jZ.or{f:Value}{r r':List V→Hp→VK→Prop}(h:jZ X f r)(h':jZ X f r'):jZ X f (fun xs H Q=>r xs H Q∨r' xs H Q):=by
 intro pins s σ H xs us Q I rs q
 rcases q with q|q
 ·exact h pins s σ H xs us Q I rs q
 ·exact h' pins s σ H xs us Q I rs q
theorem Gp:jZ X (.type "list") (fun xs H Q=>∃p ys,xs=[.ref p]∧(jY X.K H p ys∨oM X.K H p ys)∧∀l,H l=none→Q (.ref l) (upd H l (.lst ys))):=by
 intro pins s σ H xs us Q I r h
 obtain⟨p,ys,rfl,hq,q⟩:=h
 obtain⟨u,rfl,rx⟩:=vals1 r
 cases rx
 have fin:∀(its:List Value),Vals ys its→ys.length≤sizeLine→∀(h':Heap) (c':Nat),(∀b o',s.heap.get? b=some o'→h'.get? b=some o')→
   h'.get? s.heap.objs.size=some { cls:=.type "list",dict:=none,data:=.seq its.toArray c',slots:=#[] }→EP X pins σ Q (.ref s.heap.objs.size) { s with heap:=h' }:=fun its r' hz h' c' kp e=>
  ⟨.ref s.heap.objs.size,_,I.laid (t':=s.toks) kp (Nat.le_refl _) (show ik X.prog X.w _ h' _ (.lst ys) from⟨hz,its,c',r',e⟩),rfl,q _ (I.hok.fresh (Nat.le_refl _))⟩
 rcases hq with hq|hq
 ·obtain⟨its,r',pl,hz⟩:=I.list hq
  have hlen:=r'.length
  obtain⟨o,ho,hc,n,hd⟩:=pl.isList
  exact call_list_seq p (.inl rfl) ho hc hd (fun h' c' kp e=>fin its r' hz h' c' kp e) (by simp only[List.size_toArray]<;>omega)
 ·obtain⟨its,r',pl,hz⟩:=I.tuple hq
  have hlen:=r'.length
  obtain⟨o,ho,hc,n,hd⟩:=pl
  exact call_list_seq p (.inr rfl) ho hc hd (fun h' c' kp e=>fin its r' hz h' c' kp e) (by simp only[List.size_toArray]<;>omega)
theorem CV:jZ X (.type "tuple") (fun xs H Q=>∃p ys,xs=[.ref p]∧((jY X.K H p ys∧∀l,H l=none→Q (.ref l) (upd H l (.tup ys)))∨(oM X.K H p ys∧Q (.ref p) H))):=by
 intro pins s σ H xs us Q I r h
 obtain⟨p,ys,rfl,h⟩:=h
 obtain⟨u,rfl,rx⟩:=vals1 r
 cases rx
 rcases h with ⟨hq,q⟩|⟨hq,q⟩
 ·obtain⟨its,r',pl,hz⟩:=I.list hq
  have hlen:=r'.length
  refine call_tuple_list pl.isList (fun h' kp=>?_) (by simp only[List.size_toArray]<;>omega)
  have I1:Inv X pins σ H { s with heap:=h' }:=I.kept (t':=s.toks) kp
  have I2:Inv X pins σ (upd H h'.objs.size (.tup ys)) { s with heap:=h'.push { cls:=.type "tuple",data:=.seq its.toArray } }:=
   I1.laid (t':=s.toks) (fun b o e=>Heap.get?_push_of_some _ e) (Nat.le_refl _) (show ik X.prog X.w _ _ _ (.tup ys) from⟨hz,its,r',De.new _ _⟩)
  exact⟨.ref h'.objs.size,_,I2,rfl,q _ (I1.hok.fresh (Nat.le_refl _))⟩
 ·obtain⟨its,r',pl,hz⟩:=I.tuple hq
  exact call_tuple_same pl ⟨.ref p,H,I,rfl,q⟩
noncomputable def tyV(K:PySem.W.Frag)(T:String)(x:V)(H:Hp):Prop:=match x with
 | .str _=>T = "str"
 | .int _=>T = "int"
 | .ref p=>(T = "list"∧∃xs,jY K H p xs)∨(T = "tuple"∧∃o,K.lookup p=some o∧o.cls = .type "tuple"∧o.dict=none)∨
   (T = "dict"∧((∃kvs,H p=some (.dK kvs))∨∃kvs,H p=some (.dT kvs)))∨(T = "set"∧∃S n,H p=some (.set S n))
 | _=>False
theorem aaf{pins:List (Addr×Obj)}{σ:St}{H:Hp}{s:Shared}{T:String}{x:V}{v:Value}(I:Inv X pins σ H s)(r:RelV x v)(ty:tyV X.K T x H) :
  s.TypeIs v T∧∀a,v = .ref a→∃ob,s.heap.get? a=some ob∧ob.dict=none:=by
 cases x with
 | str z=>
  obtain⟨t,rfl⟩:=r
  cases(show T = "str" from ty)
  exact⟨typeIs_str s z t,fun _ e=>nomatch e⟩
 | int i=>
  obtain⟨t,rfl⟩:=r
  cases(show T = "int" from ty)
  exact⟨typeIs_int s i t,fun _ e=>nomatch e⟩
 | ref p=>
  cases r
  rcases ty with ⟨rfl,xs,hq⟩|⟨rfl,o,hk,hc,hd⟩|⟨rfl,hk⟩|⟨rfl,S,n,hk⟩
  ·obtain⟨its,_,pl,_⟩:=I.list hq
   refine⟨pl.isList.typeIs,fun a e=>?_⟩
   cases e
   obtain⟨o,n,e,c,hd,_⟩:=pl
   exact⟨o,e,hd⟩
  ·refine⟨⟨o,I.kIn p o hk,hc⟩,fun a e=>?_⟩
   cases e
   exact⟨o,I.kIn _ o hk,hd⟩
  ·have z:∃o,s.heap.get? p=some o∧o.ExactDict:=by
    rcases hk with ⟨kvs,hk⟩|⟨kvs,hk⟩
    ·obtain⟨_,_,_,_,o,_,_,e,ex,_⟩:=I.hok p _ hk
     exact⟨o,e,ex⟩
    ·obtain⟨_,_,_,_,o,_,_,e,ex,_⟩:=I.hok p _ hk
     exact⟨o,e,ex⟩
   obtain⟨o,e,ex⟩:=z
   refine⟨⟨o,e,ex.1⟩,fun a e2=>?_⟩
   cases e2
   exact⟨o,e,ex.2.1⟩
  ·obtain⟨o,_,_,_,e,ex,_⟩:=I.hok p _ hk
   refine⟨⟨o,e,ex.1⟩,fun a e2=>?_⟩
   cases e2
   exact⟨o,e,ex.2.1⟩
 | _=>exact False.elim ty
noncomputable def tBM(K:PySem.W.Frag)(T:String)(r:V→List V→Hp→VK→Prop)(to:TE)(t:TA):TE:=fun σ H Q=>to σ H fun x H1=>tyV K T x H1∧t σ H1 fun xs H2=>r x xs H2 Q
variable{o e:Expr}{es:List Expr}{to:TE}{t:TA}{name:Str}{apos cpos:Pos}{T id:String}{r:V→List V→Hp→VK→Prop}
theorem RV(pa:PlainAttrs T)(slot:Slot T name id)(hty:typeOf (.builtin id)=pure (.type "method_descriptor"))(hm:MtR X id r)(ho:PE X o to)(ha:PA X (e::es) t)
  (hbase:attributeBase o name X.env (eval o X.env)=eval o X.env:=by rfl)
  (hfew:((backTo cpos (starEach (e::es) X.env)).all (fun x=>!x.1)&&(backToKw cpos (keywordEach [] X.env)).all (fun x=>x.1.isSome)
   && decide ((e::es).length+([]:List Keyword).length+(if ([]:List Keyword).isEmpty then 0 else 1)<30))=true:=by rfl)
  (hline:(apos.endLine == cpos.line)=true:=by rfl) (hs:starEach (e::es) X.env=(false,eval e X.env)::starEach es X.env:=by rfl) (hplain:(backTo cpos (starEach es X.env)).any (·.1)=false:=by rfl) :
  PE X (.Call (.Attribute o name apos) (e::es) [] cpos) (tBM X.K T r to t):=by
 intro pins s σ H Q I h
 refine wpAny_Call_method_late hbase hfew hline rfl (gw (ho pins s σ H _ I h) fun v s1 ⟨x,H1,I1,r1,ty,q1⟩=>?_)
 obtain⟨h1,h2⟩:=aaf I1 r1 ty
 refine⟨T,id,pa,slot,hty,h1,h2,?_⟩
 have hA:=ha cpos pins s1 σ H1 _ I1 q1
 rw[hs] at hA ⊢
 refine Calls.callWith_builtin (by show(false||(backTo cpos (starEach es X.env)).any (·.1))=false;rw[hplain]<;>rfl) (Calls.evalArgs_plain ?_)
 exact gw hA fun us s2 ⟨vs,H2,I2,r2,q2⟩=>hm pins s2 σ H2 x vs v us Q I2 r1 r2 q2
end
end L2
namespace L2
open PySem PySem.Spec PyProof.Rows
noncomputable def MtM(X:Cx)(id:String)(r:V→List V→Hp→VK→Prop):Prop:=
 ∀(pins:List (Addr×Obj)) (s:Shared) (σ:St) (H:Hp) (x:V) (xs:List V) (v:Value) (us:List Value) (Q:VK),Inv X pins σ H s→RelV x v→Vals xs us→r x xs H Q→
  wpAny (model X.prog X.w) X.A (call (.builtin id) (v::us)) (EP X pins σ Q) X.xe s
theorem Vals.one:∀{x:V} {us:List Value},Vals [x] us→∃u,us=[u]∧RelV x u
 | _,_,.cons r .nil=>⟨_,rfl,r⟩
theorem Vals.two:∀{x y:V} {us:List Value},Vals [x,y] us→∃u v,us=[u,v]∧RelV x u∧RelV y v
 | _,_,_,.cons r (.cons q .nil)=>⟨_,_,rfl,r,q⟩
section
variable{X:Cx}{pins:List (Addr×Obj)}{σ:St}{H:Hp}{s:Shared}{l b:Addr}{xs ys zs:List V}
theorem Inv.ahl{its its':List Value}{n:Nat}{f:Array Value→Array Value}{t':Nat}(I:Inv X pins σ H s)(hH:H l=some (.lst xs))
  (e:s.heap.get? l=some { cls:=.type "list",data:=.seq its.toArray n }) (hf:f its.toArray=its'.toArray) (hv:Vals ys its') (hz:ys.length≤sizeLine) :
  Inv X pins σ (upd H l (.lst ys)) { s with heap:=s.heap.update l (Obj.mapSeq f),toks:=t' }:=by
 have q:=PySem.IsL.update e f
 rw[hf] at q
 refine I.write (x:=l) (e:=l) (by rw[hH];exact trivial) (.inl rfl) (fun b' u hb hu=>(Heap.get?_update_other s.heap (Obj.mapSeq f) (Ne.symm hb)).trans hu) ⟨_,q⟩ ?_
 exact⟨hz,its',_,hv,q⟩
theorem Inv.abF{its:List Value}{t':Nat}(I:Inv X pins σ H s)(hv:Vals ys its)(hz:ys.length≤sizeLine) :
  Inv X pins σ (upd H s.heap.objs.size (.lst ys)) { s with heap:=s.heap.push { cls:=.type "list",data:=.seq its.toArray },toks:=t' }:=
 I.laid (fun _ _ q=>Heap.get?_push_of_some _ q) (Nat.le_refl _) ⟨hz,its,0,hv,Heap.get?_push_size _ rfl⟩
theorem Inv.fresh(I:Inv X pins σ H s):H s.heap.objs.size=none:=I.hok.fresh (Nat.le_refl _)
theorem Inv.SJ(I:Inv X pins σ H s)(hH:H l=some (.lst xs)):xs.length≤sizeLine∧∃(its:List Value) (n:Nat),Vals xs its∧xs.length=its.length∧s.heap.get? l=some { cls:=.type "list",data:=.seq its.toArray n }:=by
 obtain⟨z,its,n,r,e⟩:=I.hok l _ hH
 exact⟨z,its,n,r,r.length,e⟩
theorem Sv{n:Nat}(h:n≤sizeLine):Builtin.List.listTooLong n=false:=by
 unfold Builtin.List.listTooLong
 exact decide_eq_false (by omega)
end
section
variable{X:Cx}
noncomputable def Wb:V→List V→Hp→VK→Prop:=fun x vs H Q=>∃l xs y,x = .ref l∧vs=[y]∧H l=some (.lst xs)∧xs.length<sizeLine∧Q .non (upd H l (.lst (xs++[y])))
theorem ye:MtM X "list.append" Wb:=by
 intro pins s σ H x vs v us Q I rx rv h
 obtain⟨l,xs,y,rfl,rfl,hH,hz,q⟩:=h
 cases rx
 obtain⟨u,rfl,ru⟩:=rv.one
 obtain⟨z,its,n,r,hl,e⟩:=I.SJ hH
 refine call_meets F.slot_list_append ⟨_,e,rfl⟩ F.entry_list_append (F.args_list_append_2 _ _) (PySem.list_append l its.toArray n u (by rw[List.size_toArray];omega)) ⟨e,?_⟩
 refine⟨.non,_,I.ahl (its':=its++[u]) hH e (by simp) (r.append (.cons ru .nil)) ?_,rfl,q⟩
 rw[List.length_append,List.length_singleton]
 omega
noncomputable def Wa:V→List V→Hp→VK→Prop:=fun x vs H Q=>∃l b xs zs,x = .ref l∧vs=[.ref b]∧H l=some (.lst xs)∧H b=some (.lst zs)∧xs.length+zs.length≤sizeLine∧Q .non (upd H l (.lst (xs++zs)))
theorem PJ:MtM X "list.extend" Wa:=by
 intro pins s σ H x vs v us Q I rx rv h
 obtain⟨l,b,xs,zs,rfl,rfl,hH,hB,hz,q⟩:=h
 cases rx
 obtain⟨u,rfl,ru⟩:=rv.one
 cases ru
 obtain⟨z,its,n,r,hl,e⟩:=I.SJ hH
 obtain⟨z2,its2,n2,r2,hl2,e2⟩:=I.SJ hB
 have hsz:its.toArray.size+its2.toArray.size≤sizeLine:=by rw[List.size_toArray,List.size_toArray];omega
 have aip:¬(!its.toArray.isEmpty&&Builtin.List.listTooLong (its.toArray.size+its2.toArray.size))=true:=by
  rw[Sv hsz,Bool.and_false]
  exact Bool.false_ne_true
 refine call_meets F.slot_list_extend ⟨_,e,rfl⟩ F.entry_list_extend (F.args_list_extend_2 _ _)
  (AutoSeq1.list_extend_list_list_0 l its.toArray n b its2.toArray n2 aip (by rw[List.size_toArray];omega) (by omega)) ⟨e,e2,?_⟩
 refine⟨.non,_,I.ahl (its':=its++its2) hH e (by simp) (r.append r2) ?_,rfl,q⟩
 rw[List.length_append]
 omega
noncomputable def aft:R2:=fun x y H Q=>∃l b xs zs,x = .ref l∧y = .ref b∧H l=some (.lst xs)∧H b=some (.lst zs)∧xs.length+zs.length≤sizeLine∧∀p,H p=none→Q (.ref p) (upd H p (.lst (xs++zs)))
theorem abh:oK X (binaryOp .Add) aft:=by
 intro pins s σ H x y v u Q I rx ry h
 obtain⟨l,b,xs,zs,rfl,rfl,hH,hB,hz,q⟩:=h
 cases rx
 cases ry
 obtain⟨z,its,n,r,hl,e⟩:=I.SJ hH
 obtain⟨z2,its2,n2,r2,hl2,e2⟩:=I.SJ hB
 refine PySem.P.add_list e e2 ?_ (by rw[List.size_toArray,List.size_toArray];omega)
 have ea:its.toArray++its2.toArray=(its++its2).toArray:=by simp
 rw[ea]
 exact⟨.ref _,_,I.abF (t':=s.toks) (r.append r2) (by rw[List.length_append];omega),rfl,q _ I.fresh⟩
end
section
variable{prog:Program}{w:World}{A:Around}{E:Value→Shared→Prop}{s:Shared}
set_option maxRecDepth 100000 in
end
end L2
namespace Att
open PySem PySem.W PySem.Calls PyProof.Rows
theorem zz{P:Params}{h:Heap}:∀(ns:List Int) (vs:List Value),WellAll P h vs (ns.map WData.int)→IntsAre vs ns:=by
 intro ns
 induction ns with
 | nil=>
  intro vs w
  rw[List.map_nil] at w
  cases w
  exact .nil
 | cons n ns ih=>
  intro vs w
  rw[List.map_cons] at w
  cases w with
  | cons a b=>
   cases a
   exact .cons _ _ (ih _ b)
theorem Ow{l:OpenLaw}{n:Nat}(hn:l.most=some n){P:Params}{h:Heap}{args:List WData}{vals:List Value}
  (hpre:l.row.toRowW.claim.pre args=true) (hwl:WellAll P h vals args) :
  ∃a vs ns,vals=[Value.ref a]∧args=[WData.list (ns.map WData.int)]∧h.get? a=some { cls:=.type "list",data:=.seq vs.toArray }∧IntsAre vs ns∧ns.length≤n:=by
 have hsh:WShape.hasAll [] args [.list .int]=true:=(pre_splitW hpre).1
 have hc:l.pre.holds [] { args:=args }=true:=(pre_splitW hpre).2
 obtain⟨d,r,rfl,h1,h2⟩:=hasAllW_cons hsh
 obtain rfl:=hasAllW_nil h2
 obtain⟨xs,rfl,h3⟩:=hasW_list h1
 obtain⟨ns,rfl⟩:=items_int h3
 have hlen:ns.length≤n:=by
  unfold OpenLaw.pre at hc
  have h4:(WTm.not (.lt (.lit (.int (n:Int))) (.len (.arg 0)))).holds [] { args:=[.list (ns.map .int)] }=true:=by
   have h4:=(holds_andW hc).1
   rw[hn] at h4
   exact h4
  have h5:=condW_of h4 (w_not (w_lt w_lit (w_len_list (w_arg rfl))))
  rw[List.length_map] at h5
  refine Nat.le_of_not_lt fun q=>?_
  have q':(n:Int)<((ns.length:Nat):Int):=by omega
  first
   | (rw[decide_eq_true q'] at h5;exact absurd h5 (by decide))
   | (simp at h5;omega)
 cases hwl with
 | cons w1 w2=>
  cases w2
  cases w1 with
  | list ho hall=>exact⟨_,_,ns,rfl,rfl,ho,zz ns _ hall,hlen⟩
theorem O9(l:OpenLaw)(args:List WData):l.row.toRowW.claim.post args (.bool true) args=true:=
 postW_of (r:=l.row.toRowW) (X:=(true == true))
  (show WShape.has [] (.bool true) .bool=true by first|rfl|decide|simp[WShape.has,WShape.arms,WShape.armsAll])
  (show(WTm.eq .res (.lit (.bool true))).value [] { args:=args,res:=some (.bool true),after:=args }=some (.bool (true == true)) from w_eq_bool (w_res rfl) w_lit) rfl
end Att
namespace L2
open PySem PySem.Spec PyProof.Rows
theorem Di:∀{vs:List Value} {ns:List Int},IntsAre vs ns→Vals (ns.map V.int) vs
 | _,_,.nil=>.nil
 | _,_,.cons n t h=>.cons ⟨t,rfl⟩ (Di h)
noncomputable def Only(H:Hp):Prop:=∀b,H b=none∨∃o xs,H b=some (.Vn o (.lst xs))
theorem S6{P:Program}{w:World}{K:PySem.W.Frag}{mg mb:Str→Option Value}{CX:YB}{k:Nat}{fa a:Addr}{fd:FuncData}{x:Str}{sp:Sp}{s₁:Shared}{vs:List Value}{ns:List Int}
  (KX:K.In s₁.heap) (hns:s₁.heap.Ns mainGlobals mg) (hb:s₁.heap.Ns builtinsNs mb) (hbb:∀x:Str,x ≠ "__name__"→mb x=bootBuiltins x) (hlim:s₁.heap.NoLimit) (hg:s₁.gens = #[])
  (ha:s₁.heap.get? a=some { cls:=.type "list",data:=.seq vs.toArray }) (hi:IntsAre vs ns) (hl:ns.length≤sizeLine) (hr:iZ k callerA)
  (F:∀base:Heap,K.In base→base.Ns mainGlobals mg→rF P w K mg base CX k fa fd [x] sp) (hbind:∀(s:Shared) (u:Value),BindsTo s fd ⟨[u],[]⟩ [(x,u)])
  (hsp:∀H:Hp,Only H→jY K H a (ns.map V.int)→sp [.ref a] H (fun v _=>v = .bl true) fun _ _ _=>False)
  (hCX:∀H e s',CX [] H s₁ (fun _ _ _=>False) e s'→False) :
  codeAny (model P w) callerA (.call (.ref fa) ⟨[.ref a],[]⟩) (fun r s'=>r = .ok (.ret (.bool true))∧OldK s₁.heap s'.heap∧s'.os=s₁.os∧AllBare s'.gens) s₁:=by
 have rv:=Di hi
 have lenV:=hi.length
 -- from an abstract heap in which nothing but the script may be tracked
 have core:∀H:Hp,Only H→jY K H a (ns.map V.int)→xC P w H s₁.heap→(∀b,H b≠none→b=a)→(H a≠none→K.lookup a=none)→
   codeAny (model P w) callerA (.call (.ref fa) ⟨[.ref a],[]⟩) (fun r s'=>r = .ok (.ret (.bool true))∧OldK s₁.heap s'.heap∧s'.os=s₁.os∧AllBare s'.gens) s₁:=by
  intro H hO hS hok hA hK
  have N5:∀{b:Addr} {o:Obj},s₁.heap.get? b=some o→H b=none→(Gb s₁.heap H).get? b=some o:=fun e n=>T3 e n
  have noA:∀{b:Addr} {o:Obj} {es:Array DictEntry} {ep:Nat},s₁.heap.get? b=some o→o.data = .dict es ep→H b=none:=fun{b o es ep} e d=>by
   cases q:H b with
   | none=>rfl
   | some u=>
    have e':b=a:=hA b (by rw[q];simp)
    subst e'
    rw[ha] at e;cases e
    have d':Data.seq vs.toArray _=Data.dict es ep:=d
    cases d'
  have nsK:∀{b:Addr} {m:Str→Option Value},s₁.heap.Ns b m→(Gb s₁.heap H).Ns b m:=fun{b m} ⟨o,es,ep,e,d,r⟩=>⟨o,es,ep,N5 e (noA e d),d,r⟩
  have hKb:K.In (Gb s₁.heap H):=fun b o e=>N5 (KX b o e) (by
   cases q:H b with
   | none=>rfl
   | some u=>
    have e':b=a:=hA b (by rw[q];simp)
    subst e'
    rw[hK (by rw[q];simp)] at e;cases e)
  have hM:Mod K mg (Gb s₁.heap H):=⟨hKb,nsK hns,⟨mb,nsK hb,hbb⟩,let ⟨mc,h1,h2⟩:=hlim;⟨mc,nsK h1,h2⟩⟩
  have e0:Yz P w K mg (Gb s₁.heap H) callerA [] s₁ H:=⟨rfl,hM,fun b o e=>WT e,Nat.le_of_eq (Qc _ _),trivial,fun b hb=>absurd (show b∈([]:List Addr) from hb) (by simp),hok,.of_eq hg⟩
  refine codeAny_mono ((F _ hKb (nsK hns)).run callerA [] s₁ H ⟨[.ref a],[]⟩ [.ref a] [.ref a] _ _ hr e0 (hbind s₁ (.ref a)) (.cons rfl .nil) (hsp H hO hS)) fun r s' h=>?_
  cases r with
  | error e=>exact(hCX H e s' h).elim
  | ok fl=>
   cases fl with
   | next=>exact False.elim h
   | brk=>exact False.elim h
   | cont=>exact False.elim h
   | ret u=>
    obtain⟨v,H',os,bare,un,hok',r',q⟩:=h
    have q':v = .bl true:=q
    subst q'
    obtain rfl:u=Value.bool true:=r'
    refine⟨rfl,OldK.of_keep fun b o e=>?_,os,bare⟩
    cases q:H b with
    | none=>exact un.keep b o e q (by intro z;exact absurd (show b∈([]:List Addr) from z) (by simp)) (by simp)
    | some u=>
     rcases hO b with z|⟨ob,xs,z⟩
     ·rw[q] at z;cases z
     ·have z2:=un.Gf b ob _ z
      obtain⟨e1,_⟩:=hok b _ z
      obtain⟨e2,_⟩:=hok' b _ z2
      rw[e] at e1;cases e1
      exact e2
 cases hk:K.lookup a with
 | some o=>
  -- the script is one of the module's own objects
  have e:=KX a o hk
  rw[ha] at e
  cases e
  refine core (fun _=>none) (fun _=>.inl rfl) (.inr ⟨_,vs.toArray,_,hk,rfl,rfl,rfl,by rw[List.size_toArray,lenV];exact hl,by simpa using rv⟩) (fun b u z=>by have z':(none:Option HO)=some u:=z;cases z') (fun b z=>absurd rfl z) fun z=>absurd rfl z
 | none=>
  refine core (fun b=>if b=a then some (.Vn { cls:=.type "list",data:=.seq vs.toArray } (.lst (ns.map V.int))) else none) (fun b=>?_) (.inl (.inr ⟨{ cls:=.type "list",data:=.seq vs.toArray },if_pos rfl⟩)) (fun b u z=>?_) (fun b z=>?_) fun _=>hk
  ·by_cases hb:b=a
   ·exact .inr ⟨_,_,if_pos hb⟩
   ·exact .inl (if_neg hb)
  ·by_cases hb:b=a
   ·have z':=(if_pos hb).symm.trans z
    cases z'
    subst hb
    exact⟨ha,by rw[List.length_map];exact hl,vs,_,rv,ha⟩
   ·have z':=(if_neg hb).symm.trans z
    cases z'
  ·by_cases hb:b=a
   ·exact hb
   ·exact absurd (if_neg hb) z
end L2
namespace L2
open PySem PySem.Spec PyProof.Rows
noncomputable def bF(s:Stmt):Arguments:=match s with
 | .FunctionDef _ a _ _ _ _ _ _ _ _=>a
 | _=>{ posonlyargs:=[],args:=[],vararg:=none,kwonlyargs:=[],kw_defaults:=[],kwarg:=none,defaults:=[] }
noncomputable def bw(s:Stmt):List Stmt:=match s with
 | .FunctionDef _ _ b _ _ _ _ _ _ _=>b
 | _=>[]
noncomputable def aD(s:Stmt):Scope:=match s with
 | .FunctionDef _ _ _ _ _ _ sc _ _ _=>sc
 | _=>{ kind:=.function,names:=[],isGenerator:=false,isCoroutine:=false }
noncomputable abbrev GD:YB:=fun _ _ _ _ _ _=>False
noncomputable abbrev E0:XK:=fun _ _ _=>False
theorem M4{X:Cx}:Passes GD X E0:=fun _ _ _ _ _ _ _ h=>h.elim
structure Vu(K:PySem.W.Frag)(x qual:Str)(st:Stmt)(f:Addr)(fd:FuncData):Prop where
 ex:∃(oc:Value) (od:Option Addr) (kV doc pm:Value) (an:Option Addr) (cdv ct:Value) (osl:Array (Option Value)),
  fd=PySem.W.fnOf x qual (bF st) (bw st) (aD st) .none kV doc pm an cdv ct∧K.lookup f=some ⟨oc,od,.func fd,osl⟩∧PySem.W.codeIn K cdv qual=true
 kp:PySem.W.keepIn K (.ref f)=true
section
variable{P:Program}{w:World}{K:PySem.W.Frag}{mg:Str→Option Value}{base:Heap}
theorem Vu.ok{x qual:Str}{st:Stmt}{f:Addr}{fd:FuncData}{N ps:List Str}{k:Nat}{sp:Sp}(F:Vu K x qual st f fd)(S:bC N ps (aD st))(len:∀vs H Q E,sp vs H Q E→vs.length=ps.length)
  (hbody:∀(cdv:Value) (A:Around) (outer:List Env) (s:Shared) (H:Hp) (vs:List V) (Q:VK) (E:XK),iZ k (A.deeper (envOfC qual (aD st) s.heap.objs.size f cdv))→sp vs H Q E→
   ∃t,Js (Lr GD P w K mg base N qual (aD st) f cdv A outer s H E).nox (bw st) t∧t { nx:=fun _ H'=>Q .non H',rt:=Q } (start N vs) H):rF P w K mg base GD (k+1) f fd ps sp:=by
 obtain⟨oc,od,kV,doc,pm,an,cdv,ct,osl,rfl,lk,hcd⟩:=F.ex
 refine aiL lk hcd S len fun A outer s H vs Q E hr hsp=>?_
 obtain⟨t,h,q⟩:=hbody cdv A outer s H vs Q E hr hsp
 exact⟨t,h.nox,q⟩
theorem Vu.binds{x qual:Str}{st:Stmt}{f:Addr}{fd:FuncData}{ps:List Str}(F:Vu K x qual st f fd)
  (h:∀(kV doc pm:Value) (an:Option Addr) (cdv ct:Value) (us:List Value),us.length=ps.length→bindArgs (PySem.W.fnOf x qual (bF st) (bw st) (aD st) .none kV doc pm an cdv ct) ⟨us,[]⟩=pure (ps.zip us)):Binds K fd ps []:=by
 obtain⟨oc,od,kV,doc,pm,an,cdv,ct,osl,rfl,lk,hcd⟩:=F.ex
 exact .all (h kV doc pm an cdv ct)
theorem Ln{x qual:Str}{st:Stmt}{f:Addr}{oc:Value}{od an:Option Addr}{osl:Array (Option Value)}{kV doc pm cdv ct:Value}(l:K.lookup f=some ⟨oc,od,.func (PySem.W.fnOf x qual (bF st) (bw st) (aD st) .none kV doc pm an cdv ct),osl⟩)
  (c:PySem.W.codeIn K cdv qual=true) (k:PySem.W.keepIn K (.ref f)=true):Vu K x qual st f (PySem.W.fnOf x qual (bF st) (bw st) (aD st) .none kV doc pm an cdv ct):=⟨⟨oc,od,kV,doc,pm,an,cdv,ct,osl,rfl,l,c⟩,k⟩
end
theorem amr{A B:Prop}(h:B):if false=true then A else B:=by
 rw[if_neg Bool.false_ne_true]
 exact h
theorem amq{A B:Prop}(h:A):if true=true then A else B:=by
 rw[if_pos rfl]
 exact h
noncomputable def aO(H H':Hp):Prop:=∀b o,H b=some o→H' b=some o
theorem aO.refl(H:Hp):aO H H:=fun _ _ h=>h
theorem aO.trans{H H1 H2:Hp}(a:aO H H1)(b:aO H1 H2):aO H H2:=fun c o h=>b c o (a c o h)
theorem aO.free{H H':Hp}(e:aO H H'){l:Addr}(h:H' l=Option.none):H l=Option.none:=by
 cases q:H l with
 | none=>rfl
 | some o=>
  rw[e l o q] at h
  cases h
theorem aO.seq{K:PySem.W.Frag}{H H':Hp}{a:Addr}{xs:List V}(e:aO H H')(h:jY K H a xs):jY K H' a xs:=by
 rcases h with (h|⟨o,h⟩)|h
 ·exact .inl (.inl (e _ _ h))
 ·exact .inl (.inr ⟨o,e _ _ h⟩)
 ·exact .inr h
end L2
set_option maxHeartbeats 4000000
namespace L2
open PySem PySem.Spec PyProof.Rows
section
variable{κ:Type}[DecidableEq κ]
noncomputable def wR(kvs:List (κ×V))(k:κ):Option V:=(kvs.find? fun kv=>decide (kv.1=k)).map (·.2)
noncomputable def putK(kvs:List (κ×V))(k:κ)(v:V):List (κ×V):=
 if (kvs.any fun kv=>decide (kv.1=k))=true then kvs.map (fun kv=>if kv.1=k then (kv.1,v) else kv) else kvs++[(k,v)]
theorem wO{p:κ×V}{r:List (κ×V)}{k:κ}(e:p.1=k):wR (p::r) k=some p.2:=by simp[wR,List.find?_cons,e]
theorem wQ{p:κ×V}{r:List (κ×V)}{k:κ}(e:¬p.1=k):wR (p::r) k=wR r k:=by simp[wR,List.find?_cons,e]
theorem z6(k:κ):∀kvs:List (κ×V),(kvs.any fun kv=>decide (kv.1=k))=(wR kvs k).isSome
 | []=>rfl
 | p::r=>by
  rw[List.any_cons]
  by_cases e:p.1=k
  ·simp only[wO e,decide_eq_true e,Bool.true_or,Option.isSome_some]
  ·rw[wQ e,decide_eq_false e,Bool.false_or];exact z6 k r
theorem sO(kvs:List (κ×V))(k:κ)(v:V):(putK kvs k v).length≤kvs.length+1:=by
 unfold putK
 split
 ·rw[List.length_map];omega
 ·rw[List.length_append,List.length_cons,List.length_nil];omega
theorem Df.yz{o:Option V}{u:Option Value}(r:Df o u):o.isSome=u.isSome:=by
 cases o with
 | none=>cases u with
  | none=>rfl
  | some _=>exact(show False from r).elim
 | some _=>cases u with
  | none=>exact(show False from r).elim
  | some _=>rfl
theorem KV.val{kvs:List (κ×V)}{vs:List (κ×Value)}(r:KV kvs vs)(k:κ):Df (wR kvs k) (valueAt vs k):=by
 unfold KV at r
 induction r with
 | nil=>exact True.intro
 | @cons p q ps qs h t ih=>
  obtain⟨h1,h2⟩:=h
  by_cases e:p.1=k
  ·have e':q.1=k:=h1.symm.trans e
   have b:valueAt (q::qs) k=some q.2:=by simp[valueAt,List.find?_cons,e']
   rw[wO e,b];exact h2
  ·have e':¬q.1=k:=fun z=>e (h1.trans z)
   have b:valueAt (q::qs) k=valueAt qs k:=by simp[valueAt,List.find?_cons,e']
   rw[wQ e,b];exact ih
theorem KV.any{kvs:List (κ×V)}{vs:List (κ×Value)}(r:KV kvs vs)(k:κ):(kvs.any fun kv=>decide (kv.1=k))=vs.any fun kv=>decide (kv.1=k):=by
 unfold KV at r
 induction r with
 | nil=>rfl
 | cons h t ih=>rw[List.any_cons,List.any_cons,ih,h.1]
theorem KV.repl{kvs:List (κ×V)}{vs:List (κ×Value)}(r:KV kvs vs)(k:κ){y:V}{u:Value}(ry:RelV y u) :
  KV (kvs.map fun kv=>if kv.1=k then (kv.1,y) else kv) (vs.map fun kv=>if kv.1=k then (kv.1,u) else kv):=by
 unfold KV at r ⊢
 induction r with
 | nil=>exact .nil
 | @cons p q ps qs h t ih=>
  rw[List.map_cons,List.map_cons]
  refine .cons ?_ ih
  obtain⟨h1,h2⟩:=h
  by_cases e:p.1=k
  ·rw[if_pos e,if_pos (h1.symm.trans e)];exact⟨h1,ry⟩
  ·rw[if_neg e,if_neg (fun z=>e (h1.trans z))];exact⟨h1,h2⟩
theorem KV.put{kvs:List (κ×V)}{vs:List (κ×Value)}(r:KV kvs vs)(k:κ){y:V}{u:Value}(ry:RelV y u):KV (putK kvs k y) (stored vs k u):=by
 unfold putK stored
 rw[r.any k]
 by_cases e:(vs.any fun kv=>decide (kv.1=k))=true
 ·rw[if_pos e,if_pos e];exact r.repl k ry
 ·rw[if_neg e,if_neg e];exact Paired.snoc r ⟨rfl,ry⟩
theorem KV.keys{kvs:List (κ×V)}{vs:List (κ×Value)}(r:KV kvs vs):kvs.map (·.1)=vs.map (·.1):=by
 unfold KV at r
 induction r with
 | nil=>rfl
 | cons h t ih=>rw[List.map_cons,List.map_cons,ih,h.1]
theorem KV.length{kvs:List (κ×V)}{vs:List (κ×Value)}(r:KV kvs vs):kvs.length=vs.length:=Paired.length r
end
theorem HS{P:Program}{w:World}{k:Key}{u:Value}(r:RelV (kV k) u):(d7 P w).is k u=true:=by
 cases k with
 | inl i=>obtain⟨t,e⟩:=(show ∃t,u=Value.int i t from r);subst e;exact HF P w i t
 | inr x=>obtain⟨t,e⟩:=(show ∃t,u=Value.str x t from r);subst e;exact HD P w x t
theorem DN{P:Program}{w:World}:∀{ks:List Key} {us:List Value},Vals (ks.map kV) us→ItemsAre (d7 P w) ks us
 | [],_,r=>by rw[List.map_nil] at r;cases r;exact .nil
 | k::ks,_,r=>by
  rw[List.map_cons] at r
  cases r with
  | cons h t=>exact .cons (HS h) (DN t)
noncomputable abbrev KT(H:Hp):List (List Key×V)→List (List Key×Addr×Value)→Prop:=Paired fun p q=>p.1=q.1∧H q.2.1=some (.tup (p.1.map kV))∧RelV p.2 q.2.2
theorem KT.val{H:Hp}{kvs:List (List Key×V)}{xs:List (List Key×Addr×Value)}(r:KT H kvs xs)(k:List Key):Df (wR kvs k) ((atKey xs k).map (·.2)):=by
 induction r with
 | nil=>exact True.intro
 | @cons p q ps qs h t ih=>
  obtain⟨h1,_,h2⟩:=h
  by_cases e:p.1=k
  ·have e':q.1=k:=h1.symm.trans e
   have b:atKey (q::qs) k=some q.2:=by simp[atKey,List.find?_cons,e']
   rw[wO e,b];exact h2
  ·have e':¬q.1=k:=fun z=>e (h1.trans z)
   have b:atKey (q::qs) k=atKey qs k:=by simp[atKey,List.find?_cons,e']
   rw[wQ e,b];exact ih
theorem KT.repl{H:Hp}{kvs:List (List Key×V)}{xs:List (List Key×Addr×Value)}(r:KT H kvs xs)(k:List Key){y:V}{u:Value}(ry:RelV y u) :
  KT H (kvs.map fun kv=>if kv.1=k then (kv.1,y) else kv) (xs.map (putAt k u)):=by
 induction r with
 | nil=>exact .nil
 | @cons p q ps qs h t ih=>
  rw[List.map_cons,List.map_cons]
  refine .cons ?_ ih
  obtain⟨h1,h2,h3⟩:=h
  unfold putAt
  by_cases e:p.1=k
  ·rw[if_pos e,if_pos (h1.symm.trans e)];exact⟨h1,h2,ry⟩
  ·rw[if_neg e,if_neg (fun z=>e (h1.trans z))];exact⟨h1,h2,h3⟩
theorem KT.put{H:Hp}{kvs:List (List Key×V)}{xs:List (List Key×Addr×Value)}(r:KT H kvs xs)(k:List Key){b:Addr}{y:V}{u:Value}(hb:H b=some (.tup (k.map kV)))(ry:RelV y u) :
  KT H (putK kvs k y) (storedH xs k b u):=by
 have e:(kvs.any fun kv=>decide (kv.1=k))=(atKey xs k).isSome:=by
  rw[z6,(r.val k).yz,Option.isSome_map]
 unfold putK storedH
 rw[e]
 by_cases q:(atKey xs k).isSome=true
 ·rw[if_pos q,if_pos q];exact r.repl k ry
 ·rw[if_neg q,if_neg q];exact Paired.snoc r ⟨rfl,hb,ry⟩
theorem KT.keeps{H H':Hp}{kvs:List (List Key×V)}{xs:List (List Key×Addr×Value)}(r:KT H kvs xs)(ht:∀b ys,H b=some (.tup ys)→H' b=some (.tup ys)):KT H' kvs xs:=
 Paired.abC r fun _ _ z=>⟨z.1,ht _ _ z.2.1,z.2.2⟩
section
variable{P:Program}{w:World}{H:Hp}{h:Heap}{a:Addr}
theorem YJ{u:HO}(ok:xC P w H h)(e:Rd H a u):ik P w H h a u:=e.ok ok
theorem Jb{kvs:List (Key×V)}(ok:xC P w H h)(e:Rd H a (.dK kvs)):kvs.length≤sizeLine∧(a == sysModules)=false∧∃vs,KV kvs vs∧h.DictOf (d7 P w) a vs:=
 show ik P w H h a (.dK kvs) from YJ ok e
theorem aiU{kvs:List (Key×V)}(ok:xC P w H h)(e:H a=some (.dK kvs)):kvs.length≤sizeLine∧(a == sysModules)=false∧∃vs,KV kvs vs∧h.DictOf (d7 P w) a vs:=Jb ok (.inl e)
theorem FP{ks:List Key}(ok:xC P w H h)(e:H a=some (.tup (ks.map kV))):(tupleKind (d7 P w)).is h ks a:=by
 obtain⟨_,its,r,o,h1,h2,⟨n,h3⟩,_⟩:=(show ik P w H h a (.tup (ks.map kV)) from ok a _ e)
 exact⟨o,its.toArray,n,h1,h2,h3,by simpa using DN r⟩
theorem Nx{kvs:List (List Key×V)}(ok:xC P w H h)(e:Rd H a (.dT kvs)):kvs.length≤sizeLine∧(a == sysModules)=false∧
  ∃xs,KT H kvs xs∧h.DictOfH (tupleKind (d7 P w)) a xs:=by
 obtain⟨z,y,xs,r,o,es,ep,h1,h2,h3,h4,h5⟩:=(show ik P w H h a (.dT kvs) from YJ ok e)
 refine⟨z,y,xs,r,o,es,ep,h1,h2,h3,h4,fun x hx=>?_,h5⟩
 have all:∀{l:List (List Key×V)} {m:List (List Key×Addr×Value)},KT H l m→∀x∈m,(tupleKind (d7 P w)).is h x.1 x.2.1:=by
  intro l m q
  induction q with
  | nil=>intro x hx;exact nomatch hx
  | @cons p q ps qs hq t ih=>
   intro x hx
   rcases List.mem_cons.mp hx with e|hx
   ·subst e
    exact FP ok (by rw[←hq.1];exact hq.2.1)
   ·exact ih x hx
 exact all r x hx
theorem aiT{kvs:List (List Key×V)}(ok:xC P w H h)(e:H a=some (.dT kvs)):kvs.length≤sizeLine∧(a == sysModules)=false∧
  ∃xs,KT H kvs xs∧h.DictOfH (tupleKind (d7 P w)) a xs:=Nx ok (.inl e)
end
noncomputable def QB(H:Hp)(a:Addr)(y:V)(r:Option V):Prop:=
 (∃kvs k,Rd H a (.dK kvs)∧y=kV k∧r=wR kvs k)∨∃kvs k b,Rd H a (.dT kvs)∧y = .ref b∧H b=some (.tup (k.map kV))∧r=wR kvs k
noncomputable def Vi(H:Hp)(a:Addr)(y v:V)(H':Hp):Prop:=
 (∃kvs k,H a=some (.dK kvs)∧y=kV k∧kvs.length<sizeLine∧H'=upd H a (.dK (putK kvs k v)))∨
 ∃kvs k b,H a=some (.dT kvs)∧y = .ref b∧H b=some (.tup (k.map kV))∧kvs.length<sizeLine∧H'=upd H a (.dT (putK kvs k v))
theorem Vi.k{H:Hp}{a:Addr}{kvs:List (Key×V)}{k:Key}{v:V}(e:H a=some (.dK kvs))(hl:kvs.length<sizeLine):Vi H a (kV k) v (upd H a (.dK (putK kvs k v))):=.inl ⟨kvs,k,e,rfl,hl,rfl⟩
section
variable{X:Cx}{pins:List (Addr×Obj)}{σ:St}{H:Hp}{s:Shared}{a:Addr}{y v:V}{u r:Value}{o:Option V}{A:Around}{E:Value→Shared→Prop}
theorem Inv.big(I:Inv X pins σ H s):sysModules<s.heap.objs.size:=by
 have h:mainGlobals<s.heap.objs.size:=(I.mod.glob.keeps I.bk).lt
 exact Nat.lt_trans (by decide) h
theorem Qn{Q:Value→Shared→Prop}(hu:A.units+1<cLine)(I:Inv X pins σ H s)(g:QB H a y (some v))(ry:RelV y u)(h:∀w' s',Inv X pins σ H s'→RelV v w'→Q w' s') :
  wpAny (model X.prog X.w) A (getItem (.ref a) u) Q E s:=by
 rcases g with ⟨kvs,k,e,ey,l⟩|⟨kvs,k,b,e,ey,eb,l⟩
 ·subst ey
  obtain⟨z,hd,vs,rel,dd⟩:=Jb I.hok e
  obtain⟨w',hw,V4⟩:=Df.some_of (v:=v) (o:=valueAt vs k) (by rw[l];exact rel.val k)
  exact wpAny_getItem_of (HS ry) dd.mapOf hw (h w' _ (I.tok _) V4)
 ·subst ey
  cases(show u=Value.ref b from ry)
  obtain⟨z,hd,xs,rel,dd⟩:=Nx I.hok e
  obtain⟨w',hw,V4⟩:=Df.some_of (v:=v) (o:=(atKey xs k).map (·.2)) (by rw[l];exact rel.val k)
  obtain⟨p,hp,hp2⟩:=Option.map_eq_some_iff.mp hw
  refine wpAny_getItem_heap (tupleKind_room_in1 hu) (FP I.hok eb) dd hp ?_
  rw[hp2]
  exact h w' _ (I.tok _) V4
theorem ani{Q:Value→Shared→Prop}(hu:A.units+1<cLine)(I:Inv X pins σ H s)(g:QB H a y o)(ry:RelV y u)(h:∀s',Inv X pins σ H s'→Q (.bool o.isSome) s') :
  wpAny (model X.prog X.w) A (compareOp .In u (.ref a)) Q E s:=by
 rcases g with ⟨kvs,k,e,ey,l⟩|⟨kvs,k,b,e,ey,eb,l⟩
 ·subst ey
  obtain⟨z,hd,vs,rel,dd⟩:=Jb I.hok e
  refine wpAny_in_of (HS ry) hd dd.mapOf ?_
  rw[←(rel.val k).yz,←l]
  exact h _ (I.tok _)
 ·subst ey
  cases(show u=Value.ref b from ry)
  obtain⟨z,hd,xs,rel,dd⟩:=Nx I.hok e
  refine wpAny_in_heap (tupleKind_room_in1 hu) (FP I.hok eb) hd dd ?_
  have q:=(rel.val k).yz
  rw[Option.isSome_map] at q
  rw[←q,←l]
  exact h _ (I.tok _)
theorem Ny{h':Heap}{t':Nat}{ob:HO}(I:Inv X pins σ H s)(mu:Mut (H a))(hs:Heap.SameBut a s.heap h')(he:∃q,h'.get? a=some q)(new:ik X.prog X.w (upd H a ob) h' a ob) :
  Inv X pins σ (upd H a ob) { s with heap:=h',toks:=t' }:=
 I.write (x:=a) (e:=a) mu (.inl rfl) (fun b q hb z=>(hs.2 b hb).trans z) he new
theorem adW{P:Program}{w:World}{H':Hp}{h':Heap}{kvs:List (Key×V)}{vs:List (Key×Value)}(z:kvs.length≤sizeLine)(hd:(a == sysModules)=false)(rel:KV kvs vs)(dd:h'.DictOf (d7 P w) a vs) :
  ik P w H' h' a (.dK kvs):=⟨z,hd,vs,rel,dd⟩
theorem Qm{H':Hp}{Q:Unit→Shared→Prop}(hu:A.units+1<cLine)(I:Inv X pins σ H s)(g:Vi H a y v H')(ry:RelV y u)(rv:RelV v r)(h:∀s',Inv X pins σ H' s'→Q () s') :
  wpAny (model X.prog X.w) A (setItem (.ref a) u r) Q E s:=by
 rcases g with ⟨kvs,k,e,ey,l,eH⟩|⟨kvs,k,b,e,ey,eb,l,eH⟩
 ·subst ey eH
  obtain⟨z,hd,vs,rel,dd⟩:=aiU I.hok e
  have hz:vs.length≤sizeLine:=by rw[←rel.length];exact z
  have hl:(putK kvs k v).length≤sizeLine:=by have:=sO kvs k v;omega
  refine wpAny_setItem_pairs (hsz:=hz) (HS ry) dd fun h' dd' hs=>h _ ?_
  have he:∃q,h'.get? a=some q:=let ⟨q,_,_,hq,_⟩:=dd';⟨q,hq⟩
  exact Ny I (by rw[e];exact True.intro) hs he (adW hl hd (rel.put k rv) dd')
 ·subst ey eH
  cases(show u=Value.ref b from ry)
  obtain⟨z,hd,xs,rel,dd⟩:=aiT I.hok e
  have hz:xs.length≤sizeLine:=by rw[←Paired.length rel];exact z
  have hl:(putK kvs k v).length≤sizeLine:=by have:=sO kvs k v;omega
  refine wpAny_setItem_heap (hsz:=hz) (tupleKind_room_in1 hu) (FP I.hok eb) dd fun h' dd' hs=>h _ ?_
  obtain⟨q,es,ep,hq,h2,h3,h4,_,h5⟩:=dd'
  refine Ny I (by rw[e];exact True.intro) hs ⟨q,hq⟩ ⟨hl,hd,_,(rel.put k eb rv).keeps fun c ys ec=>?_,q,es,ep,hq,h2,h3,h4,h5⟩
  rw[bK (ahh ec e (fun z=>nomatch z))]
  exact ec
end
noncomputable def Vh(i:Expr):Prop:=∀ov iv,subscripted i false ov iv=operate [ov,iv] (getItem ov iv)
theorem VH{prog:Program}{w:World}{A:Around}{E:Value→Shared→Prop}{s:Shared}{env:Env}{value slice:Expr}{pos:Pos}{T id:String}{Q:Value→Shared→Prop}
  (hl:typeLookup (.type T) "__getitem__" = pure (some (.builtin id))) (hs:Vh slice)
  (h:wpAny (model prog w) A (eval value env) (fun o s₁=>wpAny (model prog w) A (eval slice env) (fun i s₂=>s₂.TypeIs o T∧wpAny (model prog w) A (getItem o i) Q E s₂) E s₁) E s) :
  wpAny (model prog w) A (eval (.Subscript value slice pos) env) Q E s:=by
 refine Subscript_ (wpAny_mono h (fun o s₁ h₁=>wpAny_mono h₁ (fun i s₂ h₂=>?_) fun _ _ x=>x) fun _ _ x=>x)
 obtain⟨hT,h₂⟩:=h₂
 unfold subscriptTail
 refine wpAny_bind ?_
 rw[getitemInPython_of_ne hT.not_modules]
 refine wpAny_bind (wpAny_specialOf hT hl ?_)
 have fin:wpAny (model prog w) A (subscripted slice false o i) (fun r s₃=>wpAny (model prog w) A (letTemporaryGo value o r >>= fun _=>pure r) Q E s₃) E s₂:=by
  rw[hs o i]
  exact wpAny_operating (wpAny_mono h₂ (fun r s₃ h₃=>wpAny_bind (wpAny_letTemporaryGo (wpAny_pure h₃))) fun _ _ x=>x)
 first
  | exact wpAny_pure (wpAny_bind fin)
  | exact wpAny_bind (wpAny_pure (wpAny_bind fin))
  | exact wpAny_bind fin
theorem Jc{X:Cx}{pins:List (Addr×Obj)}{σ:St}{H:Hp}{s:Shared}{a:Addr}{y:V}{o:Option V}(I:Inv X pins σ H s)(g:QB H a y o):s.TypeIs (.ref a) "dict":=by
 rcases g with ⟨kvs,k,e,_,_⟩|⟨kvs,k,b,e,_,_,_⟩
 ·obtain⟨_,_,vs,_,dd⟩:=Jb I.hok e
  exact dd.typeIs
 ·obtain⟨_,_,xs,_,dd⟩:=Nx I.hok e
  exact dd.typeIs
noncomputable def aeC(td ty:TE):TE:=fun σ H Q=>td σ H fun x H1=>ty σ H1 fun y H2=>∃a v,x = .ref a∧QB H2 a y (some v)∧Q v H2
noncomputable def afc(td ty tv:TE):TS:=fun D σ H=>tv σ H fun v H1=>td σ H1 fun x H2=>ty σ H2 fun y H3=>∃a H4,x = .ref a∧Vi H3 a y v H4∧D.nx σ H4
section
variable{X:Cx}{o i e value:Expr}{pos pos' tpos:Pos}{td ty tv:TE}
theorem WD(hu:X.A.units+1<cLine)(ho:PE X o td)(hi:PE X i ty)(hs:Vh i):PE X (.Subscript o i pos) (aeC td ty):=by
 intro pins s σ H Q I h
 refine VH PySem.F.slot_dict_getitem.lookup hs (gw (ho pins s σ H _ I h) fun u s1 ⟨x,H1,I1,rx,q1⟩=>gw (hi pins s1 σ H1 _ I1 q1) fun iv s2 ⟨y,H2,I2,ry,a,v,ex,g,q2⟩=>?_)
 subst ex
 obtain rfl:u=Value.ref a:=rx
 exact⟨Jc I2 g,Qn hu I2 g ry fun w' s3 I3 V4=>⟨v,H2,I3,V4,q2⟩⟩
theorem Wq(hu:X.A.units+1<cLine)(ho:PE X o td)(hi:PE X i ty)(hv:PE X value tv)(hs:swapsWith value (some (.Subscript o i pos')) pos.line X.env=pure false) :
  PS X (.Assign [.Subscript o i pos'] value pos) (afc td ty tv):=by
 intro pins s σ H D I h
 refine wpAny_Assign_Subscript (gw (hv pins s σ H _ I h) fun r s1 ⟨v,H1,I1,rv,q1⟩=>gw (ho pins s1 σ H1 _ I1 q1) fun u s2 ⟨x,H2,I2,rx,q2⟩=>gw (hi pins s2 σ H2 _ I2 q2) fun iv s3 ⟨y,H3,I3,ry,a,H4,ex,g,q3⟩=>?_) hs
 subst ex
 obtain rfl:u=Value.ref a:=rx
 exact Qm hu I3 g ry rv fun s4 I4=>⟨σ,H4,I4,q3⟩
end
theorem Ux{P:Program}{w:World}{H:Hp}(h:Heap)(hb:sysModules<h.objs.size):ik P w H (h.push { cls:=.type "dict",data:=.dict #[] }) h.objs.size (.dK []):=
 ⟨Nat.zero_le _,beq_eq_false_iff_ne.mpr (Ne.symm (Nat.ne_of_lt hb)),[],.nil,Heap.DictOf.new h⟩
noncomputable def aar:TE:=fun _ H Q=>∀p,H p=none→Q (.ref p) (upd H p (.dK []))
section
variable{X:Cx}{pos:Pos}
theorem RQ:PE X (.Dict [] [] pos) aar:=fun pins s σ H Q I h=>
 wpAny_Dict_empty ⟨.ref s.heap.objs.size,_,I.laid (a:=s.heap.objs.size) (o:=.dK []) (t':=s.toks) (fun _ _ q=>Heap.get?_push_of_some _ q) (Nat.le_refl _) (Ux s.heap I.big),rfl,h _ (I.hok.fresh (Nat.le_refl _))⟩
end
end L2
namespace L2
open PySem PySem.Spec PyProof.Rows
noncomputable def mK(env:Env):List (Str×NameKind)→List (Str×Addr)→List (Str×Addr)
 | [],acc=>acc
 | (n,k)::r,acc=>if k == .free then mK env r ((n,(env.cells.lookup n).getD 0)::acc) else mK env r acc
theorem BJ{env:Env}(f:Str×NameKind→List (Str×Addr)→Sem (ForInStep (List (Str×Addr))))
  (hf:∀n k cs,f (n,k) cs=if k == .free then (do let a ←cellOf env n;pure (.yield ((n,a)::cs))) else pure (.yield cs)) :
  ∀(names:List (Str×NameKind)) (acc:List (Str×Addr)),(∀n,(n,NameKind.free)∈names→∃c,env.cells.lookup n=some c)→forIn names acc f=pure (mK env names acc)
 | [],acc,_=>by rw[List.forIn_nil];rfl
 | (n,k)::r,acc,h=>by
  have ih:=BJ f hf r
  have hr:∀n,(n,NameKind.free)∈r→∃c,env.cells.lookup n=some c:=fun m hm=>h m (List.mem_cons_of_mem _ hm)
  rw[List.forIn_cons,hf]
  cases hk:k == NameKind.free with
  | true=>
   have hk':k = .free:=by simpa using hk
   obtain⟨c,hc⟩:=h n (by rw[hk'];exact List.mem_cons_self)
   rw[if_pos rfl]
   unfold cellOf
   rw[hc]
   simp only[pure_bind]
   rw[ih _ hr]
   conv=>rhs;unfold mK
   rw[if_pos hk,hc]
   rfl
  | false=>
   rw[if_neg (by simp)]
   simp only[pure_bind]
   rw[ih _ hr]
   conv=>rhs;unfold mK
   rw[if_neg (by simp[hk])]
theorem vN{scope:Scope}{env:Env}(h:∀n,(n,NameKind.free)∈scope.names→∃c,env.cells.lookup n=some c):closureFor scope env=pure (mK env scope.names []):=by
 simp only[closureFor]
 rw[BJ (env:=env) _ (fun n k cs=>by cases hk:k == NameKind.free<;>simp[hk]) _ _ h]
 rfl
theorem xu{env:Env}:∀(names:List (Str×NameKind)) (acc:List (Str×Addr)) (x:Str) (c:Addr),(∀n,(n,NameKind.free)∈names→∃c,env.cells.lookup n=some c)→
  (∀y d,acc.lookup y=some d→env.cells.lookup y=some d)→(mK env names acc).lookup x=some c→env.cells.lookup x=some c
 | [],acc,x,c,_,ha,h=>ha x c h
 | (n,k)::r,acc,x,c,hn,ha,h=>by
  have hr:∀n,(n,NameKind.free)∈r→∃c,env.cells.lookup n=some c:=fun m hm=>hn m (List.mem_cons_of_mem _ hm)
  unfold mK at h
  split at h
  ·rename_i hk
   have hk':k = .free:=by simpa using hk
   obtain⟨d,hd⟩:=hn n (by rw[hk'];exact List.mem_cons_self)
   refine xu r _ x c hr (fun y e he=>?_) h
   rw[List.lookup_cons] at he
   cases hy:y == n with
   | true=>
    rw[hy] at he
    have e1:y=n:=by simpa using hy
    rw[e1,hd]
    rw[hd] at he
    exact he
   | false=>
    rw[hy] at he
    exact ha y e he
  ·exact xu r acc x c hr ha h
theorem yG{env:Env}:∀(names:List (Str×NameKind)) (acc:List (Str×Addr)) (x:Str),(acc.lookup x).isSome=true→((mK env names acc).lookup x).isSome=true
 | [],acc,x,h=>h
 | (n,k)::r,acc,x,h=>by
  unfold mK
  split
  ·refine yG r _ x ?_
   rw[List.lookup_cons]
   split
   ·rfl
   ·exact h
  ·exact yG r acc x h
theorem xr{env:Env}:∀(names:List (Str×NameKind)) (acc:List (Str×Addr)) (x:Str),(x,NameKind.free)∈names→((mK env names acc).lookup x).isSome=true
 | [],acc,x,h=>nomatch h
 | (n,k)::r,acc,x,h=>by
  unfold mK
  rcases List.mem_cons.mp h with e|h
  ·obtain⟨e1,e2⟩:=Prod.mk.inj e
   subst e1 e2
   rw[if_pos (by rfl)]
   refine yG r _ x ?_
   rw[List.lookup_cons]
   simp
  ·split
   ·exact xr r _ x h
   ·exact xr r acc x h
theorem gj:∀(names:List (Str×NameKind)) (n:Nat) (acc:List (Str×Addr)),cellsFrom n names acc=cellsFrom n names []++acc
 | [],n,acc=>rfl
 | (x,k)::r,n,acc=>by
  unfold cellsFrom
  split
  ·rw[gj r (n+1) ((x,n)::acc),gj r (n+1) [(x,n)],List.append_assoc]
   rfl
  ·exact gj r n acc
theorem o8:∀(names:List (Str×NameKind)) (n:Nat) (x:Str) (c:Addr),(x,c)∈cellsFrom n names []→(x,NameKind.cell)∈names
 | [],n,x,c,h=>nomatch h
 | (y,k)::r,n,x,c,h=>by
  unfold cellsFrom at h
  split at h
  ·rename_i hk
   have hk':k = .cell:=by simpa using hk
   rw[gj] at h
   rcases List.mem_append.mp h with h|h
   ·exact List.mem_cons_of_mem _ (o8 r _ x c h)
   ·have e:=List.mem_singleton.mp h
    cases e
    rw[hk']
    exact List.mem_cons_self
  ·exact List.mem_cons_of_mem _ (o8 r _ x c h)
theorem qC{α:Type}:∀(l m:List (Str×α)) (x:Str),(l++m).lookup x=match l.lookup x with|some v=>some v|none=>m.lookup x
 | [],m,x=>rfl
 | (k,v)::r,m,x=>by
  rw[List.cons_append,List.lookup_cons,List.lookup_cons]
  cases h:x == k with
  | true=>rfl
  | false=>exact qC r m x
theorem sI{α:Type}:∀(l:List (Str×α)) (x:Str),(∀v,(x,v) ∉ l)→l.lookup x=none
 | [],x,_=>rfl
 | (k,v)::r,x,h=>by
  rw[List.lookup_cons]
  cases e:x == k with
  | true=>
   have e':x=k:=by simpa using e
   exact absurd (by rw[e'];exact List.mem_cons_self) (h v)
  | false=>exact sI r x fun w hw=>h w (List.mem_cons_of_mem _ hw)
theorem lookup_mem{α:Type}:∀(l:List (Str×α)) (x:Str) (v:α),l.lookup x=some v→(x,v)∈l
 | [],x,v,h=>nomatch h
 | (k,w)::r,x,v,h=>by
  rw[List.lookup_cons] at h
  cases e:x == k with
  | true=>
   rw[e] at h
   cases h
   have e':x=k:=by simpa using e
   rw[e']
   exact List.mem_cons_self
  | false=>
   rw[e] at h
   exact List.mem_cons_of_mem _ (lookup_mem r x v h)
theorem iB{α:Type}:∀(l:List (Str×α)) (x:Str) (v:α),(l.map (·.1)).Nodup→(x,v)∈l→l.lookup x=some v
 | [],x,v,_,h=>nomatch h
 | (k,w)::r,x,v,nd,h=>by
  rw[List.lookup_cons]
  have nd':=List.nodup_cons.mp nd
  rcases List.mem_cons.mp h with e|h
  ·cases e
   simp
  ·have hne:¬x=k:=fun e=>nd'.1 (by rw[←e];exact List.mem_map.mpr ⟨(x,v),h,rfl⟩)
   have hb:(x == k)=false:=by simpa using hne
   rw[hb]
   exact iB r x v nd'.2 h
theorem yW{M:Model}{A:Around}{E:Value→Shared→Prop}{s:Shared}{scope:Scope}{globals:Addr}{cl:List (Str×Addr)}{qual:Str}{outer:Env}{Q:Env→Shared→Prop}
  (hQ:∀h',h'.Ns s.heap.objs.size (fun _=>none)→(∀b o,s.heap.get? b=some o→h'.get? b=some o)→CellsOk h' (s.heap.objs.size+1) (cellsFrom (s.heap.objs.size+1) scope.names [])→
   Q { scope,locals:=s.heap.objs.size,globals,cells:=cellsFrom (s.heap.objs.size+1) scope.names cl,qual,func:=none,code:=outer.code,frame:=outer.frame,builtins:=outer.builtins } { s with heap:=h' }) :
  wpAny M A (newFunctionEnv scope globals cl [] qual none .none (some outer)) Q E s:=by
 simp only[newFunctionEnv,Option.isSome_some,if_true]
 refine wpAny_bind (wpAny_alloc ?_)
 refine wpAny_bind (wpAny_layCells _ (fun name kind cells=>by cases hkc:kind == NameKind.cell<;>simp[hkc]) _ _ _ _ ?_)
 have ok:=cellsFrom_ok scope.names (s.heap.push { cls:=.type "dict",data:=.dict #[] }) (s.heap.objs.size+1) [] ⟨fun _ _ hm=>(nomatch hm),List.Pairwise.nil⟩ (by rw[Heap.size_push];exact Nat.le_refl _)
 rw[Heap.size_push] at ok
 rw[show({ s with heap:=s.heap.push { cls:=.type "dict",data:=.dict #[] } }:Shared).heap.objs.size=s.heap.objs.size+1 from Heap.size_push ..]
 refine wpAny_bind ?_
 rw[List.forIn_nil]
 refine wpAny_pure (wpAny_pure (hQ _ ?_ ?_ ?_))
 ·exact(Heap.Ns.new s.heap (.type "dict")).keeps (pushCells_keeps _ _)
 ·exact fun b o e=>pushCells_keeps _ _ b o (Heap.get?_push_of_some _ e)
 ·exact ok
end L2
namespace L2
open PySem PySem.Spec PyProof.Rows
noncomputable def cxC(X:Cx)(scope:Scope)(N':List Str)(cells:List (Str×Addr))(C:Addr)(s0:Shared)(H0:Hp)(fp:List Addr):Cx:=
 { X with N:=N',s₀:=s0,H₀:=H0,env:=compEnvC scope cells C X.env,outer:=X.stack,stack:=X.stack,ex:=fp,fn:=fun x=>decide (scope.names.lookup x=some .cell),pn:=[],xe:=fun _ _=>False }
theorem sH{env:Env}:∀(names:List (Str×NameKind)) (x:Str),
  (names.map fun(n,k)=>if (k == NameKind.free&&env.scope.kind == .function&&env.kindOf n == some .cell) then (n,NameKind.cell) else (n,k)).lookup x =
   (names.lookup x).map fun k=>if (k == NameKind.free&&env.scope.kind == .function&&env.kindOf x == some .cell) then NameKind.cell else k
 | [],x=>rfl
 | (n,k)::r,x=>by
  show List.lookup x ((if (k == NameKind.free&&env.scope.kind == .function&&env.kindOf n == some .cell)=true then (n,NameKind.cell) else (n,k))::_)=_
  cases hx:x == n with
  | true=>
   have e:x=n:=by simpa using hx
   subst e
   simp only[List.lookup_cons,hx,Option.map_some]
   split<;>simp[List.lookup_cons]
  | false=>
   simp only[List.lookup_cons,hx]
   rw[←sH r x]
   split<;>simp only[List.lookup_cons,hx]
noncomputable def UG(names:List (Str×NameKind)):List Str→List Str→Bool
 | _,[]=>true
 | [],_::_=>false
 | x'::N',x::N=>((names.lookup x').isNone||(x' == x&&names.lookup x' == some .free))&&UG names N' N
theorem Jh{names:List (Str×NameKind)}:∀{N' N:List Str},UG names N' N=true→∀(i:Nat) (x:Str),i<N.length→N'[i]? = some x→(names.lookup x).isSome=true→N[i]? = some x∧names.lookup x=some .free
 | _,[],_,i,x,h,_,_=>absurd h (Nat.not_lt_zero _)
 | [],_::_,h,_,_,_,_,_=>by cases h
 | x'::N',y::N,h,i,x,hi,e,hs=>by
  unfold UG at h
  have h1:=(Bool.and_eq_true_iff.mp h).1
  have h2:=(Bool.and_eq_true_iff.mp h).2
  cases i with
  | zero=>
   have e':x'=x:=by simpa using e
   subst e'
   rcases Bool.or_eq_true_iff.mp h1 with q|q
   ·cases z:names.lookup x' with
    | none=>rw[z] at hs;cases hs
    | some k=>rw[z] at q;cases q
   ·have q1:=(Bool.and_eq_true_iff.mp q).1
    have q2:=(Bool.and_eq_true_iff.mp q).2
    have e1:x'=y:=by simpa using q1
    have e2:names.lookup x'=some .free:=by simpa using q2
    exact⟨by rw[e1];rfl,e2⟩
  | succ i=>exact Jh h2 i x (by simpa using hi) (by simpa using e) hs
structure jG(X:Cx)(scope:Scope)(N':List Str):Prop where
 kind:scope.kind = .function
 nd:(scope.names.map (·.1)).Nodup
 free:∀x∈scope.names,x.2 = .free→X.env.kindOf x.1=some .cell∨X.env.kindOf x.1=some .free
 chk:UG scope.names N' X.N=true
 len:X.N.length≤N'.length
noncomputable def Z6(X:Cx)(ifs:List Expr)(t:TT):Prop:=
 ∀(pins:List (Addr×Obj)) (s:Shared) (σ:St) (H:Hp) (Q:Bool→Hp→Prop),Inv X pins σ H s→t σ H Q→
  wpAny (model X.prog X.w) X.A (forIn ifs true fun c r=>if r=true then do let ok ←isTrue c X.env (eval c X.env);pure (ForInStep.yield ok) else pure (ForInStep.yield r)) (TP X pins σ Q) X.xe s
theorem Wv{X:Cx}:Z6 X [] (fun _ H Q=>Q true H):=fun pins s σ H Q I h=>by
 rw[List.forIn_nil]
 exact wpAny_pure ⟨H,I,h⟩
theorem Wu{X:Cx}{c:Expr}{t:TT}(h:PT X c t):Z6 X [c] t:=fun pins s σ H Q I hw=>by
 rw[List.forIn_cons,if_pos rfl]
 refine wpAny_bind (wpAny_bind (gw (h pins s σ H Q I hw) fun b s' q=>?_))
 refine wpAny_pure ?_
 show wpAny _ _ (forIn [] b _) _ _ _
 rw[List.forIn_nil]
 exact wpAny_pure q
noncomputable def rZ(n:Nat)(σ:St):St:=σ++List.replicate n none
noncomputable def tLC(n:Nat)(wi:TI)(g:TG)(tc:TT)(te:TE):TE:=fun σ H Q=>wi σ H fun J H1=>∀d,H1 d=none→∃W:Nat→Nat→St→Hp→Prop,(∃m,W 0 m (rZ (n - σ.length) σ) (upd H1 d (.lst [])))∧∀i m σ' H',W i m σ' H'→
 (J.stop i H'∧Q (.ref d) H')∨(J.go i H'∧∃N:St→Hp→Prop,(∀σ2 H2,N σ2 H2→∃m',m'<m∧W (i+1) m' σ2 H2)∧∀x H2,J.Vw i H' x H2→g x σ' H2 fun σ3 H3=>tc σ3 H3 fun b H4=>
  if b=true then te σ3 H4 fun y H5=>∃ys,H5 d=some (.lst ys)∧ys.length<sizeLine∧N σ3 (upd H5 d (.lst (ys++[y]))) else N σ3 H4)
section
variable{prog:Program}{w:World}{A:Around}{R:Result→Shared→Prop}{s:Shared}
theorem Gk{elt target iter:Expr}{ifs:List Expr}{scope:Scope}{pos:Pos}{it acc:Value}{env:Env}(I:Nat→Shared→Prop)
  (turn:∀n s,I n s→wpAny (model prog w) A (pyNext it) (fun r s₁=>match r with
   | none=>R (.ok .next) s₁
   | some v=>wpAny (model prog w) A (letOwnedTupleGo target it v) (fun _ s₁'=>wpAny (model prog w) A (assign target env v) (fun _ s₂=>
     wpAny (model prog w) A (forIn ifs true fun c r=>if r=true then do let ok ←isTrue c env (eval c env);pure (ForInStep.yield ok) else pure (ForInStep.yield r)) (fun ok s₃=>
      if ok=true then wpAny (model prog w) A (eval elt env) (fun x s₄=>
       wpAny (model prog w) A (call (.builtin "list.append") [acc,x]) (fun _ s₅=>∃m,m<n∧I m s₅) (fun _ _=>False) s₄) (fun _ _=>False) s₃
      else ∃m,m<n∧I m s₃) (fun _ _=>False) s₂) (fun _ _=>False) s₁') (fun _ _=>False) s₁) (fun _ _=>False) s)
  (n:Nat) (h:I n s) :
  codeAny (model prog w) A (.compLoop (.ListComp elt [⟨target,iter,ifs,0⟩] scope pos) 0 it acc env) R s:=by
 refine codeAny_loop rfl I (fun n s hI=>?_) n h
 show wpAny _ A ((compTurn (.ListComp elt [⟨target,iter,ifs,0⟩] scope pos) 0 it acc env).onRaise (fun x=>do noteFrame x env;theTreesLotGoes x)) _ _ s
 refine wpAny_noted ?_
 rw[compTurn_list]
 refine wpAny_bind (wpAny_standAt (wpAny_bind (wpAny_mono (turn n s hI) (fun r s₁ h₁=>?_) fun _ _ h'=>h'.elim)))
 cases r with
 | none=>exact wpAny_pure h₁
 | some v=>
  refine wpAny_bind (wpAny_mono h₁ (fun _ s₁' h₁'=>?_) fun _ _ h'=>h'.elim)
  refine wpAny_bind (wpAny_mono h₁' (fun _ s₂ h₂=>wpAny_bind (wpAny_mono h₂ (fun ok s₃ h₃=>?_) fun _ _ h'=>h'.elim)) fun _ _ h'=>h'.elim)
  cases ok with
  | false=>exact wpAny_pure ⟨rfl,h₃⟩
  | true=>
   exact wpAny_bind (wpAny_bind (wpAny_mono h₃ (fun x s₄ h₄=>wpAny_bind (wpAny_mono h₄ (fun _ s₅ h₅=>wpAny_pure (wpAny_pure ⟨rfl,h₅⟩)) fun _ _ h'=>h'.elim)) fun _ _ h'=>h'.elim))
end
theorem HY{X:Cx}{scope:Scope}{N':List Str}{pins:List (Addr×Obj)}{σ:St}{H:Hp}{s:Shared}{h':Heap}{fp:List Addr}(ok:jG X scope N')(I:Inv X pins σ H s)(hf:∀b∈fp,qp X pins H b)(hlt:∀b∈fp,b<s.heap.objs.size)
  (hn:h'.Ns s.heap.objs.size (fun _=>none)) (hk:∀b o,s.heap.get? b=some o→h'.get? b=some o) (co:CellsOk h' (s.heap.objs.size+1) (cellsFrom (s.heap.objs.size+1) scope.names [])) :
  Inv (cxC X scope N' (cellsFrom (s.heap.objs.size+1) scope.names (mK X.env scope.names [])) s.heap.objs.size s H fp) [] (rZ (N'.length - σ.length) σ) H { s with heap:=h' }:=by
 have hfree:∀n,(n,NameKind.free)∈scope.names→∃c,X.env.cells.lookup n=some c:=fun n hm=>I.ok.has n (ok.free _ hm rfl)
 -- the cells by name
 have qQ:∀x c,(cellsFrom (s.heap.objs.size+1) scope.names (mK X.env scope.names [])).lookup x=some c→
   ((x,c)∈cellsFrom (s.heap.objs.size+1) scope.names []∧(cellsFrom (s.heap.objs.size+1) scope.names []).lookup x=some c)∨((cellsFrom (s.heap.objs.size+1) scope.names []).lookup x=none∧X.env.cells.lookup x=some c):=fun x c e=>by
  rw[gj,qC] at e
  cases q:(cellsFrom (s.heap.objs.size+1) scope.names []).lookup x with
  | some d=>rw[q] at e;cases e;exact .inl ⟨lookup_mem _ _ _ q,rfl⟩
  | none=>rw[q] at e;exact .inr ⟨rfl,xu _ _ x c hfree (fun y d h=>by simp at h) e⟩
 have Aq:∀x c,(x,c)∈cellsFrom (s.heap.objs.size+1) scope.names []→s.heap.objs.size+1≤c:=fun x c h=>(co.empty x c h).2
 have RX:∀x c,X.env.cells.lookup x=some c→c<s.heap.objs.size:=fun x c h=>let ⟨v,q⟩:=I.cell x c h;q.lt
 have FN:∀x,(relabel scope X.env).names.lookup x=(scope.names.lookup x).map fun k=>if (k == NameKind.free&&X.env.scope.kind == .function&&X.env.kindOf x == some .cell) then NameKind.cell else k:=fun x=>sH _ _
 have Ig:∀x,(x,NameKind.cell)∈scope.names→∃c,(cellsFrom (s.heap.objs.size+1) scope.names []).lookup x=some c:=fun x hx=>by
  have q:=PySem.W.cellsFrom_some scope.names (s.heap.objs.size+1) [] (.inl (iB _ _ _ ok.nd hx))
  exact Option.isSome_iff_exists.mp q
 have fpC:∀b∈fp,∀x c,(cellsFrom (s.heap.objs.size+1) scope.names (mK X.env scope.names [])).lookup x=some c→c≠b:=fun b hb x c e=>by
  rcases qQ x c e with ⟨h1,_⟩|⟨_,h2⟩
  ·have h3:=Aq x c h1
   have h4:=hlt b hb
   rintro rfl
   exact absurd (Nat.lt_of_lt_of_le h4 (Nat.le_of_succ_le h3)) (Nat.lt_irrefl _)
  ·exact(hf b hb).2.2.2.2.1 x c h2
 refine⟨⟨I.ok.mod,ok.kind,I.ok.glob,I.ok.blt,Nat.le_refl _,fun x y c h1 h2=>?_,fun x hx=>?_,fun x c hx e=>?_,I.ok.hd,I.ok.frames,.inl rfl,fun b hb=>⟨Nat.ne_of_lt (hlt b hb),fun x c e=>fpC b hb x c e⟩,I.bs,Nat.le_trans I.ok.Z0 I.sz,fun b o e hb=>?_,fun b hb=>?_,I.stack,I.Mt⟩,
  rfl,I.bare,Un.kept hk,⟨_,hn,fun i x v e1 e2 e3=>?_⟩,fun x c e=>?_,I.hok.fresh (Nat.le_refl _),fun x c e=>?_,fun p hp=>absurd (show p∈([]:List (Addr×Obj)) from hp) (by simp),I.hok.kept hk,?_⟩
 ·-- one name a cell
  rcases qQ x c h1 with ⟨p1,_⟩|⟨_,p2⟩
  ·rcases qQ y c h2 with ⟨q1,_⟩|⟨_,q2⟩
   ·exact name_of_addr co.apart p1 q1
   ·exact absurd (Nat.lt_of_lt_of_le (RX y c q2) (Nat.le_of_succ_le (Aq x c p1))) (Nat.lt_irrefl _)
  ·rcases qQ y c h2 with ⟨q1,_⟩|⟨_,q2⟩
   ·exact absurd (Nat.lt_of_lt_of_le (RX x c p2) (Nat.le_of_succ_le (Aq y c q1))) (Nat.lt_irrefl _)
   ·exact I.ok.inj x y c p2 q2
 ·-- each cell name has one
  show ∃c,(cellsFrom (s.heap.objs.size+1) scope.names (mK X.env scope.names [])).lookup x=some c
  have hx:(relabel scope X.env).names.lookup x=some .cell∨(relabel scope X.env).names.lookup x=some .free:=hx
  rw[FN] at hx
  cases q:scope.names.lookup x with
  | none=>rw[q] at hx;rcases hx with hx|hx<;>cases hx
  | some k=>
   rw[q] at hx
   rw[gj,qC]
   cases z:(cellsFrom (s.heap.objs.size+1) scope.names []).lookup x with
   | some d=>exact⟨d,rfl⟩
   | none=>
    have hkf:k = .free:=by
     cases k with
     | free=>rfl
     | cell=>obtain⟨c,hc⟩:=Ig x (lookup_mem _ _ _ q);rw[hc] at z;cases z
     | _=>rcases hx with hx|hx<;>simp at hx
    subst hkf
    exact Option.isSome_iff_exists.mp (xr _ _ x (lookup_mem _ _ _ q))
 ·-- its own cells are new
  have hx':scope.names.lookup x=some .cell:=of_decide_eq_true hx
  rcases qQ x c e with ⟨p1,_⟩|⟨p1,_⟩
  ·exact Nat.le_of_succ_le (Aq x c p1)
  ·obtain⟨d,hd⟩:=Ig x (lookup_mem _ _ _ hx')
   rw[hd] at p1;cases p1
 ·rcases(hf b hb).2.2.2.1 with z|z
  ·exact I.ok.Sw b o e z
  ·have h1:=Heap.lt_size e
   have h2:=I.ok.Z0
   exact absurd (Nat.lt_of_lt_of_le h1 (Nat.le_trans h2 z)) (Nat.lt_irrefl _)
 ·intro hm
  rcases List.mem_cons.mp (I.J5 b hm) with z|z
  ·exact(hf b hb).2.1 z
  ·exact(hf b hb).2.2.1 z
 ·-- the names
  have hiσ:i<σ.length:=by
   by_cases hi:i<σ.length
   ·exact hi
   ·unfold rZ at e2
    rw[List.getElem?_append_right (by omega),List.getElem?_replicate] at e2
    split at e2<;>cases e2
  have e2':σ[i]? = some (some v):=by
   unfold rZ at e2
   rwa [List.getElem?_append_left hiσ] at e2
  have vis:(scope.names.lookup x).isSome=true:=by
   have e3:(relabel scope X.env).names.lookup x=some .local∨(relabel scope X.env).names.lookup x=some .cell∨(relabel scope X.env).names.lookup x=some .free:=e3
   rw[FN] at e3
   cases q:scope.names.lookup x with
   | none=>rw[q] at e3;rcases e3 with z|z|z<;>cases z
   | some k=>rfl
  obtain⟨hN,hfr⟩:=Jh ok.chk i x (by rw[←I.len];exact hiσ) e1 vis
  have hm:=lookup_mem _ _ _ hfr
  have hkk:=ok.free _ hm rfl
  obtain⟨m,hns,hl⟩:=I.loc
  obtain⟨u,ru,lk⟩:=hl i x v hN e2' (hkk.elim (fun z=>.inr (.inl z)) fun z=>.inr (.inr z))
  refine⟨u,ru,.inr ⟨?_,?_⟩⟩
  ·show(relabel scope X.env).names.lookup x=some .cell∨(relabel scope X.env).names.lookup x=some .free
   rw[FN,hfr]
   by_cases hc:(NameKind.free == NameKind.free&&X.env.scope.kind == .function&&X.env.kindOf x == some .cell)=true
   ·left;rw[Option.map_some,if_pos hc]
   ·right;rw[Option.map_some,if_neg hc]
  ·rcases lk with ⟨hl1,_⟩|⟨_,c,hc,hcell⟩
   ·rcases hkk with z|z<;>(rw[z] at hl1;cases hl1)
   ·refine⟨c,?_,hcell.keeps hk⟩
    show(cellsFrom (s.heap.objs.size+1) scope.names (mK X.env scope.names [])).lookup x=some c
    rw[gj,qC]
    have hno:(cellsFrom (s.heap.objs.size+1) scope.names []).lookup x=none:=sI _ _ fun d hd=>by
     have h1:=iB _ _ _ ok.nd (o8 _ _ _ _ hd)
     rw[hfr] at h1;cases h1
    rw[hno]
    obtain⟨d,hd⟩:=Option.isSome_iff_exists.mp (xr (env:=X.env) scope.names [] x hm)
    have h2:=xu _ _ x d hfree (fun y d h=>by simp at h) hd
    rw[hc] at h2
    show(mK X.env scope.names []).lookup x=some c
    rw[hd,h2]
 ·rcases qQ x c e with ⟨p1,_⟩|⟨_,p2⟩
  ·exact⟨_,(co.empty x c p1).1⟩
  ·obtain⟨v,q⟩:=I.cell x c p2
   exact⟨v,q.keeps hk⟩
 ·rcases qQ x c e with ⟨p1,_⟩|⟨_,p2⟩
  ·exact I.hok.fresh (Nat.le_of_succ_le (Aq x c p1))
  ·exact I.uI x c p2
 ·show(rZ (N'.length - σ.length) σ).length=N'.length
  unfold rZ
  rw[List.length_append,List.length_replicate]
  have h1:=ok.len
  have h2:=I.len
  omega
end L2
namespace L2
open PySem PySem.Spec PyProof.Rows
noncomputable abbrev dH(X:Cx)(scope:Scope)(N':List Str)(X':Cx):Prop:=
 ∃(cells:List (Str×Addr)) (C:Addr) (s0:Shared) (H0:Hp) (fp:List Addr),X'=cxC X scope N' cells C s0 H0 fp
theorem DY{X:Cx}{elt tg iter:Expr}{ifs:List Expr}{scope:Scope}{N':List Str}{pos:Pos}{g:TG}{tc:TT}{te:TE}{use:Option (Value→Sem Unit)}{QQ:Value→Shared→Prop}
  (ok:jG X scope N') (hc:X.calm=true)
  (bg:∀X',dH X scope N' X'→PG X' tg g) (bc:∀X',dH X scope N' X'→Z6 X' ifs tc) (be:∀X',dH X scope N' X'→PE X' elt te)
  {pins:List (Addr×Obj)} {s2:Shared} {σ:St} {H2:Hp} {Q:VK} {it:Addr} {fp:List Addr} {tn:Nat→Heap→Prop} {J:It} (I2:Inv X pins σ H2 s2) (T:Turn X.prog X.w X.K tg J fp it tn) (st2:tn 0 s2.heap) (f2:∀b∈fp,qp X pins H2 b)
  (q:∀d,H2 d=none→∃W:Nat→Nat→St→Hp→Prop,(∃m,W 0 m (rZ (N'.length - σ.length) σ) (upd H2 d (.lst [])))∧∀i m σ' H',W i m σ' H'→
   (J.stop i H'∧Q (.ref d) H')∨(J.go i H'∧∃N:St→Hp→Prop,(∀σ2 H2,N σ2 H2→∃m',m'<m∧W (i+1) m' σ2 H2)∧∀x H2,J.Vw i H' x H2→g x σ' H2 fun σ3 H3=>tc σ3 H3 fun b H4=>
    if b=true then te σ3 H4 fun y H5=>∃ys,H5 d=some (.lst ys)∧ys.length<sizeLine∧N σ3 (upd H5 d (.lst (ys++[y]))) else N σ3 H4))
  (fin:∀d C m s' H',Inv X pins σ H' s'→Q (.ref d) H'→s'.heap.Ns C m→H' C=none→C≠X.env.locals→X.s₀.heap.objs.size≤C→(∀x c,X.env.cells.lookup x=some c→c≠C)→(∀p∈X.pn++pins,p.1≠C)→
   compPost (model X.prog X.w) X.A X.xe use QQ (.ref d) C (.ok .next) s') :
  wpAny (model X.prog X.w) X.A (newList []) (fun acc s₃=>wpAny (model X.prog X.w) X.A (newFunctionEnv scope X.env.globals (mK X.env scope.names []) [] X.env.qual none .none (some X.env)) (fun cenv s₄=>
   codeAny (model X.prog X.w) X.A (.compStart (.ListComp elt [⟨tg,iter,ifs,0⟩] scope pos) 0 (.ref it) acc { cenv with scope:=relabel scope X.env }) (compPost (model X.prog X.w) X.A X.xe use QQ acc cenv.locals) s₄) X.xe s₃) X.xe s2:=by
 have hd2:H2 s2.heap.objs.size=none:=I2.fresh
 refine wpAny_newObj_type (yW fun h' hns hkeep hco=>?_)
 -- the state behind the list
 obtain⟨W,⟨m0,w0⟩,turn⟩:=q s2.heap.objs.size hd2
 have I3:Inv X pins σ (upd H2 s2.heap.objs.size (.lst [])) { s2 with heap:=s2.heap.push { cls:=.type "list",data:=.seq ([]:List Value).toArray } }:=I2.abF (t':=s2.toks) .nil (Nat.zero_le _)
 have Sy:∀b∈fp,b<s2.heap.objs.size:=fun b hb=>by
  obtain⟨o,e,_⟩:=T.obj _ _ st2 b hb
  exact Heap.lt_size e
 have f3:∀b∈fp,qp X pins (upd H2 s2.heap.objs.size (.lst [])) b:=fun b hb=>by
  refine⟨?_,(f2 b hb).2⟩
  rw[bK (Nat.ne_of_lt (Sy b hb))]
  exact(f2 b hb).1
 have lt3:∀b∈fp,b<({ s2 with heap:=s2.heap.push { cls:=.type "list",data:=.seq ([]:List Value).toArray } }:Shared).heap.objs.size:=fun b hb=>by
  show b<(s2.heap.push _).objs.size
  rw[Heap.size_push]
  exact Nat.lt_succ_of_lt (Sy b hb)
 have st3:tn 0 h':=T.keep _ _ _ st2 fun b hb o e=>hkeep b o (Heap.get?_push_of_some _ e)
 have I4:=HY (fp:=fp) ok I3 f3 lt3 hns hkeep hco
 generalize hs3:({ s2 with heap:=s2.heap.push { cls:=.type "list",data:=.seq ([]:List Value).toArray } }:Shared)=s3 at *
 have sz3:s3.heap.objs.size=s2.heap.objs.size+1:=by rw[←hs3];exact Heap.size_push ..
 generalize hX':cxC X scope N' (cellsFrom (s3.heap.objs.size+1) scope.names (mK X.env scope.names [])) s3.heap.objs.size s3 (upd H2 s2.heap.objs.size (.lst [])) fp=X' at I4
 have at':dH X scope N' X':=⟨_,_,_,_,_,hX'.symm⟩
 have hg:=bg X' at'
 have hif:=bc X' at'
 have he:=be X' at'
 have eP:X'.prog=X.prog:=by rw[←hX'];rfl
 have eW:X'.w=X.w:=by rw[←hX'];rfl
 have eK:X'.K=X.K:=by rw[←hX'];rfl
 have eA:X'.A=X.A:=by rw[←hX'];rfl
 have eC:X'.calm=true:=by rw[←hX'];exact hc
 have eX:X'.xe=fun _ _=>False:=by rw[←hX'];rfl
 have ePn:X'.pn=[]:=by rw[←hX'];rfl
 have Yj:X'.ex=fp:=by rw[←hX'];rfl
 have eL:X'.env.locals=s3.heap.objs.size:=by rw[←hX'];rfl
 have eFs:X'.fs=frs X.stack:=by rw[←hX'];rfl
 have adU:compEnvC scope (cellsFrom (s3.heap.objs.size+1) scope.names (mK X.env scope.names [])) s3.heap.objs.size X.env=X'.env:=by rw[←hX'];rfl
 have eS0:X'.s₀=s3:=by rw[←hX'];rfl
 have eH0:X'.H₀=upd H2 s2.heap.objs.size (.lst []):=by rw[←hX'];rfl
 -- what is true of the iterator's objects in the block
 have stat:∀{H':Hp},(∀b∈fp,H' b=none)→∀b∈fp,qp X' [] H' b:=fun{H'} hn b hb=>by
  refine⟨hn b hb,?_,?_,.inl (by rw[Yj];exact hb),fun x c e=>?_,fun p hp=>?_⟩
  ·rw[eL];exact Nat.ne_of_lt (lt3 b hb)
  ·have:=I4.ok.Qg b (by rw[Yj];exact hb)
   exact this
  ·exact(I4.ok.exf b (by rw[Yj];exact hb)).2 x c e
  ·rw[ePn] at hp;exact absurd hp (by simp)
 -- the outer context again
 have back:∀σ' H' s',Inv X' [] σ' H' s'→Inv X pins σ H' s':=fun σ' H' s' J'=>by
  have hb:=J'.base
  rw[eFs,Yj,eS0,eH0] at hb
  have hos:=J'.os
  rw[eS0] at hos
  have hok:=J'.hok
  rw[eP,eW] at hok
  exact I3.call' (ch:=fp) hos hb hok J'.bare fun b hbm=>⟨(f3 b hbm).2.2.2.1,(f3 b hbm).2.1,(f3 b hbm).2.2.2.2.1,(f3 b hbm).2.2.2.2.2⟩
 have loop:∀s4:Shared,s4 = { s3 with heap:=h' }→codeAny (model X.prog X.w) X.A (.compLoop (.ListComp elt [⟨tg,iter,ifs,0⟩] scope pos) 0 (.ref it) (.ref s2.heap.objs.size) X'.env) (compPost (model X.prog X.w) X.A X.xe use QQ (.ref s2.heap.objs.size) s3.heap.objs.size) s4:=by
  rintro s4 rfl
  refine Gk (fun n s'=>∃i σ' H',Inv X' [] σ' H' s'∧tn i s'.heap∧(∀b∈fp,H' b=none)∧W i n σ' H') ?_ m0 ⟨0,_,_,I4,st3,fun b hb=>(f3 b hb).1,w0⟩
  rintro n s5 ⟨i,σ5,H5,I5,VR,fr5,w5⟩
  rcases turn i n σ5 H5 w5 with ⟨stop,qn⟩|⟨go,N,hN,step⟩
  ·have td:=T.done X' eP eW eK eC i [] s5 σ5 H5 (fun _ _=>False) I5 (stat fr5) VR stop
   rw[eA] at td
   refine gw td fun r s6 ⟨hr,I6⟩=>?_
   subst hr
   obtain⟨mC,hnC,_⟩:=id I6.loc
   rw[eL] at hnC
   have lc:X.env.locals<s3.heap.objs.size:=by
    have:=I3.lt
    exact this
   refine fin _ _ mC s6 H5 (back _ _ _ I6) qn hnC ?_ (Nat.ne_of_gt lc) I3.sz (fun x c e=>?_) (fun p hp=>?_)
   ·have:=I6.free;rw[eL] at this;exact this
   ·obtain⟨v,z⟩:=I3.cell x c e
    exact Nat.ne_of_lt z.lt
   ·exact Nat.ne_of_lt (Heap.lt_size (I3.pin p hp).1)
  ·have ti:=T.item X' eP eW eK eC i [] s5 σ5 H5 (fun _ _=>False) I5 (stat fr5) VR go
   rw[eA] at ti
   refine gw ti fun r s6 ⟨u,hr,h6⟩=>?_
   subst hr
   refine gw h6 fun _ s7 ⟨x,H7,I7,r7,y7,st7,fr7⟩=>?_
   have I7':=I7.pinned (stat fr7) (T.obj _ _ st7)
   have hg':=hg _ s7 σ5 H7 x u _ I7' r7 (step x H7 y7)
   rw[eP,eW,eA,eX] at hg'
   refine gw hg' fun _ s8 ⟨σ8,H8,I8,q8⟩=>?_
   have TY:=hif _ s8 σ8 H8 _ I8 q8
   rw[eP,eW,eA,eX] at TY
   refine gw TY fun b s9 ⟨H9,I9,q9⟩=>?_
   have again:∀{σz:St} {Hz:Hp} {sz:Shared},Inv X' ([]++nQ fp s7.heap) σz Hz sz→N σz Hz→∃m,m<n∧∃i σ' H',Inv X' [] σ' H' sz∧tn i sz.heap∧(∀b∈fp,H' b=none)∧W i m σ' H':=fun{σz Hz sz} Iz nz=>by
    obtain⟨m',hm,wz⟩:=hN σz Hz nz
    refine⟨m',hm,i+1,σz,Hz,Iz.pX,T.keep _ _ _ st7 fun b hb o e=>(Iz.pin (b,o) (List.mem_append_right _ (List.mem_append_right _ (iW hb e)))).1,fun b hb=>?_,wz⟩
    obtain⟨o,e,d⟩:=T.obj _ _ st7 b hb
    exact(Iz.pin (b,o) (List.mem_append_right _ (List.mem_append_right _ (iW hb e)))).2.1
   cases b with
   | false=>
    rw[if_neg Bool.false_ne_true] at q9 ⊢
    exact again I9 q9
   | true=>
    rw[if_pos rfl] at q9 ⊢
    have he':=he _ s9 σ8 H9 _ I9 q9
    rw[eP,eW,eA,eX] at he'
    refine gw he' fun y sa ⟨yv,Ha,Ia,ra,ys,hys,hlen,qa⟩=>?_
    have ap:=ye (X:=X') _ sa σ8 Ha (.ref s2.heap.objs.size) [yv] (.ref s2.heap.objs.size) [y] (fun v H'=>v = .non∧N σ8 H') Ia rfl (.cons ra .nil) ⟨_,ys,yv,rfl,rfl,hys,hlen,rfl,qa⟩
    rw[eP,eW,eA,eX] at ap
    refine gw ap fun _ sb ⟨vb,Hb,Ib,rb,_,nb⟩=>?_
    exact again Ib nb
 show codeAny _ _ (.compStart _ 0 (.ref it) (.ref s2.heap.objs.size) (compEnvC scope (cellsFrom (s3.heap.objs.size+1) scope.names (mK X.env scope.names [])) s3.heap.objs.size X.env)) (compPost (model X.prog X.w) X.A X.xe use QQ (.ref s2.heap.objs.size) s3.heap.objs.size) _
 rw[adU]
 exact codeAny_compStart_list (loop _ rfl) (T.self X.A 0 _ _ _ st3 (loop _ rfl))
theorem af4{X:Cx}{elt tg iter:Expr}{ifs:List Expr}{scope:Scope}{N':List Str}{pos:Pos}{wi:TI}{g:TG}{tc:TT}{te:TE}
  (ok:jG X scope N') (hc:X.calm=true) (hi:PI X tg iter wi)
  (bg:∀X',dH X scope N' X'→PG X' tg g) (bc:∀X',dH X scope N' X'→Z6 X' ifs tc) (be:∀X',dH X scope N' X'→PE X' elt te)
  (hs:∀x,foldedSetIterable iter X.env x=pure x:=by intro _;rfl) :
  PE X (.ListComp elt [⟨tg,iter,ifs,0⟩] scope pos) (tLC N'.length wi g tc te):=by
 intro pins s σ H Q I h
 rw[eval_ListComp]
 have hfree:∀n,(n,NameKind.free)∈scope.names→∃c,X.env.cells.lookup n=some c:=fun n hm=>I.ok.has n (ok.free _ hm rfl)
 refine wpAny_comprehension_free (use:=none) rfl hs (vN hfree) ok.kind (fun x hx hl=>iB _ _ _ ok.nd (by rw[←hl];exact hx)) ?_
 refine gw (hi pins s σ H _ I h) fun v s1 h1=>gw h1 fun itv s2 h2=>?_
 obtain⟨it,fp,tn,J,H2,e,I2,T,st2,f2,q⟩:=h2
 subst e
 refine DY ok hc bg bc be I2 T st2 f2 q fun d C m s' H' I' hq hn hC hL h0 hcell hpin=>?_
 refine⟨m,hn,fun h' hs'=>?_⟩
 have I'':Inv X pins σ H' { s' with heap:=h',toks:=s'.toks }:=I'.turned (it:=C) (fun b o hb e=>(hs'.2 b hb).trans e) hC hL (.inr h0) hcell hpin
 exact⟨.ref d,H',I'',rfl,hq⟩
theorem Rw{X:Cx}{elt tg iter:Expr}{ifs:List Expr}{scope:Scope}{N':List Str}{pos spos py:Pos}{wi:TI}{g:TG}{tc:TT}{te:TE}{i:Nat}{y:Str}
  (ok:jG X scope N') (hc:X.calm=true) (hi:PI X tg iter wi)
  (bg:∀X',dH X scope N' X'→PG X' tg g) (bc:∀X',dH X scope N' X'→Z6 X' ifs tc) (be:∀X',dH X scope N' X'→PE X' elt te)
  (hN:X.N.Nodup) (hy:X.N[i]? = some y) (hx:Loc X.env.scope y)
  (hsw:swapsWith (.ListComp elt [⟨tg,iter,ifs,0⟩] scope pos) (some (.Name y py)) spos.line X.env=pure true)
  (hf:X.fn y=true∨X.env.scope.names.lookup y=some .local:=by first|exact .inl rfl|exact .inr rfl|assumption)
  (hs:∀x,foldedSetIterable iter X.env x=pure x:=by intro _;rfl) :
  PS X (.Assign [.Name y py] (.ListComp elt [⟨tg,iter,ifs,0⟩] scope pos) spos) (Q4 (tLC N'.length wi g tc te) (za i)):=by
 intro pins s σ H D I h
 rw[exec_Assign_Name_used _ _ _ _ hsw]
 refine wpAny_bind (wpAny_standAt (wpAny_bind ?_))
 have hfree:∀n,(n,NameKind.free)∈scope.names→∃c,X.env.cells.lookup n=some c:=fun n hm=>I.ok.has n (ok.free _ hm rfl)
 show wpAny _ X.A (do let _ ←comprehension (.ListComp elt [⟨tg,iter,ifs,0⟩] scope pos) scope X.env _ (newList []) false (eval iter X.env) (some (assign (.Name y py) X.env))) _ _ s
 refine wpAny_bind (wpAny_mono (wpAny_comprehension_free (use:=some (assign (.Name y py) X.env)) (Q:=fun _ s'=>SP X pins D .next s') rfl hs (vN hfree) ok.kind (fun x hx hl=>iB _ _ _ ok.nd (by rw[←hl];exact hx)) ?_) (fun _ s' hq=>wpAny_pure (wpAny_pure hq)) fun _ _ e=>e)
 refine gw (hi pins s σ H _ I h) fun v s1 h1=>gw h1 fun itv s2 h2=>?_
 obtain⟨it,fp,tn,J,H2,e,I2,T,st2,f2,q⟩:=h2
 subst e
 refine DY (Q:=fun x H1=>za i x σ H1 D.nx) ok hc bg bc be I2 T st2 f2 q fun d C m s' H' I' hq hn hC hL h0 hcell hpin=>?_
 refine wpAny_assign_Name (xK (v:=.ref d) I' hN hy hx rfl (fun s'' I'' sb=>?_) hf)
 obtain⟨a,hsb,ha⟩:=sb
 have haC:C≠a:=by
  rcases ha with z|z
  ·rw[z];exact hL
  ·exact(hcell y a z).symm
 refine⟨m,hn.sameBut hsb haC,fun h' hs'=>?_⟩
 have I3:Inv X pins (σ.set i (some (.ref d))) H' { s'' with heap:=h',toks:=s''.toks }:=I''.turned (it:=C) (fun b o hb e=>(hs'.2 b hb).trans e) hC hL (.inr h0) hcell hpin
 exact⟨_,H',I3,hq⟩
end L2
namespace L2
open PySem PySem.Spec PyProof.Rows
noncomputable def akC(J2:It)(g2:TG)(tc:TT)(te:TE)(d:Addr)(N:St→Hp→Prop)(σ3:St)(H4:Hp):Prop:=
 ∃W2:Nat→Nat→St→Hp→Prop,(∃m,W2 0 m σ3 H4)∧∀i2 m2 σ5 H5,W2 i2 m2 σ5 H5→(J2.stop i2 H5∧N σ5 H5)∨(J2.go i2 H5∧∃N2:St→Hp→Prop,(∀σ6 H6,N2 σ6 H6→∃m',m'<m2∧W2 (i2+1) m' σ6 H6)∧∀y H6,J2.Vw i2 H5 y H6→g2 y σ5 H6 fun σ7 H7=>tc σ7 H7 fun b H8=>
  if b=true then te σ7 H8 fun v H9=>∃ys,H9 d=some (.lst ys)∧ys.length<sizeLine∧N2 σ7 (upd H9 d (.lst (ys++[v]))) else N2 σ7 H8)
noncomputable def aeA(n:Nat)(wi:TI)(g:TG)(wi2:TI)(g2:TG)(tc:TT)(te:TE):TE:=fun σ H Q=>wi σ H fun J H1=>∀d,H1 d=none→∃W:Nat→Nat→St→Hp→Prop,(∃m,W 0 m (rZ (n - σ.length) σ) (upd H1 d (.lst [])))∧∀i m σ' H',W i m σ' H'→
 (J.stop i H'∧Q (.ref d) H')∨(J.go i H'∧∃N:St→Hp→Prop,(∀σ2 H2,N σ2 H2→∃m',m'<m∧W (i+1) m' σ2 H2)∧∀x H2,J.Vw i H' x H2→g x σ' H2 fun σ3 H3=>wi2 σ3 H3 fun J2 H4=>akC J2 g2 tc te d N σ3 H4)
section
variable{prog:Program}{w:World}{A:Around}{R:Result→Shared→Prop}{s:Shared}{elt tg iter qt cN:Expr}{ifs:List Expr}{scope:Scope}{pos:Pos}{it acc:Value}{env:Env}
theorem VD:compTurn (.ListComp elt [⟨tg,iter,[],0⟩,⟨qt,cN,ifs,0⟩] scope pos) 0 it acc env=(do
   standAt iter.pos
   match ←pyNext it with
   | none=>pure (.done .next)
   | some v=>
    letOwnedTupleGo tg it v
    assign tg env v
    let x ←eval cN env
    standAt cN.pos
    let x ←foldedSetIterable cN env x
    let _ ←runOwn (.compStart (.ListComp elt [⟨tg,iter,[],0⟩,⟨qt,cN,ifs,0⟩] scope pos) 1 (←holding [x] (pyIter x)) acc env) env
    again (.compLoop (.ListComp elt [⟨tg,iter,[],0⟩,⟨qt,cN,ifs,0⟩] scope pos) 0 it acc env)):=by rfl
theorem VB:compTurn (.ListComp elt [⟨tg,iter,[],0⟩,⟨qt,cN,ifs,0⟩] scope pos) 1 it acc env=(do
   standAt cN.pos
   match ←pyNext it with
   | none=>pure (.done .next)
   | some v=>
    letOwnedTupleGo qt it v
    assign qt env v
    let mut ok:=true
    for c in ifs do
     if ok then ok ←isTrue c env (eval c env)
    if ok then
     (do let _ ←call (.builtin "list.append") [acc,←eval elt env])
    again (.compLoop (.ListComp elt [⟨tg,iter,[],0⟩,⟨qt,cN,ifs,0⟩] scope pos) 1 it acc env)):=by rfl
theorem Gm(I:Nat→Shared→Prop)
  (turn:∀n s,I n s→wpAny (model prog w) A (pyNext it) (fun r s₁=>match r with
   | none=>R (.ok .next) s₁
   | some v=>wpAny (model prog w) A (letOwnedTupleGo qt it v) (fun _ s₁'=>wpAny (model prog w) A (assign qt env v) (fun _ s₂=>
     wpAny (model prog w) A (forIn ifs true fun c r=>if r=true then do let ok ←isTrue c env (eval c env);pure (ForInStep.yield ok) else pure (ForInStep.yield r)) (fun ok s₃=>
      if ok=true then wpAny (model prog w) A (eval elt env) (fun x s₄=>
       wpAny (model prog w) A (call (.builtin "list.append") [acc,x]) (fun _ s₅=>∃m,m<n∧I m s₅) (fun _ _=>False) s₄) (fun _ _=>False) s₃
      else ∃m,m<n∧I m s₃) (fun _ _=>False) s₂) (fun _ _=>False) s₁') (fun _ _=>False) s₁) (fun _ _=>False) s)
  (n:Nat) (h:I n s) :
  codeAny (model prog w) A (.compLoop (.ListComp elt [⟨tg,iter,[],0⟩,⟨qt,cN,ifs,0⟩] scope pos) 1 it acc env) R s:=by
 refine codeAny_loop rfl I (fun n s hI=>?_) n h
 show wpAny _ A ((compTurn (.ListComp elt [⟨tg,iter,[],0⟩,⟨qt,cN,ifs,0⟩] scope pos) 1 it acc env).onRaise (fun x=>do noteFrame x env;theTreesLotGoes x)) _ _ s
 refine wpAny_noted ?_
 rw[VB]
 refine wpAny_bind (wpAny_standAt (wpAny_bind (wpAny_mono (turn n s hI) (fun r s₁ h₁=>?_) fun _ _ h'=>h'.elim)))
 cases r with
 | none=>exact wpAny_pure h₁
 | some v=>
  refine wpAny_bind (wpAny_mono h₁ (fun _ s₁' h₁'=>?_) fun _ _ h'=>h'.elim)
  refine wpAny_bind (wpAny_mono h₁' (fun _ s₂ h₂=>wpAny_bind (wpAny_mono h₂ (fun ok s₃ h₃=>?_) fun _ _ h'=>h'.elim)) fun _ _ h'=>h'.elim)
  cases ok with
  | false=>exact wpAny_pure ⟨rfl,h₃⟩
  | true=>
   exact wpAny_bind (wpAny_bind (wpAny_mono h₃ (fun x s₄ h₄=>wpAny_bind (wpAny_mono h₄ (fun _ s₅ h₅=>wpAny_pure (wpAny_pure ⟨rfl,h₅⟩)) fun _ _ h'=>h'.elim)) fun _ _ h'=>h'.elim))
theorem CT(hfs:∀x,foldedSetIterable cN env x=pure x)(I:Nat→Shared→Prop)
  (turn:∀n s,I n s→wpAny (model prog w) A (pyNext it) (fun r s₁=>match r with
   | none=>R (.ok .next) s₁
   | some v=>wpAny (model prog w) A (letOwnedTupleGo tg it v) (fun _ s₁'=>wpAny (model prog w) A (assign tg env v) (fun _ s₂=>
     wpAny (model prog w) A (eval cN env) (fun x s₃=>wpAny (model prog w) A (pyIter x) (fun wI s₄=>
      codeAny (model prog w) A (.compStart (.ListComp elt [⟨tg,iter,[],0⟩,⟨qt,cN,ifs,0⟩] scope pos) 1 wI acc env) (fun r s'=>match r with|.ok _=>∃m,m<n∧I m s'|.error _=>False) s₄) (fun _ _=>False) s₃) (fun _ _=>False) s₂) (fun _ _=>False) s₁') (fun _ _=>False) s₁) (fun _ _=>False) s)
  (n:Nat) (h:I n s) :
  codeAny (model prog w) A (.compLoop (.ListComp elt [⟨tg,iter,[],0⟩,⟨qt,cN,ifs,0⟩] scope pos) 0 it acc env) R s:=by
 refine codeAny_loop rfl I (fun n s hI=>?_) n h
 show wpAny _ A ((compTurn (.ListComp elt [⟨tg,iter,[],0⟩,⟨qt,cN,ifs,0⟩] scope pos) 0 it acc env).onRaise (fun x=>do noteFrame x env;theTreesLotGoes x)) _ _ s
 refine wpAny_noted ?_
 rw[VD]
 refine wpAny_bind (wpAny_standAt (wpAny_bind (wpAny_mono (turn n s hI) (fun r s₁ h₁=>?_) fun _ _ h'=>h'.elim)))
 cases r with
 | none=>exact wpAny_pure h₁
 | some v=>
  refine wpAny_bind (wpAny_mono h₁ (fun _ s₁' h₁'=>?_) fun _ _ h'=>h'.elim)
  refine wpAny_bind (wpAny_mono h₁' (fun _ s₂ h₂=>wpAny_bind (wpAny_mono h₂ (fun x s₃ h₃=>?_) fun _ _ h'=>h'.elim)) fun _ _ h'=>h'.elim)
  refine wpAny_bind (wpAny_standAt (wpAny_bind ?_))
  rw[hfs]
  refine wpAny_pure (wpAny_bind (wpAny_holding (wpAny_mono h₃ (fun wI s₄ h₄=>?_) fun _ _ h'=>h'.elim)))
  refine wpAny_bind (wpAny_runOwn (codeAny_mono h₄ fun r s₅ h₅=>?_))
  cases r with
  | ok f=>exact wpAny_pure ⟨rfl,h₅⟩
  | error e=>exact h₅.elim
theorem Lw(h0:codeAny (model prog w) A (.compLoop (.ListComp elt [⟨tg,iter,[],0⟩,⟨qt,cN,ifs,0⟩] scope pos) 1 it acc env) R s)
  (h:wpAny (model prog w) A (pyIter it) (fun it' s'=>codeAny (model prog w) A (.compLoop (.ListComp elt [⟨tg,iter,[],0⟩,⟨qt,cN,ifs,0⟩] scope pos) 1 it' acc env) R s')
   (notedBy (model prog w) A env fun x s'=>R (.error x) s') s) :
  codeAny (model prog w) A (.compStart (.ListComp elt [⟨tg,iter,[],0⟩,⟨qt,cN,ifs,0⟩] scope pos) 1 it acc env) R s:=by
 refine codeAny_of_tree ?_
 show wpAny _ _ ((compStart (.ListComp elt [⟨tg,iter,[],0⟩,⟨qt,cN,ifs,0⟩] scope pos) 1 it acc env).onRaise (fun x=>do noteFrame x env;standAt theWindowsPlace)) _ _ s
 refine wpAny_notedAt ?_
 unfold compStart
 show wpAny _ _ (ask >>= _) _ _ s
 refine wpAny_bind (wpAny_askSetting (wpAny_ite ?_))
 split
 ·first|exact wpAny_bind (wpAny_pure (wpAny_pure (And.intro rfl h0)))|exact wpAny_pure (And.intro rfl h0)
 ·refine wpAny_bind (wpAny_rule ?_)
  show wpAny _ _ (standAt cN.pos >>= _) _ _ s
  exact wpAny_bind (wpAny_standAt (wpAny_bind (wpAny_mono h (fun it' s' h'=>wpAny_pure (And.intro rfl h')) fun _ _ x=>x)))
end
theorem Ls{X:Cx}{elt tg iter qt cN:Expr}{ifs:List Expr}{scope:Scope}{N':List Str}{pos:Pos}{g g2:TG}{wi2:TI}{tc:TT}{te:TE}{use:Option (Value→Sem Unit)}{QQ:Value→Shared→Prop}
  (ok:jG X scope N') (hc:X.calm=true)
  (bg:∀X',dH X scope N' X'→PG X' tg g) (bi:∀X',dH X scope N' X'→PI X' qt cN wi2) (bg2:∀X',dH X scope N' X'→PG X' qt g2) (hs2:∀(X':Cx) (x:Value),dH X scope N' X'→foldedSetIterable cN X'.env x=pure x) (bc:∀X',dH X scope N' X'→Z6 X' ifs tc) (be:∀X',dH X scope N' X'→PE X' elt te)
  {pins:List (Addr×Obj)} {s2:Shared} {σ:St} {H2:Hp} {Q:VK} {it:Addr} {fp:List Addr} {tn:Nat→Heap→Prop} {J:It} (I2:Inv X pins σ H2 s2) (T:Turn X.prog X.w X.K tg J fp it tn) (st2:tn 0 s2.heap) (f2:∀b∈fp,qp X pins H2 b)
  (q:∀d,H2 d=none→∃W:Nat→Nat→St→Hp→Prop,(∃m,W 0 m (rZ (N'.length - σ.length) σ) (upd H2 d (.lst [])))∧∀i m σ' H',W i m σ' H'→
   (J.stop i H'∧Q (.ref d) H')∨(J.go i H'∧∃N:St→Hp→Prop,(∀σ2 H2,N σ2 H2→∃m',m'<m∧W (i+1) m' σ2 H2)∧∀x H2,J.Vw i H' x H2→g x σ' H2 fun σ3 H3=>wi2 σ3 H3 fun J2 H4=>akC J2 g2 tc te d N σ3 H4))
  (fin:∀d C m s' H',Inv X pins σ H' s'→Q (.ref d) H'→s'.heap.Ns C m→H' C=none→C≠X.env.locals→X.s₀.heap.objs.size≤C→(∀x c,X.env.cells.lookup x=some c→c≠C)→(∀p∈X.pn++pins,p.1≠C)→
   compPost (model X.prog X.w) X.A X.xe use QQ (.ref d) C (.ok .next) s') :
  wpAny (model X.prog X.w) X.A (newList []) (fun acc s₃=>wpAny (model X.prog X.w) X.A (newFunctionEnv scope X.env.globals (mK X.env scope.names []) [] X.env.qual none .none (some X.env)) (fun cenv s₄=>
   codeAny (model X.prog X.w) X.A (.compStart (.ListComp elt [⟨tg,iter,[],0⟩,⟨qt,cN,ifs,0⟩] scope pos) 0 (.ref it) acc { cenv with scope:=relabel scope X.env }) (compPost (model X.prog X.w) X.A X.xe use QQ acc cenv.locals) s₄) X.xe s₃) X.xe s2:=by
 have hd2:H2 s2.heap.objs.size=none:=I2.fresh
 refine wpAny_newObj_type (yW fun h' hns hkeep hco=>?_)
 -- the state behind the list
 obtain⟨W,⟨m0,w0⟩,turn⟩:=q s2.heap.objs.size hd2
 have I3:Inv X pins σ (upd H2 s2.heap.objs.size (.lst [])) { s2 with heap:=s2.heap.push { cls:=.type "list",data:=.seq ([]:List Value).toArray } }:=I2.abF (t':=s2.toks) .nil (Nat.zero_le _)
 have Sy:∀b∈fp,b<s2.heap.objs.size:=fun b hb=>by
  obtain⟨o,e,_⟩:=T.obj _ _ st2 b hb
  exact Heap.lt_size e
 have f3:∀b∈fp,qp X pins (upd H2 s2.heap.objs.size (.lst [])) b:=fun b hb=>by
  refine⟨?_,(f2 b hb).2⟩
  rw[bK (Nat.ne_of_lt (Sy b hb))]
  exact(f2 b hb).1
 have lt3:∀b∈fp,b<({ s2 with heap:=s2.heap.push { cls:=.type "list",data:=.seq ([]:List Value).toArray } }:Shared).heap.objs.size:=fun b hb=>by
  show b<(s2.heap.push _).objs.size
  rw[Heap.size_push]
  exact Nat.lt_succ_of_lt (Sy b hb)
 have st3:tn 0 h':=T.keep _ _ _ st2 fun b hb o e=>hkeep b o (Heap.get?_push_of_some _ e)
 have I4:=HY (fp:=fp) ok I3 f3 lt3 hns hkeep hco
 generalize hs3:({ s2 with heap:=s2.heap.push { cls:=.type "list",data:=.seq ([]:List Value).toArray } }:Shared)=s3 at *
 have sz3:s3.heap.objs.size=s2.heap.objs.size+1:=by rw[←hs3];exact Heap.size_push ..
 generalize hX':cxC X scope N' (cellsFrom (s3.heap.objs.size+1) scope.names (mK X.env scope.names [])) s3.heap.objs.size s3 (upd H2 s2.heap.objs.size (.lst [])) fp=X' at I4
 have at':dH X scope N' X':=⟨_,_,_,_,_,hX'.symm⟩
 have hg:=bg X' at'
 have hi2:=bi X' at'
 have hg2:=bg2 X' at'
 have hfs:∀x,foldedSetIterable cN X'.env x=pure x:=fun x=>hs2 X' x at'
 have hif:=bc X' at'
 have he:=be X' at'
 have eP:X'.prog=X.prog:=by rw[←hX'];rfl
 have eW:X'.w=X.w:=by rw[←hX'];rfl
 have eK:X'.K=X.K:=by rw[←hX'];rfl
 have eA:X'.A=X.A:=by rw[←hX'];rfl
 have eC:X'.calm=true:=by rw[←hX'];exact hc
 have eX:X'.xe=fun _ _=>False:=by rw[←hX'];rfl
 have ePn:X'.pn=[]:=by rw[←hX'];rfl
 have Yj:X'.ex=fp:=by rw[←hX'];rfl
 have eL:X'.env.locals=s3.heap.objs.size:=by rw[←hX'];rfl
 have eFs:X'.fs=frs X.stack:=by rw[←hX'];rfl
 have adU:compEnvC scope (cellsFrom (s3.heap.objs.size+1) scope.names (mK X.env scope.names [])) s3.heap.objs.size X.env=X'.env:=by rw[←hX'];rfl
 have eS0:X'.s₀=s3:=by rw[←hX'];rfl
 have eH0:X'.H₀=upd H2 s2.heap.objs.size (.lst []):=by rw[←hX'];rfl
 -- what is true of the iterator's objects in the block
 have stat:∀{H':Hp},(∀b∈fp,H' b=none)→∀b∈fp,qp X' [] H' b:=fun{H'} hn b hb=>by
  refine⟨hn b hb,?_,?_,.inl (by rw[Yj];exact hb),fun x c e=>?_,fun p hp=>?_⟩
  ·rw[eL];exact Nat.ne_of_lt (lt3 b hb)
  ·have:=I4.ok.Qg b (by rw[Yj];exact hb)
   exact this
  ·exact(I4.ok.exf b (by rw[Yj];exact hb)).2 x c e
  ·rw[ePn] at hp;exact absurd hp (by simp)
 -- the outer context again
 have back:∀σ' H' s',Inv X' [] σ' H' s'→Inv X pins σ H' s':=fun σ' H' s' J'=>by
  have hb:=J'.base
  rw[eFs,Yj,eS0,eH0] at hb
  have hos:=J'.os
  rw[eS0] at hos
  have hok:=J'.hok
  rw[eP,eW] at hok
  exact I3.call' (ch:=fp) hos hb hok J'.bare fun b hbm=>⟨(f3 b hbm).2.2.2.1,(f3 b hbm).2.1,(f3 b hbm).2.2.2.2.1,(f3 b hbm).2.2.2.2.2⟩
 have loop:∀s4:Shared,s4 = { s3 with heap:=h' }→codeAny (model X.prog X.w) X.A (.compLoop (.ListComp elt [⟨tg,iter,[],0⟩,⟨qt,cN,ifs,0⟩] scope pos) 0 (.ref it) (.ref s2.heap.objs.size) X'.env) (compPost (model X.prog X.w) X.A X.xe use QQ (.ref s2.heap.objs.size) s3.heap.objs.size) s4:=by
  rintro s4 rfl
  refine CT hfs (fun n s'=>∃i σ' H',Inv X' [] σ' H' s'∧tn i s'.heap∧(∀b∈fp,H' b=none)∧W i n σ' H') ?_ m0 ⟨0,_,_,I4,st3,fun b hb=>(f3 b hb).1,w0⟩
  rintro n s5 ⟨i,σ5,H5,I5,VR,fr5,w5⟩
  rcases turn i n σ5 H5 w5 with ⟨stop,qn⟩|⟨go,N,hN,step⟩
  ·have td:=T.done X' eP eW eK eC i [] s5 σ5 H5 (fun _ _=>False) I5 (stat fr5) VR stop
   rw[eA] at td
   refine gw td fun r s6 ⟨hr,I6⟩=>?_
   subst hr
   obtain⟨mC,hnC,_⟩:=id I6.loc
   rw[eL] at hnC
   have lc:X.env.locals<s3.heap.objs.size:=by
    have:=I3.lt
    exact this
   refine fin _ _ mC s6 H5 (back _ _ _ I6) qn hnC ?_ (Nat.ne_of_gt lc) I3.sz (fun x c e=>?_) (fun p hp=>?_)
   ·have:=I6.free;rw[eL] at this;exact this
   ·obtain⟨v,z⟩:=I3.cell x c e
    exact Nat.ne_of_lt z.lt
   ·exact Nat.ne_of_lt (Heap.lt_size (I3.pin p hp).1)
  ·have ti:=T.item X' eP eW eK eC i [] s5 σ5 H5 (fun _ _=>False) I5 (stat fr5) VR go
   rw[eA] at ti
   refine gw ti fun r s6 ⟨u,hr,h6⟩=>?_
   subst hr
   refine gw h6 fun _ s7 ⟨x,H7,I7,r7,y7,st7,fr7⟩=>?_
   have I7':=I7.pinned (stat fr7) (T.obj _ _ st7)
   have hg':=hg _ s7 σ5 H7 x u _ I7' r7 (step x H7 y7)
   rw[eP,eW,eA,eX] at hg'
   refine gw hg' fun _ s8 ⟨σ8,H8,I8,q8⟩=>?_
   have again:∀{σz:St} {Hz:Hp} {sz:Shared},Inv X' ([]++nQ fp s7.heap) σz Hz sz→N σz Hz→∃m,m<n∧∃i σ' H',Inv X' [] σ' H' sz∧tn i sz.heap∧(∀b∈fp,H' b=none)∧W i m σ' H':=fun{σz Hz sz} Iz nz=>by
    obtain⟨m',hm,wz⟩:=hN σz Hz nz
    refine⟨m',hm,i+1,σz,Hz,Iz.pX,T.keep _ _ _ st7 fun b hb o e=>(Iz.pin (b,o) (List.mem_append_right _ (List.mem_append_right _ (iW hb e)))).1,fun b hb=>?_,wz⟩
    obtain⟨o,e,d⟩:=T.obj _ _ st7 b hb
    exact(Iz.pin (b,o) (List.mem_append_right _ (List.mem_append_right _ (iW hb e)))).2.1
   have hi2':=hi2 _ s8 σ8 H8 _ I8 q8
   rw[eP,eW,eA,eX] at hi2'
   refine gw hi2' fun v s9 h9=>gw h9 fun itv s10 h10=>?_
   obtain⟨wI,fp2,tn2,J2,H10,e10,I10,T2,aeJ,f10,q10⟩:=h10
   subst e10
   rw[eP,eW,eK] at T2
   obtain⟨W2,⟨m2,w2⟩,aet⟩:=q10
   have f2n:∀{H':Hp},(∀b∈fp2,H' b=none)→∀b∈fp2,qp X' ([]++nQ fp s7.heap) H' b:=fun{H'} hn b hb=>⟨hn b hb,(f10 b hb).2⟩
   have Y4:codeAny (model X.prog X.w) X.A (.compLoop (.ListComp elt [⟨tg,iter,[],0⟩,⟨qt,cN,ifs,0⟩] scope pos) 1 (.ref wI) (.ref s2.heap.objs.size) X'.env) (fun r s'=>match r with|.ok _=>∃m,m<n∧∃i σ' H',Inv X' [] σ' H' s'∧tn i s'.heap∧(∀b∈fp,H' b=none)∧W i m σ' H'|.error _=>False) s10:=by
    refine Gm (fun n2 s'=>∃i σ' H',Inv X' ([]++nQ fp s7.heap) σ' H' s'∧tn2 i s'.heap∧(∀b∈fp2,H' b=none)∧W2 i n2 σ' H') ?_ m2 ⟨0,_,_,I10,aeJ,fun b hb=>(f10 b hb).1,w2⟩
    rintro n2 s11 ⟨i2,σ11,H11,I11,aeI,aiJ,w11⟩
    rcases aet i2 n2 σ11 H11 w11 with ⟨aeG,qn2⟩|⟨go2,N2,hN2,aeH⟩
    ·have td:=T2.done X' eP eW eK eC i2 _ s11 σ11 H11 (fun _ _=>False) I11 (f2n aiJ) aeI aeG
     rw[eA] at td
     refine gw td fun r s12 ⟨hr,I12⟩=>?_
     subst hr
     exact again I12 qn2
    ·have ti:=T2.item X' eP eW eK eC i2 _ s11 σ11 H11 (fun _ _=>False) I11 (f2n aiJ) aeI go2
     rw[eA] at ti
     refine gw ti fun r s12 ⟨u2,hr,h12⟩=>?_
     subst hr
     refine gw h12 fun _ YH ⟨x2,H13,I13,r13,y13,aay,am0⟩=>?_
     have anM:=I13.pinned (f2n am0) (T2.obj _ _ aay)
     have hg2':=hg2 _ YH σ11 H13 x2 u2 _ anM r13 (aeH x2 H13 y13)
     rw[eP,eW,eA,eX] at hg2'
     refine gw hg2' fun _ s14 ⟨σ14,H14,I14,q14⟩=>?_
     have TY:=hif _ s14 σ14 H14 _ I14 q14
     rw[eP,eW,eA,eX] at TY
     refine gw TY fun b s15 ⟨H15,I15,q15⟩=>?_
     have Va:∀{σz:St} {Hz:Hp} {sz:Shared},Inv X' (([]++nQ fp s7.heap)++nQ fp2 YH.heap) σz Hz sz→N2 σz Hz→∃m,m<n2∧∃i σ' H',Inv X' ([]++nQ fp s7.heap) σ' H' sz∧tn2 i sz.heap∧(∀b∈fp2,H' b=none)∧W2 i m σ' H':=fun{σz Hz sz} Iz nz=>by
      obtain⟨m',hm,wz⟩:=hN2 σz Hz nz
      refine⟨m',hm,i2+1,σz,Hz,Iz.pX,T2.keep _ _ _ aay fun b hb o e=>(Iz.pin (b,o) (List.mem_append_right _ (List.mem_append_right _ (iW hb e)))).1,fun b hb=>?_,wz⟩
      obtain⟨o,e,d⟩:=T2.obj _ _ aay b hb
      exact(Iz.pin (b,o) (List.mem_append_right _ (List.mem_append_right _ (iW hb e)))).2.1
     cases b with
     | false=>
      rw[if_neg Bool.false_ne_true] at q15 ⊢
      exact Va I15 q15
     | true=>
      rw[if_pos rfl] at q15 ⊢
      have he':=he _ s15 σ14 H15 _ I15 q15
      rw[eP,eW,eA,eX] at he'
      refine gw he' fun y sa ⟨yv,Ha,Ia,ra,ys,hys,hlen,qa⟩=>?_
      have ap:=ye (X:=X') _ sa σ14 Ha (.ref s2.heap.objs.size) [yv] (.ref s2.heap.objs.size) [y] (fun v H'=>v = .non∧N2 σ14 H') Ia rfl (.cons ra .nil) ⟨_,ys,yv,rfl,rfl,hys,hlen,rfl,qa⟩
      rw[eP,eW,eA,eX] at ap
      refine gw ap fun _ sb ⟨vb,Hb,Ib,rb,_,nb⟩=>?_
      exact Va Ib nb
   exact Lw Y4 (T2.self X.A 0 _ _ _ aeJ Y4)
 show codeAny _ _ (.compStart _ 0 (.ref it) (.ref s2.heap.objs.size) (compEnvC scope (cellsFrom (s3.heap.objs.size+1) scope.names (mK X.env scope.names [])) s3.heap.objs.size X.env)) (compPost (model X.prog X.w) X.A X.xe use QQ (.ref s2.heap.objs.size) s3.heap.objs.size) _
 rw[adU]
 exact codeAny_compStart_list (loop _ rfl) (T.self X.A 0 _ _ _ st3 (loop _ rfl))
theorem O8{X:Cx}{elt tg iter qt cN:Expr}{ifs:List Expr}{scope:Scope}{N':List Str}{pos spos py:Pos}{wi wi2:TI}{g g2:TG}{tc:TT}{te:TE}{i:Nat}{y:Str}
  (ok:jG X scope N') (hc:X.calm=true) (hi:PI X tg iter wi)
  (bg:∀X',dH X scope N' X'→PG X' tg g) (bi:∀X',dH X scope N' X'→PI X' qt cN wi2) (bg2:∀X',dH X scope N' X'→PG X' qt g2) (hs2:∀(X':Cx) (x:Value),dH X scope N' X'→foldedSetIterable cN X'.env x=pure x) (bc:∀X',dH X scope N' X'→Z6 X' ifs tc) (be:∀X',dH X scope N' X'→PE X' elt te)
  (hN:X.N.Nodup) (hy:X.N[i]? = some y) (hx:Loc X.env.scope y)
  (hsw:swapsWith (.ListComp elt [⟨tg,iter,[],0⟩,⟨qt,cN,ifs,0⟩] scope pos) (some (.Name y py)) spos.line X.env=pure true)
  (hf:X.fn y=true∨X.env.scope.names.lookup y=some .local:=by first|exact .inl rfl|exact .inr rfl|assumption)
  (hs:∀x,foldedSetIterable iter X.env x=pure x:=by intro _;rfl) :
  PS X (.Assign [.Name y py] (.ListComp elt [⟨tg,iter,[],0⟩,⟨qt,cN,ifs,0⟩] scope pos) spos) (Q4 (aeA N'.length wi g wi2 g2 tc te) (za i)):=by
 intro pins s σ H D I h
 rw[exec_Assign_Name_used _ _ _ _ hsw]
 refine wpAny_bind (wpAny_standAt (wpAny_bind ?_))
 have hfree:∀n,(n,NameKind.free)∈scope.names→∃c,X.env.cells.lookup n=some c:=fun n hm=>I.ok.has n (ok.free _ hm rfl)
 show wpAny _ X.A (do let _ ←comprehension (.ListComp elt [⟨tg,iter,[],0⟩,⟨qt,cN,ifs,0⟩] scope pos) scope X.env _ (newList []) false (eval iter X.env) (some (assign (.Name y py) X.env))) _ _ s
 refine wpAny_bind (wpAny_mono (wpAny_comprehension_free (use:=some (assign (.Name y py) X.env)) (Q:=fun _ s'=>SP X pins D .next s') rfl hs (vN hfree) ok.kind (fun x hx hl=>iB _ _ _ ok.nd (by rw[←hl];exact hx)) ?_) (fun _ s' hq=>wpAny_pure (wpAny_pure hq)) fun _ _ e=>e)
 refine gw (hi pins s σ H _ I h) fun v s1 h1=>gw h1 fun itv s2 h2=>?_
 obtain⟨it,fp,tn,J,H2,e,I2,T,st2,f2,q⟩:=h2
 subst e
 refine Ls (Q:=fun x H1=>za i x σ H1 D.nx) ok hc bg bi bg2 hs2 bc be I2 T st2 f2 q fun d C m s' H' I' hq hn hC hL h0 hcell hpin=>?_
 refine wpAny_assign_Name (xK (v:=.ref d) I' hN hy hx rfl (fun s'' I'' sb=>?_) hf)
 obtain⟨a,hsb,ha⟩:=sb
 have haC:C≠a:=by
  rcases ha with z|z
  ·rw[z];exact hL
  ·exact(hcell y a z).symm
 refine⟨m,hn.sameBut hsb haC,fun h' hs'=>?_⟩
 have I3:Inv X pins (σ.set i (some (.ref d))) H' { s'' with heap:=h',toks:=s''.toks }:=I''.turned (it:=C) (fun b o hb e=>(hs'.2 b hb).trans e) hC hL (.inr h0) hcell hpin
 exact⟨_,H',I3,hq⟩
end L2
namespace Ev
open PySem PySem.Spec PyProof.Rows L2
inductive D where
 | non
 | bl (b:Bool)
 | int (i:Int)
 | str (x:List Nat)
 | tup (xs:List D)
 | lst (xs:List D)
 | arr (xs:List D)
 | dct (kvs:List (D×D))
 deriving Inhabited
noncomputable abbrev Fg:=PySem.W.Frag
noncomputable def strOf(x:List Nat):Str:=⟨x.toArray⟩
noncomputable def rM:D→Option Key
 | .int i=>some (.inl i)
 | .str x=>some (.inr (strOf x))
 | _=>none
mutual
noncomputable def Rep(K:Fg)(F:Hp):D→V→Prop
 | .non,v=>v = .non
 | .bl b,v=>v = .bl b
 | .int i,v=>v = .int i
 | .str x,v=>v = .str (strOf x)∧x.length≤sizeLine
 | .tup xs,v=>xs.length≤sizeLine∧∃a vs,v = .ref a∧oM K F a vs∧bN K F xs vs
 | .lst xs,v=>xs.length≤sizeLine∧∃a vs,v = .ref a∧F a=some (.lst vs)∧bN K F xs vs
 | .arr xs,v=>xs.length≤sizeLine∧∃a vs,v = .ref a∧jY K F a vs∧bN K F xs vs
 | .dct kvs,v=>kvs.length≤sizeLine∧∃a ks,v = .ref a∧Rd F a (.dK ks)∧dC K F kvs ks
noncomputable def bN(K:Fg)(F:Hp):List D→List V→Prop
 | [],vs=>vs=[]
 | d::ds,vs=>∃v r,vs=v::r∧Rep K F d v∧bN K F ds r
noncomputable def dC(K:Fg)(F:Hp):List (D×D)→List (Key×V)→Prop
 | [],vs=>vs=[]
 | (k,d)::ds,vs=>∃q v r,vs=(q,v)::r∧rM k=some q∧Rep K F d v∧dC K F ds r
end
theorem aO.rd{F F':Hp}{a:Addr}{u:HO}(e:aO F F')(h:Rd F a u):Rd F' a u:=by
 rcases h with h|⟨o,h⟩
 ·exact .inl (e _ _ h)
 ·exact .inr ⟨o,e _ _ h⟩
theorem aO.tupK{K:Fg}{F F':Hp}{a:Addr}{xs:List V}(e:aO F F')(h:oM K F a xs):oM K F' a xs:=by
 rcases h with h|h
 ·exact .inl (aO.rd e h)
 ·exact .inr h
mutual
theorem Rep.mono{K:Fg}{F F':Hp}(e:aO F F'):∀(d:D) (v:V),Rep K F d v→Rep K F' d v
 | .non,_,h=>h
 | .bl _,_,h=>h
 | .int _,_,h=>h
 | .str _,_,h=>h
 | .tup xs,v,h=>by
  obtain⟨z,a,vs,rfl,h1,h2⟩:=h
  exact⟨z,a,vs,rfl,aO.tupK e h1,bN.mono e xs vs h2⟩
 | .lst xs,v,h=>by
  obtain⟨z,a,vs,rfl,h1,h2⟩:=h
  exact⟨z,a,vs,rfl,e _ _ h1,bN.mono e xs vs h2⟩
 | .arr xs,v,h=>by
  obtain⟨z,a,vs,rfl,h1,h2⟩:=h
  exact⟨z,a,vs,rfl,e.seq h1,bN.mono e xs vs h2⟩
 | .dct kvs,v,h=>by
  obtain⟨z,a,ks,rfl,h1,h2⟩:=h
  exact⟨z,a,ks,rfl,aO.rd e h1,dC.mono e kvs ks h2⟩
theorem bN.mono{K:Fg}{F F':Hp}(e:aO F F'):∀(ds:List D) (vs:List V),bN K F ds vs→bN K F' ds vs
 | [],_,h=>h
 | d::ds,vs,h=>by
  obtain⟨v,r,rfl,h1,h2⟩:=h
  exact⟨v,r,rfl,Rep.mono e d v h1,bN.mono e ds r h2⟩
theorem dC.mono{K:Fg}{F F':Hp}(e:aO F F'):∀(ds:List (D×D)) (vs:List (Key×V)),dC K F ds vs→dC K F' ds vs
 | [],_,h=>h
 | (k,d)::ds,vs,h=>by
  obtain⟨q,v,r,rfl,h0,h1,h2⟩:=h
  exact⟨q,v,r,rfl,h0,Rep.mono e d v h1,dC.mono e ds r h2⟩
end
theorem bN.length{K:Fg}{F:Hp}:∀{ds:List D} {vs:List V},bN K F ds vs→vs.length=ds.length
 | [],_,h=>by cases h;rfl
 | d::ds,vs,h=>by
  obtain⟨v,r,rfl,_,h2⟩:=h
  rw[List.length_cons,List.length_cons,h2.length]
theorem bN.get{K:Fg}{F:Hp}:∀{ds:List D} {vs:List V} {i:Nat} {d:D},bN K F ds vs→ds[i]? = some d→∃v,vs[i]? = some v∧Rep K F d v
 | [],_,_,_,_,e=>by simp at e
 | c::ds,vs,i,d,h,e=>by
  obtain⟨v,r,rfl,h1,h2⟩:=h
  cases i with
  | zero=>simp at e;subst e;exact⟨v,rfl,h1⟩
  | succ i=>obtain⟨u,e1,e2⟩:=bN.get h2 (i:=i) (by simpa using e);exact⟨u,by simpa using e1,e2⟩
theorem bN.append{K:Fg}{F:Hp}:∀{ds es:List D} {vs ws:List V},bN K F ds vs→bN K F es ws→bN K F (ds++es) (vs++ws)
 | [],es,vs,ws,h,g=>by cases h;exact g
 | d::ds,es,vs,ws,h,g=>by
  obtain⟨v,r,rfl,h1,h2⟩:=h
  exact⟨v,r++ws,rfl,h1,bN.append h2 g⟩
theorem bN.drop{K:Fg}{F:Hp}:∀(n:Nat) {ds:List D} {vs:List V},bN K F ds vs→bN K F (ds.drop n) (vs.drop n)
 | 0,_,_,h=>h
 | _+1,[],_,h=>by cases h;exact rfl
 | n+1,d::ds,vs,h=>by
  obtain⟨v,r,rfl,_,h2⟩:=h
  exact bN.drop n h2
theorem bN.take{K:Fg}{F:Hp}:∀(n:Nat) {ds:List D} {vs:List V},bN K F ds vs→bN K F (ds.take n) (vs.take n)
 | 0,_,_,_=>rfl
 | _+1,[],_,h=>by cases h;exact rfl
 | n+1,d::ds,vs,h=>by
  obtain⟨v,r,rfl,h1,h2⟩:=h
  exact⟨v,r.take n,rfl,h1,bN.take n h2⟩
theorem bN.set{K:Fg}{F:Hp}{d:D}{v:V}(hd:Rep K F d v):∀(i:Nat) {ds:List D} {vs:List V},bN K F ds vs→bN K F (ds.set i d) (vs.set i v)
 | _,[],_,h=>by cases h;exact rfl
 | 0,c::ds,vs,h=>by
  obtain⟨u,r,rfl,_,h2⟩:=h
  exact⟨v,r,rfl,hd,h2⟩
 | i+1,c::ds,vs,h=>by
  obtain⟨u,r,rfl,h1,h2⟩:=h
  exact⟨u,r.set i v,rfl,h1,bN.set hd i h2⟩
theorem bN.one{K:Fg}{F:Hp}{d:D}{v:V}(h:Rep K F d v):bN K F [d] [v]:=⟨v,[],rfl,h,rfl⟩
noncomputable abbrev Env:=List (Option (Bool×D))
inductive R (α:Type) where
 | ok (a:α) (env:Env)
 | stuck
noncomputable abbrev Ev:=Env→R D
noncomputable abbrev dG:=Env→R Bool
noncomputable abbrev cL:=Env→R (List D)
structure Cfg where
 K:Fg
 fx:Nat→Option Addr
noncomputable def mL(K:Fg)(F H:Hp):D→Addr→Prop
 | .lst xs,a=>xs.length≤sizeLine∧∃vs,H a=some (.lst vs)∧bN K F xs vs
 | .dct kvs,a=>kvs.length≤sizeLine∧∃ks,H a=some (.dK ks)∧dC K F kvs ks
 | _,_=>False
theorem mL.mono{K:Fg}{F F' H H':Hp}(e:aO F F'){d:D}{a:Addr}(k:H' a=H a)(h:mL K F H d a):mL K F' H' d a:=by
 cases d with
 | lst xs=>obtain⟨z,vs,h1,h2⟩:=h;exact⟨z,vs,k.trans h1,bN.mono e _ _ h2⟩
 | dct kvs=>obtain⟨z,ks,h1,h2⟩:=h;exact⟨z,ks,k.trans h1,dC.mono e _ _ h2⟩
 | _=>exact h
theorem mL.some{K:Fg}{F H:Hp}{d:D}{a:Addr}(h:mL K F H d a):∃o,H a=some o:=by
 cases d with
 | lst xs=>obtain⟨z,vs,h1,h2⟩:=h;exact⟨_,h1⟩
 | dct kvs=>obtain⟨z,ks,h1,h2⟩:=h;exact⟨_,h1⟩
 | _=>exact h.elim
noncomputable def jk(K:Fg)(F H:Hp)(d:D)(v:V):Prop:=Rep K F d v∨∃a,v = .ref a∧mL K F H d a
theorem jk.rep{K:Fg}{F H:Hp}{d:D}{v:V}(s:aO F H)(h:jk K F H d v):Rep K H d v:=by
 rcases h with h|⟨a,rfl,h⟩
 ·exact Rep.mono s d v h
 ·cases d with
  | lst xs=>obtain⟨z,vs,h1,h2⟩:=h;exact⟨z,a,vs,rfl,h1,bN.mono s _ _ h2⟩
  | dct kvs=>obtain⟨z,ks,h1,h2⟩:=h;exact⟨z,a,ks,rfl,.inl h1,dC.mono s _ _ h2⟩
  | _=>exact h.elim
theorem jk.lst{K:Fg}{F H:Hp}{xs:List D}{v:V}(s:aO F H)(h:jk K F H (.lst xs) v):xs.length≤sizeLine∧∃a vs,v = .ref a∧H a=some (.lst vs)∧bN K F xs vs:=by
 rcases h with ⟨z,a,vs,rfl,h1,h2⟩|⟨a,rfl,z,vs,h1,h2⟩
 ·exact⟨z,a,vs,rfl,s _ _ h1,h2⟩
 ·exact⟨z,a,vs,rfl,h1,h2⟩
theorem jk.arr{K:Fg}{F H:Hp}{xs:List D}{v:V}(s:aO F H)(h:jk K F H (.arr xs) v):xs.length≤sizeLine∧∃a vs,v = .ref a∧jY K H a vs∧bN K F xs vs:=by
 rcases h with ⟨z,a,vs,rfl,h1,h2⟩|⟨a,rfl,h⟩
 ·exact⟨z,a,vs,rfl,s.seq h1,h2⟩
 ·exact h.elim
theorem jk.tup{K:Fg}{F H:Hp}{xs:List D}{v:V}(s:aO F H)(h:jk K F H (.tup xs) v):xs.length≤sizeLine∧∃a vs,v = .ref a∧oM K H a vs∧oM K F a vs∧bN K F xs vs:=by
 rcases h with ⟨z,a,vs,rfl,h1,h2⟩|⟨a,rfl,h⟩
 ·exact⟨z,a,vs,rfl,aO.tupK s h1,h1,h2⟩
 ·exact h.elim
theorem jk.int{K:Fg}{F H:Hp}{i:Int}{v:V}(h:jk K F H (.int i) v):v = .int i:=by
 rcases h with h|⟨a,rfl,h⟩
 ·exact h
 ·exact h.elim
theorem jk.bl{K:Fg}{F H:Hp}{i:Bool}{v:V}(h:jk K F H (.bl i) v):v = .bl i:=by
 rcases h with h|⟨a,rfl,h⟩
 ·exact h
 ·exact h.elim
theorem jk.non{K:Fg}{F H:Hp}{v:V}(h:jk K F H .non v):v = .non:=by
 rcases h with h|⟨a,rfl,h⟩
 ·exact h
 ·exact h.elim
theorem jk.str{K:Fg}{F H:Hp}{x:List Nat}{v:V}(h:jk K F H (.str x) v):v = .str (strOf x)∧x.length≤sizeLine:=by
 rcases h with h|⟨a,rfl,h⟩
 ·exact h
 ·exact h.elim
structure Rel(C:Cfg)(Pr F:Hp)(env:Env)(σ:L2.St)(H:Hp):Prop where
 pr:aO Pr H
 fr:aO F H
 len:env.length=σ.length
 val:∀(i:Nat) (d:D),env[i]? = some (some (false,d))→∃v,σ[i]? = some (some v)∧Rep C.K F d v
 own:∀(i:Nat) (d:D),env[i]? = some (some (true,d))→∃a,σ[i]? = some (some (V.ref a))∧mL C.K F H d a∧F a=none∧Pr a=none
 apart:∀(i j:Nat) (d e:D) (a:Addr),env[i]? = some (some (true,d))→env[j]? = some (some (true,e))→σ[i]? = some (some (V.ref a))→σ[j]? = some (some (V.ref a))→i=j
 dj:∀b o,F b=some o→Pr b=none
 fix:∀i a,C.fx i=some a→σ[i]? = some (some (V.ref a))
theorem Hw{H:Hp}{a b:Addr}{o:HO}(h:upd H a o b=none):H b=none:=by
 by_cases hb:b=a
 ·subst hb;rw[aW] at h;cases h
 ·rw[bK hb] at h;exact h
theorem mq{H:Hp}{a:Addr}{o:HO}(h:H a=none):aO H (upd H a o):=fun b u e=>by
 rw[bK (fZ e h)];exact e
theorem Rel.new{C:Cfg}{Pr F:Hp}{env:Env}{σ:L2.St}{H:Hp}{a:Addr}{o:HO}(r:Rel C Pr F env σ H)(h:H a=none):Rel C Pr (upd F a o) env σ (upd H a o)∧aO F (upd F a o):=by
 have hF:F a=none:=r.fr.free h
 have s1:aO F (upd F a o):=mq hF
 refine⟨⟨r.pr.trans (mq h),fun b u e=>?_,r.len,fun i d e1=>?_,fun i d e1=>?_,r.apart,fun b u e=>?_,r.fix⟩,s1⟩
 ·by_cases hb:b=a
  ·subst hb;rw[aW] at e ⊢;exact e
  ·rw[bK hb] at e ⊢;exact r.fr b u e
 ·obtain⟨v,h1,h2⟩:=r.val i d e1
  exact⟨v,h1,Rep.mono s1 d v h2⟩
 ·obtain⟨b,h1,h2,h3,h4⟩:=r.own i d e1
  obtain⟨u,hu⟩:=h2.some
  have hb:b≠a:=fZ hu h
  exact⟨b,h1,h2.mono s1 (bK hb),by rw[bK hb];exact h3,h4⟩
 ·by_cases hb:b=a
  ·subst hb;exact r.pr.free h
  ·rw[bK hb] at e;exact r.dj b u e
theorem Rel.fresh{C:Cfg}{Pr F:Hp}{env:Env}{σ:L2.St}{H:Hp}{a:Addr}{o:HO}(r:Rel C Pr F env σ H)(h:H a=none):Rel C Pr F env σ (upd H a o):=by
 refine⟨r.pr.trans (mq h),r.fr.trans (mq h),r.len,r.val,fun i d e1=>?_,r.apart,r.dj,r.fix⟩
 obtain⟨b,h1,h2,h3,h4⟩:=r.own i d e1
 obtain⟨u,hu⟩:=h2.some
 have hb:b≠a:=fZ hu h
 exact⟨b,h1,h2.mono (aO.refl F) (bK hb),h3,h4⟩
theorem Rel.aside{C:Cfg}{Pr F:Hp}{env:Env}{σ:L2.St}{H:Hp}{a:Addr}{o:HO}(r:Rel C Pr F env σ H)(h:H a=none):Rel C (upd Pr a o) F env σ (upd H a o):=by
 have r':=r.fresh (o:=o) h
 have hF:F a=none:=r.fr.free h
 refine⟨fun b u e=>?_,r'.fr,r.len,r.val,fun i d e1=>?_,r.apart,fun b u e=>?_,r.fix⟩
 ·by_cases hb:b=a
  ·subst hb;rw[aW] at e ⊢;exact e
  ·rw[bK hb] at e ⊢;exact r.pr b u e
 ·obtain⟨b,h1,h2,h3,h4⟩:=r'.own i d e1
  obtain⟨b',h1',h2',_⟩:=r.own i d e1
  rw[h1] at h1';cases h1'
  obtain⟨u,hu⟩:=h2'.some
  have hb:b≠a:=fZ hu h
  exact⟨b,h1,h2,h3,by rw[bK hb];exact h4⟩
 ·have hb:b≠a:=fun z=>by rw[z,hF] at e;cases e
  rw[bK hb];exact r.dj b u e
theorem Rel.turn{C:Cfg}{Pr F:Hp}{env:Env}{σ:L2.St}{H:Hp}{a:Addr}{o u:HO}(r:Rel C Pr F env σ H)(h:Pr a=some o):Rel C (upd Pr a u) F env σ (upd H a u):=by
 have hF:F a=none:=by
  cases e:F a with
  | none=>rfl
  | some w=>have:=r.dj a w e;rw[h] at this;cases this
 refine⟨fun b w e=>?_,fun b w e=>?_,r.len,r.val,fun i d e1=>?_,r.apart,fun b w e=>?_,r.fix⟩
 ·by_cases hb:b=a
  ·subst hb;rw[aW] at e ⊢;exact e
  ·rw[bK hb] at e ⊢;exact r.pr b w e
 ·have hb:b≠a:=fun z=>by rw[z,hF] at e;cases e
  rw[bK hb];exact r.fr b w e
 ·obtain⟨b,h1,h2,h3,h4⟩:=r.own i d e1
  have hb:b≠a:=fun z=>by rw[z,h] at h4;cases h4
  exact⟨b,h1,h2.mono (aO.refl F) (bK hb),h3,by rw[bK hb];exact h4⟩
 ·have hb:b≠a:=fun z=>by rw[z,hF] at e;cases e
  rw[bK hb];exact r.dj b w e
theorem Rel.less{C:Cfg}{Pr Pr' F:Hp}{env:Env}{σ:L2.St}{H:Hp}(r:Rel C Pr F env σ H)(s:aO Pr' Pr):Rel C Pr' F env σ H:=
 ⟨s.trans r.pr,r.fr,r.len,r.val,fun i d e=>let ⟨b,h1,h2,h3,h4⟩:=r.own i d e;⟨b,h1,h2,h3,s.free h4⟩,r.apart,fun b o e=>s.free (r.dj b o e),r.fix⟩
theorem Rel.freeze{C:Cfg}{Pr F:Hp}{env:Env}{σ:L2.St}{H:Hp}(r:Rel C Pr F env σ H){i:Nat}{d:D}(h:env[i]? = some (some (true,d))) :
  ∃(F':Hp) (v:V),Rel C Pr F' (env.set i (some (false,d))) σ H∧aO F F'∧σ[i]? = some (some v)∧Rep C.K F' d v:=by
 obtain⟨a,h1,h2,h3,h4⟩:=r.own i d h
 obtain⟨o,ho⟩:=h2.some
 have s1:aO F (upd F a o):=mq h3
 have hi:i<env.length:=(List.getElem?_eq_some_iff.mp h).1
 have rep:Rep C.K (upd F a o) d (.ref a):=by
  cases d with
  | lst xs=>obtain⟨z,vs,g1,g2⟩:=h2;rw[ho] at g1;cases g1;exact⟨z,a,vs,rfl,aW,bN.mono s1 _ _ g2⟩
  | dct kvs=>obtain⟨z,ks,g1,g2⟩:=h2;rw[ho] at g1;cases g1;exact⟨z,a,ks,rfl,.inl aW,dC.mono s1 _ _ g2⟩
  | _=>exact h2.elim
 refine⟨upd F a o,.ref a,⟨r.pr,fun b u e=>?_,by rw[List.length_set];exact r.len,fun j e he=>?_,fun j e he=>?_,fun j k e f b hj hk g1 g2=>?_,fun b u e=>?_,r.fix⟩,s1,h1,rep⟩
 ·by_cases hb:b=a
  ·subst hb;rw[aW] at e;cases e;exact ho
  ·rw[bK hb] at e;exact r.fr b u e
 ·by_cases hj:j=i
  ·subst hj
   rw[List.getElem?_set_self hi] at he
   cases he
   exact⟨_,h1,rep⟩
  ·rw[List.getElem?_set_ne (Ne.symm hj)] at he
   obtain⟨v,g1,g2⟩:=r.val j e he
   exact⟨v,g1,Rep.mono s1 e v g2⟩
 ·by_cases hj:j=i
  ·subst hj
   rw[List.getElem?_set_self hi] at he
   cases he
  ·rw[List.getElem?_set_ne (Ne.symm hj)] at he
   obtain⟨b,g1,g2,g3,g4⟩:=r.own j e he
   have hb:b≠a:=fun z=>hj (r.apart j i e d a he h (by rw[←z];exact g1) h1)
   exact⟨b,g1,g2.mono s1 rfl,by rw[bK hb];exact g3,g4⟩
 ·have nj:j≠i:=fun z=>by subst z;rw[List.getElem?_set_self hi] at hj;cases hj
  have nk:k≠i:=fun z=>by subst z;rw[List.getElem?_set_self hi] at hk;cases hk
  rw[List.getElem?_set_ne (Ne.symm nj)] at hj
  rw[List.getElem?_set_ne (Ne.symm nk)] at hk
  exact r.apart j k e f b hj hk g1 g2
 ·by_cases hb:b=a
  ·subst hb;exact h4
  ·rw[bK hb] at e;exact r.dj b u e
noncomputable def tE(C:Cfg)(ev:Ev):TE:=fun σ H Q=>∃(Pr F:Hp) (env env':Env) (d:D),Rel C Pr F env σ H∧ev env = .ok d env'∧
 ∀v H' F',Rel C Pr F' env' σ H'→aO F F'→Rep C.K F' d v→Q v H'
noncomputable def tRd(C:Cfg)(ev:Ev):TE:=fun σ H Q=>∃(Pr F:Hp) (env env':Env) (d:D),Rel C Pr F env σ H∧ev env = .ok d env'∧
 ∀v H' F',Rel C Pr F' env' σ H'→aO F F'→jk C.K F' H' d v→Q v H'
noncomputable def tT(C:Cfg)(ev:dG):TT:=fun σ H Q=>∃(Pr F:Hp) (env env':Env) (b:Bool),Rel C Pr F env σ H∧ev env = .ok b env'∧
 ∀H' F',Rel C Pr F' env' σ H'→aO F F'→Q b H'
noncomputable def tA(C:Cfg)(ev:cL):TA:=fun σ H Q=>∃(Pr F:Hp) (env env':Env) (ds:List D),Rel C Pr F env σ H∧ev env = .ok ds env'∧
 ∀vs H' F',Rel C Pr F' env' σ H'→aO F F'→bN C.K F' ds vs→Q vs H'
noncomputable def PX(X:Cx)(C:Cfg)(e:Expr)(ev:Ev):Prop:=PE X e (tE C ev)
noncomputable def Cg(X:Cx)(C:Cfg)(e:Expr)(ev:Ev):Prop:=PE X e (tRd C ev)
noncomputable def Oa(X:Cx)(C:Cfg)(e:Expr)(ev:dG):Prop:=PT X e (tT C ev)
noncomputable def Dg(X:Cx)(C:Cfg)(es:List Expr)(ev:cL):Prop:=PA X es (tA C ev)
theorem _root_.L2.PE.imp{X:Cx}{e:Expr}{t t':TE}(h:PE X e t)(i:∀σ H Q,t' σ H Q→t σ H Q):PE X e t':=fun pins s σ H Q I q=>h pins s σ H Q I (i σ H Q q)
theorem _root_.L2.PT.imp{X:Cx}{e:Expr}{t t':TT}(h:PT X e t)(i:∀σ H Q,t' σ H Q→t σ H Q):PT X e t':=fun pins s σ H Q I q=>h pins s σ H Q I (i σ H Q q)
theorem _root_.L2.PW.imp{X:Cx}{e:Expr}{t t':TT}(h:PW X e t)(i:∀σ H Q,t' σ H Q→t σ H Q):PW X e t':=fun whole pins s σ H Q I q=>h whole pins s σ H Q I (i σ H Q q)
theorem _root_.L2.PA.imp{X:Cx}{e:List Expr}{t t':TA}(h:PA X e t)(i:∀σ H Q,t' σ H Q→t σ H Q):PA X e t':=fun pos pins s σ H Q I q=>h pos pins s σ H Q I (i σ H Q q)
theorem _root_.L2.PS.imp{X:Cx}{e:Stmt}{t t':TS}(h:PS X e t)(i:∀D σ H,t' D σ H→t D σ H):PS X e t':=fun pins s σ H D I q=>h pins s σ H D I (i D σ H q)
theorem _root_.L2.Js.imp{X:Cx}{e:List Stmt}{t t':TS}(h:Js X e t)(i:∀D σ H,t' D σ H→t D σ H):Js X e t':=fun pins s σ H D I q=>h pins s σ H D I (i D σ H q)
noncomputable def bindR{α β:Type}(x:R α)(f:α→Env→R β):R β:=match x with
 | .ok a env=>f a env
 | .stuck=>.stuck
noncomputable def dY{α:Type}(o:Option α)(env:Env):R α:=match o with
 | some a=>.ok a env
 | none=>.stuck
theorem aR{α β:Type}{x:R α}{f:α→Env→R β}{b:β}{env':Env}(h:bindR x f = .ok b env'):∃a aG,x = .ok a aG∧f a aG = .ok b env':=by
 cases x with
 | ok a aG=>exact⟨a,aG,rfl,h⟩
 | stuck=>cases h
theorem eQ{α:Type}{o:Option α}{env env':Env}{a:α}(h:dY o env = .ok a env'):o=some a∧env'=env:=by
 cases o with
 | some b=>cases h;exact⟨rfl,rfl⟩
 | none=>cases h
section
variable{X:Cx}{C:Cfg}{pos:Pos}
noncomputable def aq(i:Nat):Ev:=fun env=>match env[i]? with
 | some (some (false,d))=>.ok d env
 | some (some (true,d))=>.ok d (env.set i (some (false,d)))
 | _=>.stuck
theorem aaJ(i:Nat){x:Str}(hN:X.N[i]? = some x)(hv:uw X.env.scope x)(hd:(x == ("__debug__" : Str))=false:=by decide)(hcd:(x == ("__classdict__" : Str))=false:=by decide):PX X C (.Name x pos) (aq i):=by
 refine(mO hN hv hd hcd).imp fun σ H Q h=>?_
 obtain⟨Pr,F,env,env',d,r,e,q⟩:=h
 unfold aq at e
 split at e
 ·rename_i d' hd'
  cases e
  obtain⟨v,h1,h2⟩:=r.val i d hd'
  exact⟨v,h1,q v H F r (aO.refl F) h2⟩
 ·rename_i d' hd'
  cases e
  obtain⟨F',v,r',s',h1,h2⟩:=r.freeze hd'
  exact⟨v,h1,q v H F' r' s' h2⟩
 ·cases e
theorem PX.b{e:Expr}{ev:Ev}(h:PX X C e ev):Cg X C e ev:=PE.imp h fun σ H Q hq=>by
 obtain⟨Pr,F,env,env',d,r,e,q⟩:=hq
 exact⟨Pr,F,env,env',d,r,e,fun v H' F' r' s' p'=>q v H' F' r' s' (.inl p')⟩
noncomputable def aY(i:Nat):Ev:=fun env=>match env[i]? with
 | some (some (_,d))=>.ok d env
 | _=>.stuck
theorem Rel.rd{Pr F:Hp}{env:Env}{σ:L2.St}{H:Hp}(r:Rel C Pr F env σ H){i:Nat}{o:Bool}{d:D}(h:env[i]? = some (some (o,d))):∃v,σ[i]? = some (some v)∧jk C.K F H d v:=by
 cases o with
 | true=>obtain⟨a,h1,h2,_⟩:=r.own i d h;exact⟨_,h1,.inr ⟨a,rfl,h2⟩⟩
 | false=>obtain⟨v,h1,h2⟩:=r.val i d h;exact⟨v,h1,.inl h2⟩
theorem Wl(i:Nat){x:Str}(hN:X.N[i]? = some x)(hv:uw X.env.scope x)(hd:(x == ("__debug__" : Str))=false:=by decide)(hcd:(x == ("__classdict__" : Str))=false:=by decide):Cg X C (.Name x pos) (aY i):=by
 refine(mO hN hv hd hcd).imp fun σ H Q h=>?_
 obtain⟨Pr,F,env,env',d,r,e,q⟩:=h
 unfold aY at e
 split at e
 ·rename_i o' d' hd'
  cases e
  obtain⟨v,h1,h2⟩:=r.rd hd'
  exact⟨v,h1,q v H F r (aO.refl F) h2⟩
 ·cases e
noncomputable def aU(d:D):Ev:=fun env=>.ok d env
theorem aN{i:Int}{j:Nat}:PX X C (.Constant (.int i) j pos) (aU (.int i)):=RP.imp fun σ H Q h=>by
 obtain⟨Pr,F,env,env',d,r,e,q⟩:=h
 cases e
 exact q _ _ F r (aO.refl F) rfl
theorem yU{b:Bool}{j:Nat}:PX X C (.Constant (.bool b) j pos) (aU (.bl b)):=af5.imp fun σ H Q h=>by
 obtain⟨Pr,F,env,env',d,r,e,q⟩:=h
 cases e
 exact q _ _ F r (aO.refl F) rfl
theorem o6{j:Nat}:PX X C (.Constant .none j pos) (aU .non):=aa0.imp fun σ H Q h=>by
 obtain⟨Pr,F,env,env',d,r,e,q⟩:=h
 cases e
 exact q _ _ F r (aO.refl F) rfl
theorem bY(z:List Nat){x:Str}{j:Nat}(hz:x=strOf z)(hl:z.length≤sizeLine:=by decide):PX X C (.Constant (.str x) j pos) (aU (.str z)):=by
 subst hz
 refine aaW.imp fun σ H Q h=>?_
 obtain⟨Pr,F,env,env',d,r,e,q⟩:=h
 cases e
 exact q _ _ F r (aO.refl F) ⟨rfl,hl⟩
theorem uA{x:Str}{v:V}{u:Value}(d:D)(hg:Gl X x)(hm:X.mg x=some u)(rv:RelV v u)(hr:∀F,Rep C.K F d v)(hd:(x == ("__debug__" : Str))=false:=by decide):PX X C (.Name x pos) (aU d):=
 (Wz hg hm rv hd).imp fun σ H Q h=>by
  obtain⟨Pr,F,env,env',d,r,e,q⟩:=h
  cases e
  exact q _ _ F r (aO.refl F) (hr F)
noncomputable def ao:cL:=fun env=>.ok [] env
noncomputable def aa(a:Ev)(r:cL):cL:=fun env=>bindR (a env) fun d aG=>bindR (r aG) fun ds cQ=>.ok (d::ds) cQ
theorem aB:Dg X C [] ao:=uP.imp fun σ H Q h=>by
 obtain⟨Pr,F,env,env',d,r,e,q⟩:=h
 cases e
 exact q _ _ F r (aO.refl F) rfl
theorem aj{e:Expr}{es:List Expr}{a:Ev}{r:cL}(ha:PX X C e a)(hr:Dg X C es r)(hs:starEach (e::es) X.env=(false,eval e X.env)::starEach es X.env:=by rfl):Dg X C (e::es) (aa a r):=
 (lW ha hr hs).imp fun σ H Q h=>by
  obtain⟨Pr,F,env,env',ds,rl,e,q⟩:=h
  obtain⟨d1,aG,e1,e2⟩:=aR e
  obtain⟨By,cQ,e3,e4⟩:=aR e2
  cases e4
  refine⟨Pr,F,env,aG,d1,rl,e1,fun v H1 F1 r1 s1 p1=>?_⟩
  refine⟨Pr,F1,aG,env',By,r1,e3,fun vs H2 F2 r2 s2 p2=>?_⟩
  exact q _ H2 F2 r2 (s1.trans s2) ⟨v,vs,rfl,Rep.mono s2 d1 v p1,p2⟩
noncomputable def dm(r:cL):Ev:=fun env=>bindR (r env) fun ds aG=>if ds.length≤sizeLine then .ok (.tup ds) aG else .stuck
noncomputable def cG(r:cL):Ev:=fun env=>bindR (r env) fun ds aG=>if ds.length≤sizeLine then .ok (.lst ds) aG else .stuck
theorem dZ{es:List Expr}{r:cL}{k:Nat}(h:Dg X C es r):PX X C (.Tuple es k pos) (dm r):=(aaV h).imp fun σ H Q hq=>by
 obtain⟨Pr,F,env,env',d,rl,e,q⟩:=hq
 obtain⟨ds,aG,e1,e2⟩:=aR e
 split at e2
 ·rename_i hz
  cases e2
  refine⟨Pr,F,env,env',ds,rl,e1,fun vs H1 F1 r1 s1 p1=>⟨by rw[p1.length];exact hz,fun p hp=>?_⟩⟩
  obtain⟨r2,s2⟩:=r1.new (o:=.tup vs) hp
  exact q _ _ _ r2 (s1.trans s2) ⟨hz,p,vs,rfl,oM.of aW,bN.mono s2 _ _ p1⟩
 ·cases e2
noncomputable def aK(g:D→D→Option D)(a b:Ev):Ev:=fun env=>bindR (a env) fun x aG=>bindR (b aG) fun y cQ=>dY (g x y) cQ
noncomputable def oA(g:D→Option D)(a:Ev):Ev:=fun env=>bindR (a env) fun x aG=>dY (g x) aG
noncomputable def qu(C:Cfg)(r:R2)(g:D→D→Option D):Prop:=∀(Pr F:Hp) (env:Env) (σ:L2.St) (H:Hp) (x y d:D) (vx vy:V) (Q:VK),Rel C Pr F env σ H→jk C.K F H x vx→jk C.K F H y vy→g x y=some d→
 (∀v H' F',Rel C Pr F' env σ H'→aO F F'→Rep C.K F' d v→Q v H')→r vx vy H Q
noncomputable def UnD(C:Cfg)(r:V→Hp→VK→Prop)(g:D→Option D):Prop:=∀(Pr F:Hp) (env:Env) (σ:L2.St) (H:Hp) (x d:D) (vx:V) (Q:VK),Rel C Pr F env σ H→jk C.K F H x vx→g x=some d→
 (∀v H' F',Rel C Pr F' env σ H'→aO F F'→Rep C.K F' d v→Q v H')→r vx H Q
theorem Gq{r:R2}{g:D→D→Option D}{a b:Ev}(o:qu C r g)(σ:L2.St)(H:Hp)(Q:VK)(h:tE C (aK g a b) σ H Q):tOp r (tE C a) (tRd C b) σ H Q:=by
 obtain⟨Pr,F,env,env',d,rl,e,q⟩:=h
 obtain⟨x,aG,e1,e2⟩:=aR e
 obtain⟨y,cQ,e3,e4⟩:=aR e2
 obtain⟨e5,rfl⟩:=eQ e4
 refine⟨Pr,F,env,aG,x,rl,e1,fun vx H1 F1 r1 s1 p1=>⟨Pr,F1,aG,env',y,r1,e3,fun vy H2 F2 r2 s2 p2=>?_⟩⟩
 exact o Pr F2 env' σ H2 x y d vx vy Q r2 (.inl (Rep.mono s2 x vx p1)) p2 e5 fun v H3 F3 r3 s3 p3=>q v H3 F3 r3 ((s1.trans s2).trans s3) p3
noncomputable def au(g:D→D→Option D)(i:Nat)(b:Ev):Ev:=fun env=>match env[i]? with
 | some (some (_,_))=>bindR (b env) fun y cQ=>(match cQ[i]? with
  | some (some (_,x))=>dY (g x y) cQ
  | _=>.stuck)
 | _=>.stuck
theorem xx{r:R2}{g:D→D→Option D}{i:Nat}{b:Ev}(o:qu C r g)(σ:L2.St)(H:Hp)(Q:VK)(h:tE C (au g i b) σ H Q):tOp r (aev i) (tRd C b) σ H Q:=by
 obtain⟨Pr,F,env,env',d,rl,e,q⟩:=h
 unfold au at e
 split at e
 ·rename_i o0 d0 h0
  obtain⟨v,hv,_⟩:=rl.rd h0
  obtain⟨y,cQ,e1,e2⟩:=aR e
  split at e2
  ·rename_i o2 x h2
   obtain⟨e5,rfl⟩:=eQ e2
   refine⟨v,hv,Pr,F,env,env',y,rl,e1,fun vy H2 F2 r2 s2 p2=>?_⟩
   obtain⟨v',hv',p⟩:=r2.rd h2
   rw[hv] at hv';cases hv'
   exact o Pr F2 env' σ H2 x y d v vy Q r2 p p2 e5 fun v H3 F3 r3 s3 p3=>q v H3 F3 r3 (s2.trans s3) p3
  ·cases e2
 ·cases e
theorem afy{op:Operator}{r:R2}{g:D→D→Option D}{x y:Expr}{a b:Ev}(ho:oK X (binaryOp op) r)(o:qu C r g)(ha:PX X C x a)(hb:Cg X C y b):PX X C (.BinOp x op y pos) (aK g a b):=
 (YT ho ha hb).imp (Gq o)
theorem aaL{op:Operator}{r:R2}{g:D→D→Option D}{y:Expr}{b:Ev}{px:Pos}(i:Nat){x:Str}(hN:X.N[i]? = some x)(hv:uw X.env.scope x)(ho:oK X (binaryOp op) r)(o:qu C r g)(hb:Cg X C y b)
  (hd:(x == ("__debug__" : Str))=false:=by decide) (hcd:(x == ("__classdict__" : Str))=false:=by decide):PX X C (.BinOp (.Name x px) op y pos) (au g i b):=
 (YT ho (mO hN hv hd hcd) hb).imp (xx o)
theorem aaN{op:CmpOp}{r:R2}{g:D→D→Option D}{x y:Expr}{a b:Ev}(ho:oK X (compareOp op) r)(o:qu C r g)(ha:PX X C x a)(hb:Cg X C y b)(hm:behindInMarks op y=false):PX X C (.Compare x [op] [y] pos) (aK g a b):=
 (M3 ho ha hb hm).imp (Gq o)
theorem afw{op:UnaryOp}{r:V→Hp→VK→Prop}{g:D→Option D}{x:Expr}{a:Ev}(ho:UnR X (unaryOp op) r)(o:UnD C r g)(ha:PX X C x a):PX X C (.UnaryOp op x pos) (oA g a):=
 (YS ho ha).imp fun σ H Q h=>by
  obtain⟨Pr,F,env,env',d,rl,e,q⟩:=h
  obtain⟨x,aG,e1,e2⟩:=aR e
  obtain⟨e3,rfl⟩:=eQ e2
  exact⟨Pr,F,env,env',x,rl,e1,fun vx H1 F1 r1 s1 p1=>o Pr F1 env' σ H1 x d vx Q r1 (.inl p1) e3 fun v H3 F3 r3 s3 p3=>q v H3 F3 r3 (s1.trans s3) p3⟩
noncomputable def cX(a:Ev):dG:=fun env=>bindR (a env) fun d aG=>match d with
 | .bl b=>.ok b aG
 | _=>.stuck
theorem Q3{a:Ev}{σ:L2.St}{H:Hp}{Q:Bool→Hp→Prop}(h:tT C (cX a) σ H Q):tE C a σ H fun x H'=>∃k,x = .bl k∧Q k H':=by
 obtain⟨Pr,F,env,env',b,rl,e,q⟩:=h
 obtain⟨d,aG,e1,e2⟩:=aR e
 refine⟨Pr,F,env,aG,d,rl,e1,fun v H1 F1 r1 s1 p1=>?_⟩
 cases d with
 | bl c=>cases e2;exact⟨_,p1,q H1 F1 r1 s1⟩
 | _=>cases e2
theorem Wd{op:CmpOp}{r:R2}{g:D→D→Option D}{x y:Expr}{a b:Ev}(ho:oK X (compareOp op) r)(o:qu C r g)(ha:PX X C x a)(hb:Cg X C y b)(hm:behindInMarks op y=false):Oa X C (.Compare x [op] [y] pos) (cX (aK g a b)):=
 (MK ho ha hb hm).imp fun σ H Q h=>by
  have h1:=Q3 h
  exact Gq o σ H _ h1
theorem iG{e:Expr}{a:Ev}(h:PX X C e a)(he:∀whole,isTrue e X.env whole=(do let v ←whole;standAt e.pos;holding [v] (truthy v)):=by intro _;rfl):Oa X C e (cX a):=
 (aaO h he).imp fun σ H Q hq=>Q3 hq
noncomputable def Bs(a:dG):dG:=fun env=>bindR (a env) fun b aG=>.ok (!b) aG
theorem Ft{x:Expr}{a:dG}(h:Oa X C x a):Oa X C (.UnaryOp .Not x pos) (Bs a):=(aaP h).imp fun σ H Q hq=>by
 obtain⟨Pr,F,env,env',b,rl,e,q⟩:=hq
 obtain⟨c,aG,e1,e2⟩:=aR e
 cases e2
 exact⟨Pr,F,env,env',c,rl,e1,fun H1 F1 r1 s1=>q H1 F1 r1 s1⟩
noncomputable def cz(a b:dG):dG:=fun env=>bindR (a env) fun c aG=>if c=true then b aG else .ok false aG
noncomputable def aiO(a b:dG):dG:=fun env=>bindR (a env) fun c aG=>if c=true then .ok true aG else b aG
noncomputable def PXW(X:Cx)(C:Cfg)(e:Expr)(ev:dG):Prop:=PW X e (tT C ev)
theorem jr{x:Expr}{a:dG}(h:Oa X C x a):PXW X C (.BoolOp .And [x] pos) a:=pw_and1 h
theorem jg{x y:Expr}{rest:List Expr}{a b:dG}(ha:Oa X C x a)(hb:PXW X C (.BoolOp .And (y::rest) pos) b):PXW X C (.BoolOp .And (x::y::rest) pos) (cz a b):=
 (pw_and ha hb).imp fun σ H Q hq=>by
  obtain⟨Pr,F,env,env',k,rl,e,q⟩:=hq
  obtain⟨c,aG,e1,e2⟩:=aR e
  refine⟨Pr,F,env,aG,c,rl,e1,fun H1 F1 r1 s1=>?_⟩
  split at e2
  ·rename_i hc;rw[if_pos hc];exact⟨Pr,F1,aG,env',k,r1,e2,fun H2 F2 r2 s2=>q H2 F2 r2 (s1.trans s2)⟩
  ·rename_i hc;rw[if_neg hc];cases e2;exact q H1 F1 r1 s1
theorem PXW.pt{e:Expr}{a:dG}(h:PXW X C e a):Oa X C e a:=PW.pt h
noncomputable def Zi(a b:Ev):Ev:=fun env=>bindR (a env) fun c aG=>match c with
 | .bl true=>b aG
 | .bl false=>.ok (.bl false) aG
 | _=>.stuck
noncomputable def Iw(a b:Ev):Ev:=fun env=>bindR (a env) fun c aG=>match c with
 | .bl true=>.ok (.bl true) aG
 | .bl false=>b aG
 | _=>.stuck
noncomputable def IK(a:Ev):Ev:=fun env=>bindR (a env) fun c aG=>match c with
 | .bl b=>.ok (.bl (!b)) aG
 | _=>.stuck
theorem Ak{op:BoolOp}{x:Expr}{a:Ev}(h:PX X C x a):PX X C (.BoolOp op [x] pos) a:=aaY h
theorem Hr{x y:Expr}{rest:List Expr}{a b:Ev}(ha:PX X C x a)(hb:PX X C (.BoolOp .Or (y::rest) pos) b):PX X C (.BoolOp .Or (x::y::rest) pos) (Iw a b):=
 (af3 ha hb).imp fun σ H Q hq=>by
  obtain⟨Pr,F,env,env',k,rl,e,q⟩:=hq
  obtain⟨c,aG,e1,e2⟩:=aR e
  refine⟨Pr,F,env,aG,c,rl,e1,fun v H1 F1 r1 s1 p1=>?_⟩
  cases c with
  | bl z=>
   refine⟨z,p1,?_⟩
   cases z with
   | true=>cases e2;exact amq (q _ H1 F1 r1 s1 rfl)
   | false=>exact amr ⟨Pr,F1,aG,env',k,r1,e2,fun v2 H2 F2 r2 s2 p2=>q v2 H2 F2 r2 (s1.trans s2) p2⟩
  | _=>cases e2
theorem Km{x:Expr}{a:Ev}(ha:PX X C x a):PX X C (.UnaryOp .Not x pos) (IK a):=(aaZ ha).imp fun σ H Q hq=>by
 obtain⟨Pr,F,env,env',k,rl,e,q⟩:=hq
 obtain⟨c,aG,e1,e2⟩:=aR e
 refine⟨Pr,F,env,aG,c,rl,e1,fun v H1 F1 r1 s1 p1=>?_⟩
 cases c with
 | bl z=>cases e2;exact⟨z,p1,q _ H1 F1 r1 s1 rfl⟩
 | _=>cases e2
noncomputable def am2(t:dG)(a b:Ev):Ev:=fun env=>bindR (t env) fun c aG=>if c=true then a aG else b aG
end
end Ev
namespace Ev
open PySem PySem.Spec PyProof.Rows L2
noncomputable def wJ(f:D→D→Option Bool):List D→List D→Option Bool
 | [],[]=>some true
 | x::xs,y::ys=>match f x y,wJ f xs ys with
  | some a,some b=>some (a&&b)
  | _,_=>none
 | [],_::_=>some false
 | _::_,[]=>some false
noncomputable def bJ:Nat→D→D→Option Bool
 | 0,_,_=>none
 | n+1,.tup xs,.tup ys=>wJ (bJ n) xs ys
 | n+1,.lst xs,.lst ys=>wJ (bJ n) xs ys
 | _+1,.dct _,_=>none
 | _+1,_,.dct _=>none
 | _+1,.arr _,_=>none
 | _+1,_,.arr _=>none
 | _+1,.non,.non=>some true
 | _+1,.bl a,.bl b=>some (a == b)
 | _+1,.bl a,.int b=>some ((if a then 1 else 0) == b)
 | _+1,.int a,.bl b=>some (a == (if b then 1 else 0))
 | _+1,.int a,.int b=>some (a == b)
 | _+1,.str a,.str b=>some (a == b)
 | _+1,_,_=>some false
mutual
noncomputable def Sh(h:Heap):D→Value→Prop
 | .non,u=>u = .none
 | .bl b,u=>u = .bool b
 | .int i,u=>∃t,u = .int i t
 | .str x,u=>∃t,u = .str (strOf x) t
 | .tup xs,u=>∃a its,u = .ref a∧IsTup h a its.toArray∧Jx h xs its
 | .lst xs,u=>∃a its,u = .ref a∧PlainL h a its.toArray∧Jx h xs its
 | .arr xs,u=>∃a its,u = .ref a∧PlainL h a its.toArray∧Jx h xs its
 | .dct _,u=>∃a o,u = .ref a∧h.get? a=some o∧o.ExactDict
noncomputable def Jx(h:Heap):List D→List Value→Prop
 | [],us=>us=[]
 | d::ds,us=>∃u r,us=u::r∧Sh h d u∧Jx h ds r
end
theorem Jx.length{h:Heap}:∀{ds:List D} {us:List Value},Jx h ds us→us.length=ds.length
 | [],_,e=>by cases e;rfl
 | d::ds,us,e=>by obtain⟨u,r,rfl,_,h2⟩:=e;rw[List.length_cons,List.length_cons,h2.length]
section
variable{X:Cx}{pins:List (Addr×Obj)}{σ:L2.St}{H:Hp}{s:Shared}
mutual
theorem Rep.sh(I:Inv X pins σ H s):∀(d:D) (v:V) (u:Value),Rep X.K H d v→RelV v u→Sh s.heap d u
 | .non,_,_,h,r=>by cases h;exact r
 | .bl _,_,_,h,r=>by cases h;exact r
 | .int _,_,_,h,r=>by cases h;exact r
 | .str _,_,_,h,r=>by obtain⟨h,_⟩:=h;cases h;exact r
 | .tup xs,v,u,h,r=>by
  obtain⟨z,a,vs,rfl,h1,h2⟩:=h
  cases r
  obtain⟨its,rv,p,_⟩:=I.tuple h1
  exact⟨a,its,rfl,p,bN.sh I xs vs its h2 rv⟩
 | .lst xs,v,u,h,r=>by
  obtain⟨z,a,vs,rfl,h1,h2⟩:=h
  cases r
  obtain⟨its,rv,p,_⟩:=I.list (jY.of h1)
  exact⟨a,its,rfl,p,bN.sh I xs vs its h2 rv⟩
 | .arr xs,v,u,h,r=>by
  obtain⟨z,a,vs,rfl,h1,h2⟩:=h
  cases r
  obtain⟨its,rv,p,_⟩:=I.list h1
  exact⟨a,its,rfl,p,bN.sh I xs vs its h2 rv⟩
 | .dct kvs,v,u,h,r=>by
  obtain⟨z,a,ks,rfl,h1,h2⟩:=h
  cases r
  obtain⟨_,_,vs,_,o,_,_,e,ex,_⟩:=h1.ok I.hok
  exact⟨a,o,rfl,e,ex⟩
theorem bN.sh(I:Inv X pins σ H s):∀(ds:List D) (vs:List V) (us:List Value),bN X.K H ds vs→Vals vs us→Jx s.heap ds us
 | [],_,_,h,r=>by cases h;cases r;exact rfl
 | d::ds,vs,us,h,r=>by
  obtain⟨v,rr,rfl,h1,h2⟩:=h
  cases r with
  | cons q qs=>exact⟨_,_,rfl,Rep.sh I d v _ h1 q,bN.sh I ds rr _ h2 qs⟩
end
end
theorem Mr{h:Heap}{a:Addr}{xs ys:Array Value}(p:IsTup h a xs)(q:IsTup h a ys):xs=ys:=by
 obtain⟨o,e,_,n,d⟩:=p
 obtain⟨o',e',_,n',d'⟩:=q
 rw[e] at e';cases e'
 rw[d] at d';cases d';rfl
theorem M5{h:Heap}{a:Addr}{xs ys:Array Value}(p:PlainL h a xs)(q:PlainL h a ys):xs=ys:=by
 obtain⟨o,e,_,n,d⟩:=p.isList
 obtain⟨o',e',_,n',d'⟩:=q.isList
 rw[e] at e';cases e'
 rw[d] at d';cases d';rfl
theorem zB{h:Heap}{a:Addr}{xs ys:Array Value}(p:IsTup h a xs)(q:PlainL h a ys):False:=by
 obtain⟨o,e,c,n,d⟩:=p
 obtain⟨o',e',c',n',d'⟩:=q.isList
 rw[e] at e';cases e'
 rw[c] at c'
 simp at c'
theorem Bv{h:Heap}:∀(n:Nat) (d e:D) (u:Value) (b:Bool),Sh h d u→Sh h e u→bJ n d e=some b→b=true
 | 0,_,_,_,_,_,_,hb=>by simp[bJ] at hb
 | n+1,d,e,u,b,hd,he,hb=>by
  have all:∀(xs ys:List D) (us:List Value) (b:Bool),Jx h xs us→Jx h ys us→wJ (bJ n) xs ys=some b→b=true:=by
   intro xs
   induction xs with
   | nil=>
    intro ys us b h1 h2 hb
    cases h1
    cases ys with
    | nil=>simp[wJ] at hb;exact hb
    | cons y ys=>obtain⟨u,r,q,_⟩:=h2;cases q
   | cons x xs ih=>
    intro ys us b h1 h2 hb
    obtain⟨u,r,rfl,h3,h4⟩:=h1
    cases ys with
    | nil=>cases h2
    | cons y ys=>
     obtain⟨u',r',q,h5,h6⟩:=h2
     cases q
     unfold wJ at hb
     cases q1:bJ n x y with
     | none=>rw[q1] at hb;simp at hb
     | some c=>
      cases q2:wJ (bJ n) xs ys with
      | none=>rw[q1,q2] at hb;simp at hb
      | some c'=>
       rw[q1,q2] at hb
       have e1:=Bv n x y u c h3 h5 q1
       have e2:=ih ys r c' h4 h6 q2
       subst e1 e2
       simp at hb
       exact hb
  cases d with
  | non=>cases hd;cases e<;>simp[Sh] at he;simp[bJ] at hb;exact hb
  | bl c=>cases hd;cases e<;>simp[Sh] at he;subst he;simp[bJ] at hb;exact hb
  | int i=>obtain⟨t,rfl⟩:=hd;cases e<;>simp[Sh] at he;subst he;simp[bJ] at hb;exact hb
  | str x=>
   obtain⟨t,rfl⟩:=hd
   cases e with
   | str y=>
    obtain⟨t',q⟩:=he
    injection q with q1 _
    unfold strOf at q1
    injection q1 with q2
    have q3:=congrArg Array.toList q2
    simp at q3
    subst q3
    simp[bJ] at hb
    exact hb
   | _=>simp[Sh] at he
  | tup xs=>
   obtain⟨a,its,rfl,p,hs⟩:=hd
   cases e with
   | tup ys=>
    obtain⟨a',its',q,p',hs'⟩:=he
    cases q
    have e2:its=its':=by simpa using Mr p p'
    subst e2
    exact all xs ys its b hs hs' (by simpa only[bJ] using hb)
   | lst ys=>
    obtain⟨a',its',q,p',hs'⟩:=he
    cases q
    exact(zB p p').elim
   | dct kvs=>simp[bJ] at hb
   | arr kvs=>simp[bJ] at hb
   | _=>simp[Sh] at he
  | lst xs=>
   obtain⟨a,its,rfl,p,hs⟩:=hd
   cases e with
   | lst ys=>
    obtain⟨a',its',q,p',hs'⟩:=he
    cases q
    have e2:its=its':=by simpa using M5 p p'
    subst e2
    exact all xs ys its b hs hs' (by simpa only[bJ] using hb)
   | tup ys=>
    obtain⟨a',its',q,p',hs'⟩:=he
    cases q
    exact(zB p' p).elim
   | dct kvs=>simp[bJ] at hb
   | arr kvs=>simp[bJ] at hb
   | _=>simp[Sh] at he
  | dct kvs=>cases e<;>simp[bJ] at hb
  | arr kvs=>cases e<;>simp[bJ] at hb
theorem Nv{h:Heap}:∀(n:Nat) (d d' e:D) (u:Value) (b b':Bool),Sh h d u→Sh h d' u→bJ n d e=some b→bJ n d' e=some b'→b=b'
 | 0,_,_,_,_,_,_,_,_,hb,_=>by simp[bJ] at hb
 | n+1,d,d',e,u,b,b',hd,hd',hb,hb'=>by
  have all:∀(xs xs' ys:List D) (us:List Value) (b b':Bool),Jx h xs us→Jx h xs' us→wJ (bJ n) xs ys=some b→wJ (bJ n) xs' ys=some b'→b=b':=by
   intro xs
   induction xs with
   | nil=>
    intro xs' ys us b b' h1 h2 hb hb'
    cases h1
    cases xs' with
    | nil=>rw[hb] at hb';exact Option.some.inj hb'
    | cons y ys=>obtain⟨u,r,q,_⟩:=h2;cases q
   | cons x xs ih=>
    intro xs' ys us b b' h1 h2 hb hb'
    obtain⟨u,r,rfl,h3,h4⟩:=h1
    cases xs' with
    | nil=>cases h2
    | cons x' xs'=>
     obtain⟨u',r',q,h5,h6⟩:=h2
     cases q
     cases ys with
     | nil=>simp[wJ] at hb hb';rw[hb,hb']
     | cons y ys=>
      unfold wJ at hb hb'
      cases q1:bJ n x y with
      | none=>rw[q1] at hb;simp at hb
      | some c=>
       cases q2:wJ (bJ n) xs ys with
       | none=>rw[q1,q2] at hb;simp at hb
       | some c2=>
        cases q3:bJ n x' y with
        | none=>rw[q3] at hb';simp at hb'
        | some c3=>
         cases q4:wJ (bJ n) xs' ys with
         | none=>rw[q3,q4] at hb';simp at hb'
         | some c4=>
          rw[q1,q2] at hb
          rw[q3,q4] at hb'
          have e1:=Nv n x x' y u c c3 h3 h5 q1 q3
          have e2:=ih xs' ys r c2 c4 h4 h6 q2 q4
          subst e1 e2
          simp at hb hb'
          rw[←hb,←hb']
  cases d with
  | non=>cases hd;cases d'<;>simp[Sh] at hd';rw[hb] at hb';exact Option.some.inj hb'
  | bl c=>cases hd;cases d'<;>simp[Sh] at hd';subst hd';rw[hb] at hb';exact Option.some.inj hb'
  | int i=>obtain⟨t,rfl⟩:=hd;cases d'<;>simp[Sh] at hd';subst hd';rw[hb] at hb';exact Option.some.inj hb'
  | str x=>
   obtain⟨t,rfl⟩:=hd
   cases d' with
   | str y=>
    obtain⟨t',q⟩:=hd'
    injection q with q1 _
    unfold strOf at q1
    injection q1 with q2
    have q3:=congrArg Array.toList q2
    simp at q3
    subst q3
    rw[hb] at hb';exact Option.some.inj hb'
   | _=>simp[Sh] at hd'
  | tup xs=>
   obtain⟨a,its,rfl,p,hs⟩:=hd
   cases d' with
   | tup xs'=>
    obtain⟨a',its',q,p',hs'⟩:=hd'
    cases q
    have e2:its=its':=by simpa using Mr p p'
    subst e2
    cases e with
    | tup ys=>exact all xs xs' ys its b b' hs hs' (by simpa only[bJ] using hb) (by simpa only[bJ] using hb')
    | _=>first|(simp[bJ] at hb;done)|(simp only[bJ,Option.some.injEq] at hb hb';rw[←hb,←hb'])
   | lst ys=>
    obtain⟨a',its',q,p',hs'⟩:=hd'
    cases q
    exact(zB p p').elim
   | dct kvs=>cases e<;>simp[bJ] at hb'
   | arr kvs=>cases e<;>simp[bJ] at hb'
   | _=>simp[Sh] at hd'
  | lst xs=>
   obtain⟨a,its,rfl,p,hs⟩:=hd
   cases d' with
   | lst xs'=>
    obtain⟨a',its',q,p',hs'⟩:=hd'
    cases q
    have e2:its=its':=by simpa using M5 p p'
    subst e2
    cases e with
    | lst ys=>exact all xs xs' ys its b b' hs hs' (by simpa only[bJ] using hb) (by simpa only[bJ] using hb')
    | _=>first|(simp[bJ] at hb;done)|(simp only[bJ,Option.some.injEq] at hb hb';rw[←hb,←hb'])
   | tup ys=>
    obtain⟨a',its',q,p',hs'⟩:=hd'
    cases q
    exact(zB p' p).elim
   | dct kvs=>cases e<;>simp[bJ] at hb'
   | arr kvs=>cases e<;>simp[bJ] at hb'
   | _=>simp[Sh] at hd'
  | dct kvs=>cases e<;>simp[bJ] at hb
  | arr kvs=>cases e<;>simp[bJ] at hb
theorem xJ(x y:List Nat):(strOf x == strOf y)=(x == y):=by
 rw[Bool.eq_iff_iff]
 simp only[beq_iff_eq]
 constructor
 ·intro e
  unfold strOf at e
  injection e with e
  simpa using congrArg Array.toList e
 ·intro e;rw[e]
theorem zN:∀{f:D→D→Option Bool} {xs ys:List D},xs.length≠ys.length→∀b,wJ f xs ys=some b→b=false
 | f,[],[],h,b,e=>absurd rfl h
 | f,[],_::_,_,b,e=>by simp[wJ] at e;exact e
 | f,_::_,[],_,b,e=>by simp[wJ] at e;exact e
 | f,x::xs,y::ys,h,b,e=>by
  unfold wJ at e
  cases h1:f x y with
  | none=>rw[h1] at e;simp at e
  | some c=>
   cases h2:wJ f xs ys with
   | none=>rw[h1,h2] at e;simp at e
   | some d=>
    rw[h1,h2] at e
    have:=zN (f:=f) (xs:=xs) (ys:=ys) (by simpa using h) d h2
    subst this
    simp at e
    exact e
theorem vL:∀{f:D→D→Option Bool} (xs ys:List D) (b:Bool),wJ f xs ys=some b→∃e:Nat→Bool,(∀(j:Nat) (x y:D),xs[j]? = some x→ys[j]? = some y→f x y=some (e j))∧b=((List.range (min xs.length ys.length)).all e&&xs.length == ys.length)
 | f,[],ys,b,h=>by
  refine⟨fun _=>true,fun j x y hx=>by simp at hx,?_⟩
  cases ys with
  | nil=>simp[wJ] at h;simp[h.symm]
  | cons y ys=>simp[wJ] at h;simp[h.symm]
 | f,x::xs,[],b,h=>by
  refine⟨fun _=>true,fun j x y _ hy=>by simp at hy,?_⟩
  simp[wJ] at h
  simp[h.symm]
 | f,x::xs,y::ys,b,h=>by
  unfold wJ at h
  cases h1:f x y with
  | none=>rw[h1] at h;simp at h
  | some c=>
   cases h2:wJ f xs ys with
   | none=>rw[h1,h2] at h;simp at h
   | some d=>
    rw[h1,h2] at h
    obtain⟨e,he,hd⟩:=vL xs ys d h2
    refine⟨fun j=>match j with|0=>c|j+1=>e j,fun j x' y' hx hy=>?_,?_⟩
    ·cases j with
     | zero=>simp at hx hy;subst hx hy;exact h1
     | succ j=>exact he j x' y' (by simpa using hx) (by simpa using hy)
    ·have hb:b=(c&&d):=by simpa using h.symm
     have hm:min (x::xs).length (y::ys).length=min xs.length ys.length+1:=by simp only[List.length_cons];omega
     rw[hb,hd,hm,List.range_succ_eq_map,List.all_cons,List.all_map,Bool.and_assoc]
     have hl:((x::xs).length == (y::ys).length)=(xs.length == ys.length):=by simp
     rw[hl]
     rfl
theorem oN{h:Heap}:∀{ds:List D} {us:List Value} {j:Nat} {u:Value},Jx h ds us→us[j]? = some u→∃d,ds[j]? = some d∧Sh h d u
 | [],_,_,_,e,g=>by cases e;simp at g
 | d::ds,us,j,u,e,g=>by
  obtain⟨v,r,rfl,h1,h2⟩:=e
  cases j with
  | zero=>simp at g;subst g;exact⟨d,rfl,h1⟩
  | succ j=>obtain⟨c,e1,e2⟩:=oN h2 (j:=j) (by simpa using g);exact⟨c,by simpa using e1,e2⟩
theorem Gi:∀(n:Nat) (d e:D) (u v:Value) (b:Bool) (A:Around) (s:Shared),Sh s.heap d u→Sh s.heap e v→bJ n d e=some b→A.units+n<cLine→SeqAt.EqAt A s u v b
 | 0,_,_,_,_,_,_,_,_,_,h,_=>by simp[bJ] at h
 | n+1,d,e,u,v,b,A,s,hd,he,h,hu=>by
  have hu0:A.units<cLine:=by omega
  have hin:A.in1.units+n<cLine:=by show A.units+1+n<cLine;omega
  cases d with
  | non=>
   cases hd
   cases e with
   | non=>cases he;simp[bJ] at h;subst h;exact SeqAt.EqAt.same _
   | bl c=>cases he;simp[bJ] at h;subst h;exact SeqAt.EqAt.none_bool c
   | int i=>obtain⟨t,rfl⟩:=he;simp[bJ] at h;subst h;exact SeqAt.EqAt.none_int i t
   | str x=>obtain⟨t,rfl⟩:=he;simp[bJ] at h;subst h;exact SeqAt.EqAt.none_str _ t
   | tup ys=>obtain⟨a,its,rfl,p,_⟩:=he;simp[bJ] at h;subst h;exact SeqAt.EqAt.none_tuple p hu0
   | lst ys=>obtain⟨a,its,rfl,p,_⟩:=he;simp[bJ] at h;subst h;exact SeqAt.EqAt.none_list p.isList hu0
   | dct kvs=>simp[bJ] at h
   | arr kvs=>simp[bJ] at h
  | bl c=>
   cases hd
   cases e with
   | non=>cases he;simp[bJ] at h;subst h;exact SeqAt.EqAt.bool_none c
   | bl c'=>cases he;simp only[bJ,Option.some.injEq] at h;subst h;exact SeqAt.EqAt.bool_bool c c'
   | int i=>obtain⟨t,rfl⟩:=he;simp only[bJ,Option.some.injEq] at h;subst h;exact SeqAt.EqAt.bool_int c i t
   | str x=>obtain⟨t,rfl⟩:=he;simp[bJ] at h;subst h;exact SeqAt.EqAt.bool_str c _ t
   | tup ys=>obtain⟨a,its,rfl,p,_⟩:=he;simp[bJ] at h;subst h;exact SeqAt.EqAt.bool_tuple c p hu0
   | lst ys=>obtain⟨a,its,rfl,p,_⟩:=he;simp[bJ] at h;subst h;exact SeqAt.EqAt.bool_list c p.isList hu0
   | dct kvs=>simp[bJ] at h
   | arr kvs=>simp[bJ] at h
  | int i=>
   obtain⟨t',rfl⟩:=hd
   cases e with
   | non=>cases he;simp[bJ] at h;subst h;exact SeqAt.EqAt.int_none i t'
   | bl c'=>cases he;simp only[bJ,Option.some.injEq] at h;subst h;exact SeqAt.EqAt.int_bool i t' c'
   | int j=>obtain⟨t,rfl⟩:=he;simp only[bJ,Option.some.injEq] at h;subst h;exact SeqAt.EqAt.int_int i t' j t
   | str x=>obtain⟨t,rfl⟩:=he;simp[bJ] at h;subst h;exact SeqAt.EqAt.int_str i t' _ t
   | tup ys=>obtain⟨a,its,rfl,p,_⟩:=he;simp[bJ] at h;subst h;exact SeqAt.EqAt.int_tuple i t' p hu0
   | lst ys=>obtain⟨a,its,rfl,p,_⟩:=he;simp[bJ] at h;subst h;exact SeqAt.EqAt.int_list i t' p.isList hu0
   | dct kvs=>simp[bJ] at h
   | arr kvs=>simp[bJ] at h
  | str x=>
   obtain⟨t',rfl⟩:=hd
   cases e with
   | non=>cases he;simp[bJ] at h;subst h;exact SeqAt.EqAt.str_none _ t'
   | bl c'=>cases he;simp[bJ] at h;subst h;exact SeqAt.EqAt.str_bool _ t' c'
   | int j=>obtain⟨t,rfl⟩:=he;simp[bJ] at h;subst h;exact SeqAt.EqAt.str_int _ t' j t
   | str y=>obtain⟨t,rfl⟩:=he;simp only[bJ,Option.some.injEq] at h;subst h;rw[←xJ];exact SeqAt.EqAt.str_str _ t' _ t
   | tup ys=>obtain⟨a,its,rfl,p,_⟩:=he;simp[bJ] at h;subst h;exact SeqAt.EqAt.str_tuple _ t' p hu0
   | lst ys=>obtain⟨a,its,rfl,p,_⟩:=he;simp[bJ] at h;subst h;exact SeqAt.EqAt.str_list _ t' p.isList hu0
   | dct kvs=>simp[bJ] at h
   | arr kvs=>simp[bJ] at h
  | tup xs=>
   obtain⟨a,its,rfl,p,hs⟩:=hd
   cases e with
   | non=>cases he;simp[bJ] at h;subst h;exact SeqAt.EqAt.tuple_none p hu0
   | bl c'=>cases he;simp[bJ] at h;subst h;exact SeqAt.EqAt.tuple_bool c' p hu0
   | int j=>obtain⟨t,rfl⟩:=he;simp[bJ] at h;subst h;exact SeqAt.EqAt.tuple_int j t p hu0
   | str y=>obtain⟨t,rfl⟩:=he;simp[bJ] at h;subst h;exact SeqAt.EqAt.tuple_str _ t p hu0
   | tup ys=>
    obtain⟨a',its',rfl,p',hs'⟩:=he
    by_cases haa:a=a'
    ·subst haa
     have:=Bv (n+1) (.tup xs) (.tup ys) (.ref a) b ⟨a,its,rfl,p,hs⟩ ⟨a,its',rfl,p',hs'⟩ h
     subst this
     exact SeqAt.EqAt.same _
    ·simp only[bJ] at h
     obtain⟨f,hf,hb⟩:=vL xs ys b h
     have l1:=hs.length
     have l2:=hs'.length
     refine SeqAt.EqAt.of_refs haa ?_
     have:=SeqAt.RcAt.tuples (e:=f) p p' hu0 fun j h1 h2=>?_
     ·rw[hb]
      simp only[List.size_toArray] at this
      rw[l1,l2] at this
      exact this
     ·have g1:its[j]? = some its.toArray[j]:=by simp at h1 ⊢
      have g2:its'[j]? = some its'.toArray[j]:=by simp at h2 ⊢
      obtain⟨x,q1,q2⟩:=oN hs g1
      obtain⟨y,q3,q4⟩:=oN hs' g2
      exact Gi n x y _ _ _ A.in1 s q2 q4 (hf j x y q1 q3) hin
   | lst ys=>obtain⟨a',its',rfl,p',_⟩:=he;simp[bJ] at h;subst h;exact SeqAt.EqAt.tuple_list p p'.isList hu0
   | dct kvs=>simp[bJ] at h
   | arr kvs=>simp[bJ] at h
  | lst xs=>
   obtain⟨a,its,rfl,p,hs⟩:=hd
   cases e with
   | non=>cases he;simp[bJ] at h;subst h;exact SeqAt.EqAt.list_none p.isList hu0
   | bl c'=>cases he;simp[bJ] at h;subst h;exact SeqAt.EqAt.list_bool c' p.isList hu0
   | int j=>obtain⟨t,rfl⟩:=he;simp[bJ] at h;subst h;exact SeqAt.EqAt.list_int j t p.isList hu0
   | str y=>obtain⟨t,rfl⟩:=he;simp[bJ] at h;subst h;exact SeqAt.EqAt.list_str _ t p.isList hu0
   | lst ys=>
    obtain⟨a',its',rfl,p',hs'⟩:=he
    have l1:=hs.length
    have l2:=hs'.length
    by_cases haa:a=a'
    ·subst haa
     have:=Bv (n+1) (.lst xs) (.lst ys) (.ref a) b ⟨a,its,rfl,p,hs⟩ ⟨a,its',rfl,p',hs'⟩ h
     subst this
     exact SeqAt.EqAt.same _
    ·simp only[bJ] at h
     refine SeqAt.EqAt.of_refs haa ?_
     by_cases hl:xs.length=ys.length
     ·obtain⟨f,hf,hb⟩:=vL xs ys b h
      have:=SeqAt.RcAt.lists (e:=f) p.isList p'.isList (by simp only[List.size_toArray];omega) hu0 fun j h1 h2=>?_
      ·rw[hb,←hl,Nat.min_self,beq_self_eq_true,Bool.and_true,←l1]
       simp only[List.size_toArray] at this
       exact this
      ·have g1:its[j]? = some its.toArray[j]:=by simp at h1 ⊢
       have g2:its'[j]? = some its'.toArray[j]:=by simp at h2 ⊢
       obtain⟨x,q1,q2⟩:=oN hs g1
       obtain⟨y,q3,q4⟩:=oN hs' g2
       exact Gi n x y _ _ _ A.in1 s q2 q4 (hf j x y q1 q3) hin
     ·have:=zN hl b h
      subst this
      exact SeqAt.RcAt.lists_lengths p.isList p'.isList (by simp only[List.size_toArray];rw[l1,l2];simpa using hl) hu0
   | tup ys=>obtain⟨a',its',rfl,p',_⟩:=he;simp[bJ] at h;subst h;exact SeqAt.EqAt.list_tuple p.isList p' hu0
   | dct kvs=>simp[bJ] at h
   | arr kvs=>simp[bJ] at h
  | dct kvs=>cases e<;>simp[bJ] at h
  | arr kvs=>cases e<;>simp[bJ] at h
end Ev
namespace Ev
open PySem PySem.Spec PyProof.Rows L2
theorem xg(n:Nat)(its its':List Value)(xs ys:List D)(f:Nat→Bool)(A:Around)(s:Shared)(hs:Jx s.heap xs its)(hs':Jx s.heap ys its')(hf:∀(j:Nat) (x y:D),xs[j]? = some x→ys[j]? = some y→bJ n x y=some (f j))(hin:A.in1.units+n<cLine)
  (j:Nat) (h1:j<its.toArray.size) (h2:j<its'.toArray.size):SeqAt.EqAt A.in1 s its.toArray[j] its'.toArray[j] (f j):=by
 have g1:its[j]? = some its.toArray[j]:=by simp at h1 ⊢
 have g2:its'[j]? = some its'.toArray[j]:=by simp at h2 ⊢
 obtain⟨x,q1,q2⟩:=oN hs g1
 obtain⟨y,q3,q4⟩:=oN hs' g2
 exact Gi n x y _ _ _ A.in1 s q2 q4 (hf j x y q1 q3) hin
theorem afg(n:Nat)(d e:D)(u v:Value)(b:Bool)(A:Around)(s:Shared)(hd:Sh s.heap d u)(he:Sh s.heap e v)(h:bJ (n+1) d e=some b)(hu:A.units+(n+1)<cLine):SeqAt.RcAt A s u v b:=by
 have hu0:A.units<cLine:=by omega
 have hin:A.in1.units+n<cLine:=by show A.units+1+n<cLine;omega
 cases d with
 | non=>
  cases hd
  cases e with
  | non=>
   cases he
   simp[bJ] at h;subst h;exact SeqAt.RcAt.none_none
  | bl c'=>
   cases he
   simp[bJ] at h;subst h;exact SeqAt.RcAt.none_bool c'
  | int j=>
   obtain⟨t,rfl⟩:=he
   simp[bJ] at h;subst h;exact SeqAt.RcAt.none_int j t
  | str y=>
   obtain⟨t,rfl⟩:=he
   simp[bJ] at h;subst h;exact SeqAt.RcAt.none_str _ t
  | tup ys=>
   obtain⟨a',its',rfl,p',hs'⟩:=he
   simp[bJ] at h;subst h;exact SeqAt.RcAt.none_tuple p' hu0
  | lst ys=>
   obtain⟨a',its',rfl,p',hs'⟩:=he
   simp[bJ] at h;subst h;exact SeqAt.RcAt.none_list p'.isList hu0
  | arr kvs=>
   simp[bJ] at h
  | dct kvs=>
   simp[bJ] at h
 | bl c=>
  cases hd
  cases e with
  | non=>
   cases he
   simp[bJ] at h;subst h;exact SeqAt.RcAt.bool_none c
  | bl c'=>
   cases he
   simp only[bJ,Option.some.injEq] at h;subst h;exact SeqAt.RcAt.bool_bool c c'
  | int j=>
   obtain⟨t,rfl⟩:=he
   simp only[bJ,Option.some.injEq] at h;subst h;exact SeqAt.RcAt.bool_int c j t
  | str y=>
   obtain⟨t,rfl⟩:=he
   simp[bJ] at h;subst h;exact SeqAt.RcAt.bool_str c _ t
  | tup ys=>
   obtain⟨a',its',rfl,p',hs'⟩:=he
   simp[bJ] at h;subst h;exact SeqAt.RcAt.bool_tuple c p' hu0
  | lst ys=>
   obtain⟨a',its',rfl,p',hs'⟩:=he
   simp[bJ] at h;subst h;exact SeqAt.RcAt.bool_list c p'.isList hu0
  | arr kvs=>
   simp[bJ] at h
  | dct kvs=>
   simp[bJ] at h
 | int i=>
  obtain⟨t',rfl⟩:=hd
  cases e with
  | non=>
   cases he
   simp[bJ] at h;subst h;exact SeqAt.RcAt.int_none i t'
  | bl c'=>
   cases he
   simp only[bJ,Option.some.injEq] at h;subst h;exact SeqAt.RcAt.int_bool i t' c'
  | int j=>
   obtain⟨t,rfl⟩:=he
   simp only[bJ,Option.some.injEq] at h;subst h;exact SeqAt.RcAt.int_int i t' j t
  | str y=>
   obtain⟨t,rfl⟩:=he
   simp[bJ] at h;subst h;exact SeqAt.RcAt.int_str i t' _ t
  | tup ys=>
   obtain⟨a',its',rfl,p',hs'⟩:=he
   simp[bJ] at h;subst h;exact SeqAt.RcAt.int_tuple i t' p' hu0
  | lst ys=>
   obtain⟨a',its',rfl,p',hs'⟩:=he
   simp[bJ] at h;subst h;exact SeqAt.RcAt.int_list i t' p'.isList hu0
  | arr kvs=>
   simp[bJ] at h
  | dct kvs=>
   simp[bJ] at h
 | str x=>
  obtain⟨t',rfl⟩:=hd
  cases e with
  | non=>
   cases he
   simp[bJ] at h;subst h;exact SeqAt.RcAt.str_none _ t'
  | bl c'=>
   cases he
   simp[bJ] at h;subst h;exact SeqAt.RcAt.str_bool _ t' c'
  | int j=>
   obtain⟨t,rfl⟩:=he
   simp[bJ] at h;subst h;exact SeqAt.RcAt.str_int _ t' j t
  | str y=>
   obtain⟨t,rfl⟩:=he
   simp only[bJ,Option.some.injEq] at h;subst h;rw[←xJ];exact SeqAt.RcAt.str_str _ t' _ t
  | tup ys=>
   obtain⟨a',its',rfl,p',hs'⟩:=he
   simp[bJ] at h;subst h;exact SeqAt.RcAt.str_tuple _ t' p' hu0
  | lst ys=>
   obtain⟨a',its',rfl,p',hs'⟩:=he
   simp[bJ] at h;subst h;exact SeqAt.RcAt.str_list _ t' p'.isList hu0
  | arr kvs=>
   simp[bJ] at h
  | dct kvs=>
   simp[bJ] at h
 | tup xs=>
  obtain⟨a,its,rfl,p,hs⟩:=hd
  cases e with
  | non=>
   cases he
   simp[bJ] at h;subst h;exact SeqAt.RcAt.tuple_none p hu0
  | bl c'=>
   cases he
   simp[bJ] at h;subst h;exact SeqAt.RcAt.tuple_bool c' p hu0
  | int j=>
   obtain⟨t,rfl⟩:=he
   simp[bJ] at h;subst h;exact SeqAt.RcAt.tuple_int j t p hu0
  | str y=>
   obtain⟨t,rfl⟩:=he
   simp[bJ] at h;subst h;exact SeqAt.RcAt.tuple_str _ t p hu0
  | tup ys=>
   obtain⟨a',its',rfl,p',hs'⟩:=he
   simp only[bJ] at h
   have l1:=hs.length
   have l2:=hs'.length
   obtain⟨f,hf,hb⟩:=vL xs ys b h
   have:=SeqAt.RcAt.tuples (e:=f) p p' hu0 fun j h1 h2=>?_
   ·rw[hb]
    simp only[List.size_toArray] at this
    rw[l1,l2] at this
    exact this
   ·exact xg n its its' xs ys f A s hs hs' hf hin j h1 h2
  | lst ys=>
   obtain⟨a',its',rfl,p',hs'⟩:=he
   simp[bJ] at h;subst h;exact SeqAt.RcAt.tuple_list p p'.isList hu0
  | arr kvs=>
   simp[bJ] at h
  | dct kvs=>
   simp[bJ] at h
 | lst xs=>
  obtain⟨a,its,rfl,p,hs⟩:=hd
  cases e with
  | non=>
   cases he
   simp[bJ] at h;subst h;exact SeqAt.RcAt.list_none p.isList hu0
  | bl c'=>
   cases he
   simp[bJ] at h;subst h;exact SeqAt.RcAt.list_bool c' p.isList hu0
  | int j=>
   obtain⟨t,rfl⟩:=he
   simp[bJ] at h;subst h;exact SeqAt.RcAt.list_int j t p.isList hu0
  | str y=>
   obtain⟨t,rfl⟩:=he
   simp[bJ] at h;subst h;exact SeqAt.RcAt.list_str _ t p.isList hu0
  | tup ys=>
   obtain⟨a',its',rfl,p',hs'⟩:=he
   simp[bJ] at h;subst h;exact SeqAt.RcAt.list_tuple p.isList p' hu0
  | lst ys=>
   obtain⟨a',its',rfl,p',hs'⟩:=he
   simp only[bJ] at h
   have l1:=hs.length
   have l2:=hs'.length
   by_cases hl:xs.length=ys.length
   ·obtain⟨f,hf,hb⟩:=vL xs ys b h
    have:=SeqAt.RcAt.lists (e:=f) p.isList p'.isList (by simp only[List.size_toArray];omega) hu0 fun j h1 h2=>?_
    ·rw[hb,←hl,Nat.min_self,beq_self_eq_true,Bool.and_true,←l1]
     simp only[List.size_toArray] at this
     exact this
    ·exact xg n its its' xs ys f A s hs hs' hf hin j h1 h2
   ·have:=zN hl b h
    subst this
    exact SeqAt.RcAt.lists_lengths p.isList p'.isList (by simp only[List.size_toArray];rw[l1,l2];simpa using hl) hu0
  | arr kvs=>
   simp[bJ] at h
  | dct kvs=>
   simp[bJ] at h
 | arr kvs=>
  cases e<;>simp[bJ] at h
 | dct kvs=>
  cases e<;>simp[bJ] at h
theorem V9(n:Nat)(d e:D)(u v:Value)(b:Bool)(A:Around)(s:Shared)(hd:Sh s.heap d u)(he:Sh s.heap e v)(h:bJ (n+1) d e=some b)(hu:A.units+(n+1)<cLine):SeqAt.RcNeAt A s u v (!b):=by
 have hu0:A.units<cLine:=by omega
 have hin:A.in1.units+n<cLine:=by show A.units+1+n<cLine;omega
 cases d with
 | non=>
  cases hd
  cases e with
  | non=>
   cases he
   simp[bJ] at h;subst h;exact SeqAt.RcNeAt.none_none
  | bl c'=>
   cases he
   simp[bJ] at h;subst h;exact SeqAt.RcNeAt.none_bool c'
  | int j=>
   obtain⟨t,rfl⟩:=he
   simp[bJ] at h;subst h;exact SeqAt.RcNeAt.none_int j t
  | str y=>
   obtain⟨t,rfl⟩:=he
   simp[bJ] at h;subst h;exact SeqAt.RcNeAt.none_str _ t
  | tup ys=>
   obtain⟨a',its',rfl,p',hs'⟩:=he
   simp[bJ] at h;subst h;exact SeqAt.RcNeAt.none_tuple p' hu0
  | lst ys=>
   obtain⟨a',its',rfl,p',hs'⟩:=he
   simp[bJ] at h;subst h;exact SeqAt.RcNeAt.none_list p'.isList hu0
  | arr kvs=>
   simp[bJ] at h
  | dct kvs=>
   simp[bJ] at h
 | bl c=>
  cases hd
  cases e with
  | non=>
   cases he
   simp[bJ] at h;subst h;exact SeqAt.RcNeAt.bool_none c
  | bl c'=>
   cases he
   simp only[bJ,Option.some.injEq] at h;subst h;exact SeqAt.RcNeAt.bool_bool c c'
  | int j=>
   obtain⟨t,rfl⟩:=he
   simp only[bJ,Option.some.injEq] at h;subst h;exact SeqAt.RcNeAt.bool_int c j t
  | str y=>
   obtain⟨t,rfl⟩:=he
   simp[bJ] at h;subst h;exact SeqAt.RcNeAt.bool_str c _ t
  | tup ys=>
   obtain⟨a',its',rfl,p',hs'⟩:=he
   simp[bJ] at h;subst h;exact SeqAt.RcNeAt.bool_tuple c p' hu0
  | lst ys=>
   obtain⟨a',its',rfl,p',hs'⟩:=he
   simp[bJ] at h;subst h;exact SeqAt.RcNeAt.bool_list c p'.isList hu0
  | arr kvs=>
   simp[bJ] at h
  | dct kvs=>
   simp[bJ] at h
 | int i=>
  obtain⟨t',rfl⟩:=hd
  cases e with
  | non=>
   cases he
   simp[bJ] at h;subst h;exact SeqAt.RcNeAt.int_none i t'
  | bl c'=>
   cases he
   simp only[bJ,Option.some.injEq] at h;subst h;exact SeqAt.RcNeAt.int_bool i t' c'
  | int j=>
   obtain⟨t,rfl⟩:=he
   simp only[bJ,Option.some.injEq] at h;subst h;exact SeqAt.RcNeAt.int_int i t' j t
  | str y=>
   obtain⟨t,rfl⟩:=he
   simp[bJ] at h;subst h;exact SeqAt.RcNeAt.int_str i t' _ t
  | tup ys=>
   obtain⟨a',its',rfl,p',hs'⟩:=he
   simp[bJ] at h;subst h;exact SeqAt.RcNeAt.int_tuple i t' p' hu0
  | lst ys=>
   obtain⟨a',its',rfl,p',hs'⟩:=he
   simp[bJ] at h;subst h;exact SeqAt.RcNeAt.int_list i t' p'.isList hu0
  | arr kvs=>
   simp[bJ] at h
  | dct kvs=>
   simp[bJ] at h
 | str x=>
  obtain⟨t',rfl⟩:=hd
  cases e with
  | non=>
   cases he
   simp[bJ] at h;subst h;exact SeqAt.RcNeAt.str_none _ t'
  | bl c'=>
   cases he
   simp[bJ] at h;subst h;exact SeqAt.RcNeAt.str_bool _ t' c'
  | int j=>
   obtain⟨t,rfl⟩:=he
   simp[bJ] at h;subst h;exact SeqAt.RcNeAt.str_int _ t' j t
  | str y=>
   obtain⟨t,rfl⟩:=he
   simp only[bJ,Option.some.injEq] at h;subst h;rw[←xJ];exact SeqAt.RcNeAt.str_str _ t' _ t
  | tup ys=>
   obtain⟨a',its',rfl,p',hs'⟩:=he
   simp[bJ] at h;subst h;exact SeqAt.RcNeAt.str_tuple _ t' p' hu0
  | lst ys=>
   obtain⟨a',its',rfl,p',hs'⟩:=he
   simp[bJ] at h;subst h;exact SeqAt.RcNeAt.str_list _ t' p'.isList hu0
  | arr kvs=>
   simp[bJ] at h
  | dct kvs=>
   simp[bJ] at h
 | tup xs=>
  obtain⟨a,its,rfl,p,hs⟩:=hd
  cases e with
  | non=>
   cases he
   simp[bJ] at h;subst h;exact SeqAt.RcNeAt.tuple_none p hu0
  | bl c'=>
   cases he
   simp[bJ] at h;subst h;exact SeqAt.RcNeAt.tuple_bool c' p hu0
  | int j=>
   obtain⟨t,rfl⟩:=he
   simp[bJ] at h;subst h;exact SeqAt.RcNeAt.tuple_int j t p hu0
  | str y=>
   obtain⟨t,rfl⟩:=he
   simp[bJ] at h;subst h;exact SeqAt.RcNeAt.tuple_str _ t p hu0
  | tup ys=>
   obtain⟨a',its',rfl,p',hs'⟩:=he
   simp only[bJ] at h
   have l1:=hs.length
   have l2:=hs'.length
   obtain⟨f,hf,hb⟩:=vL xs ys b h
   have:=SeqAt.RcNeAt.tuples (e:=f) p p' hu0 fun j h1 h2=>?_
   ·rw[hb]
    simp only[List.size_toArray] at this
    rw[l1,l2] at this
    exact this
   ·exact xg n its its' xs ys f A s hs hs' hf hin j h1 h2
  | lst ys=>
   obtain⟨a',its',rfl,p',hs'⟩:=he
   simp[bJ] at h;subst h;exact SeqAt.RcNeAt.tuple_list p p'.isList hu0
  | arr kvs=>
   simp[bJ] at h
  | dct kvs=>
   simp[bJ] at h
 | lst xs=>
  obtain⟨a,its,rfl,p,hs⟩:=hd
  cases e with
  | non=>
   cases he
   simp[bJ] at h;subst h;exact SeqAt.RcNeAt.list_none p.isList hu0
  | bl c'=>
   cases he
   simp[bJ] at h;subst h;exact SeqAt.RcNeAt.list_bool c' p.isList hu0
  | int j=>
   obtain⟨t,rfl⟩:=he
   simp[bJ] at h;subst h;exact SeqAt.RcNeAt.list_int j t p.isList hu0
  | str y=>
   obtain⟨t,rfl⟩:=he
   simp[bJ] at h;subst h;exact SeqAt.RcNeAt.list_str _ t p.isList hu0
  | tup ys=>
   obtain⟨a',its',rfl,p',hs'⟩:=he
   simp[bJ] at h;subst h;exact SeqAt.RcNeAt.list_tuple p.isList p' hu0
  | lst ys=>
   obtain⟨a',its',rfl,p',hs'⟩:=he
   simp only[bJ] at h
   have l1:=hs.length
   have l2:=hs'.length
   by_cases hl:xs.length=ys.length
   ·obtain⟨f,hf,hb⟩:=vL xs ys b h
    have:=SeqAt.RcNeAt.lists (e:=f) p.isList p'.isList (by simp only[List.size_toArray];omega) hu0 fun j h1 h2=>?_
    ·rw[hb,←hl,Nat.min_self,beq_self_eq_true,Bool.and_true,←l1]
     simp only[List.size_toArray] at this
     exact this
    ·exact xg n its its' xs ys f A s hs hs' hf hin j h1 h2
   ·have:=zN hl b h
    subst this
    exact SeqAt.RcNeAt.lists_lengths p.isList p'.isList (by simp only[List.size_toArray];rw[l1,l2];simpa using hl) hu0
  | arr kvs=>
   simp[bJ] at h
  | dct kvs=>
   simp[bJ] at h
 | arr kvs=>
  cases e<;>simp[bJ] at h
 | dct kvs=>
  cases e<;>simp[bJ] at h
end Ev
namespace Ev
open PySem PySem.Spec PyProof.Rows L2
section
variable{X:Cx}{C:Cfg}
noncomputable def afs(K:Fg):R2:=fun x y H Q=>∃dx dy b,Rep K H dx x∧Rep K H dy y∧bJ 60 dx dy=some b∧Q (.bl b) H
noncomputable def afk(K:Fg):R2:=fun x y H Q=>∃dx dy b,Rep K H dx x∧Rep K H dy y∧bJ 60 dx dy=some b∧Q (.bl (!b)) H
theorem abg(hu:X.A.units+60<cLine):oK X (compareOp .Eq) (afs X.K):=by
 intro pins s σ H x y v u Q I rx ry h
 obtain⟨dx,dy,b,h1,h2,h3,q⟩:=h
 exact afg 59 dx dy v u b X.A s (Rep.sh I dx x v h1 rx) (Rep.sh I dy y u h2 ry) h3 hu X.prog X.w X.xe _ ⟨.bl b,H,I,rfl,q⟩
theorem aa8(hu:X.A.units+60<cLine):oK X (compareOp .NotEq) (afk X.K):=by
 intro pins s σ H x y v u Q I rx ry h
 obtain⟨dx,dy,b,h1,h2,h3,q⟩:=h
 exact V9 59 dx dy v u b X.A s (Rep.sh I dx x v h1 rx) (Rep.sh I dy y u h2 ry) h3 hu X.prog X.w X.xe _ ⟨.bl (!b),H,I,rfl,q⟩
noncomputable def mJ(x y:D):Option D:=(bJ 60 x y).map .bl
noncomputable def xD(x y:D):Option D:=(bJ 60 x y).map fun b=>.bl (!b)
theorem agL:qu C (afs C.K) mJ:=by
 intro Pr F env σ H x y d vx vy Q r hx hy h q
 unfold mJ at h
 cases e:bJ 60 x y with
 | none=>rw[e] at h;cases h
 | some b=>
  rw[e] at h
  cases h
  exact⟨x,y,b,hx.rep r.fr,hy.rep r.fr,e,q _ H F r (aO.refl F) rfl⟩
theorem agF:qu C (afk C.K) xD:=by
 intro Pr F env σ H x y d vx vy Q r hx hy h q
 unfold xD at h
 cases e:bJ 60 x y with
 | none=>rw[e] at h;cases h
 | some b=>
  rw[e] at h
  cases h
  exact⟨x,y,b,hx.rep r.fr,hy.rep r.fr,e,q _ H F r (aO.refl F) rfl⟩
noncomputable def Nf(x:D):List D→Option Bool
 | []=>some false
 | y::ys=>match bJ 59 y x,Nf x ys with
  | some a,some b=>some (a||b)
  | _,_=>none
theorem Nb(x:D):∀(ys:List D) (b:Bool),Nf x ys=some b→(∀y∈ys,∃c,bJ 59 y x=some c)∧(b=true ↔ ∃y∈ys,bJ 59 y x=some true)
 | [],b,h=>by simp[Nf] at h;subst h;simp
 | y::ys,b,h=>by
  unfold Nf at h
  cases h1:bJ 59 y x with
  | none=>rw[h1] at h;simp at h
  | some c=>
   cases h2:Nf x ys with
   | none=>rw[h1,h2] at h;simp at h
   | some d=>
    rw[h1,h2] at h
    obtain⟨i1,i2⟩:=Nb x ys d h2
    have hb:b=(c||d):=by simpa using h.symm
    refine⟨fun z hz=>?_,?_⟩
    ·rcases List.mem_cons.mp hz with rfl|hz
     ·exact⟨c,h1⟩
     ·exact i1 z hz
    ·rw[hb,Bool.or_eq_true]
     constructor
     ·rintro(hc|hd)
      ·exact⟨y,List.mem_cons_self,by rw[h1,hc]⟩
      ·obtain⟨z,hz,e⟩:=i2.mp hd
       exact⟨z,List.mem_cons_of_mem _ hz,e⟩
     ·rintro⟨z,hz,e⟩
      rcases List.mem_cons.mp hz with rfl|hz
      ·rw[h1] at e;left;simpa using e
      ·right;exact i2.mpr ⟨z,hz,e⟩
open Classical in
noncomputable def CZ(h:Heap)(x:D)(u:Value):Bool:=decide (∃y,Sh h y u∧bJ 59 y x=some true)
open Classical in
theorem Gx{h:Heap}{x y:D}{u:Value}{c:Bool}(hy:Sh h y u)(e:bJ 59 y x=some c):CZ h x u=c:=by
 unfold CZ
 cases c with
 | true=>exact decide_eq_true ⟨y,hy,e⟩
 | false=>
  refine decide_eq_false ?_
  rintro⟨z,hz,e'⟩
  have:=Nv 59 z y x u true false hz hy e' e
  cases this
theorem yD{s:Shared}{A:Around}{x:D}{v:Value}{ys:List D}{us:List Value}{b:Bool}(hx:Sh s.heap x v)(hs:Jx s.heap ys us)(h:Nf x ys=some b)(hu:A.units+59<cLine) :
  (∀w,w∈us.toArray→SeqAt.EqAt A s w v (CZ s.heap x w))∧us.toArray.any (CZ s.heap x)=b:=by
 obtain⟨h1,h2⟩:=Nb x ys b h
 have item:∀w∈us,∃y∈ys,Sh s.heap y w:=fun w hw=>by
  obtain⟨j,hj,e⟩:=List.mem_iff_getElem.mp hw
  obtain⟨d,e1,e2⟩:=oN hs (show us[j]? = some w by rw[List.getElem?_eq_getElem hj,e])
  exact⟨d,List.mem_of_getElem? e1,e2⟩
 have back:∀{ys:List D} {us:List Value},Jx s.heap ys us→∀y∈ys,∃w∈us,Sh s.heap y w:=by
  intro ys
  induction ys with
  | nil=>intro us _ y hy;cases hy
  | cons z zs ih=>
   intro us hs y hy
   obtain⟨w,r,rfl,g1,g2⟩:=hs
   rcases List.mem_cons.mp hy with rfl|hy
   ·exact⟨w,List.mem_cons_self,g1⟩
   ·obtain⟨w',m,g⟩:=ih g2 y hy
    exact⟨w',List.mem_cons_of_mem _ m,g⟩
 refine⟨fun w hw=>?_,?_⟩
 ·obtain⟨y,hy,sy⟩:=item w (by simpa using hw)
  obtain⟨c,hc⟩:=h1 y hy
  rw[Gx sy hc]
  exact Gi 59 y x w v c A s sy hx hc hu
 ·rw[List.any_toArray,Bool.eq_iff_iff,h2,List.any_eq_true]
  constructor
  ·rintro⟨w,hw,e⟩
   obtain⟨y,hy,sy⟩:=item w hw
   obtain⟨c,hc⟩:=h1 y hy
   rw[Gx sy hc] at e
   subst e
   exact⟨y,hy,hc⟩
  ·rintro⟨y,hy,e⟩
   obtain⟨w,hw,sy⟩:=back hs y hy
   exact⟨w,hw,Gx sy e⟩
noncomputable def Hc:D→Option (List D)
 | .tup xs=>some xs
 | .lst xs=>some xs
 | .arr xs=>some xs
 | _=>none
noncomputable def OJ(K:Fg)(neg:Bool):R2:=fun x y H Q=>∃dx dy ys b,Rep K H dx x∧Rep K H dy y∧Hc dy=some ys∧Nf dx ys=some b∧Q (.bl (if neg then !b else b)) H
theorem abe(hu:X.A.units+61<cLine):oK X (compareOp .In) (OJ X.K false):=by
 intro pins s σ H x y v u Q I rx ry h
 obtain⟨dx,dy,ys,b,h1,h2,h3,h4,q⟩:=h
 have hx:=Rep.sh I dx x v h1 rx
 have hy:=Rep.sh I dy y u h2 ry
 have hin:X.A.in1.units+59<cLine:=by show X.A.units+1+59<cLine;omega
 cases dy with
 | tup zs=>
  cases h3
  obtain⟨a,its,rfl,p,hs⟩:=hy
  obtain⟨g1,g2⟩:=yD (A:=X.A.in1) hx hs h4 hin
  refine SeqAt.in_tupleAt (CZ s.heap dx) p g1 ⟨.bl _,H,I,rfl,?_⟩
  rw[g2];exact q
 | lst zs=>
  cases h3
  obtain⟨a,its,rfl,p,hs⟩:=hy
  obtain⟨g1,g2⟩:=yD (A:=X.A.in1) hx hs h4 hin
  refine SeqAt.in_listAt (CZ s.heap dx) p.isList g1 ⟨.bl _,H,I,rfl,?_⟩
  rw[g2];exact q
 | arr zs=>
  cases h3
  obtain⟨a,its,rfl,p,hs⟩:=hy
  obtain⟨g1,g2⟩:=yD (A:=X.A.in1) hx hs h4 hin
  refine SeqAt.in_listAt (CZ s.heap dx) p.isList g1 ⟨.bl _,H,I,rfl,?_⟩
  rw[g2];exact q
 | _=>cases h3
theorem Pk(hu:X.A.units+61<cLine):oK X (compareOp .NotIn) (OJ X.K true):=by
 intro pins s σ H x y v u Q I rx ry h
 obtain⟨dx,dy,ys,b,h1,h2,h3,h4,q⟩:=h
 have hx:=Rep.sh I dx x v h1 rx
 have hy:=Rep.sh I dy y u h2 ry
 have hin:X.A.in1.units+59<cLine:=by show X.A.units+1+59<cLine;omega
 cases dy with
 | tup zs=>
  cases h3
  obtain⟨a,its,rfl,p,hs⟩:=hy
  obtain⟨g1,g2⟩:=yD (A:=X.A.in1) hx hs h4 hin
  refine SeqAt.notIn_tupleAt (CZ s.heap dx) p g1 ⟨.bl _,H,I,rfl,?_⟩
  rw[g2];exact q
 | lst zs=>
  cases h3
  obtain⟨a,its,rfl,p,hs⟩:=hy
  obtain⟨g1,g2⟩:=yD (A:=X.A.in1) hx hs h4 hin
  refine SeqAt.notIn_listAt (CZ s.heap dx) p.isList g1 ⟨.bl _,H,I,rfl,?_⟩
  rw[g2];exact q
 | arr zs=>
  cases h3
  obtain⟨a,its,rfl,p,hs⟩:=hy
  obtain⟨g1,g2⟩:=yD (A:=X.A.in1) hx hs h4 hin
  refine SeqAt.notIn_listAt (CZ s.heap dx) p.isList g1 ⟨.bl _,H,I,rfl,?_⟩
  rw[g2];exact q
 | _=>cases h3
end
end Ev
namespace Ev
open PySem PySem.Spec PyProof.Rows L2
theorem qu.or{C:Cfg}{r r':R2}{g g':D→D→Option D}(h:qu C r g)(h':qu C r' g'):qu C (fun x y H Q=>r x y H Q∨r' x y H Q) (fun x y=>(g x y).or (g' x y)):=by
 intro Pr F env σ H x y d vx vy Q rl hx hy e q
 have e:(g x y).or (g' x y)=some d:=e
 cases e1:g x y with
 | some c=>
  rw[e1] at e
  cases e
  exact .inl (h Pr F env σ H x y d vx vy Q rl hx hy e1 q)
 | none=>
  rw[e1] at e
  exact .inr (h' Pr F env σ H x y d vx vy Q rl hx hy e q)
section
variable{X:Cx}{C:Cfg}
noncomputable def ada(x y:D):Option D:=match Hc y with
 | some ys=>(Nf x ys).map .bl
 | none=>none
noncomputable def zK(x y:D):Option D:=match Hc y with
 | some ys=>(Nf x ys).map fun b=>.bl (!b)
 | none=>none
theorem abw:qu C (OJ C.K false) ada:=by
 intro Pr F env σ H x y d vx vy Q r hx hy h q
 unfold ada at h
 cases e1:Hc y with
 | none=>rw[e1] at h;cases h
 | some ys=>
  rw[e1] at h
  cases e:Nf x ys with
  | none=>simp only[e,Option.map_none] at h;cases h
  | some b=>
   simp only[e,Option.map_some] at h
   cases h
   exact⟨x,y,ys,b,hx.rep r.fr,hy.rep r.fr,e1,e,q _ H F r (aO.refl F) rfl⟩
theorem PB:qu C (OJ C.K true) zK:=by
 intro Pr F env σ H x y d vx vy Q r hx hy h q
 unfold zK at h
 cases e1:Hc y with
 | none=>rw[e1] at h;cases h
 | some ys=>
  rw[e1] at h
  cases e:Nf x ys with
  | none=>simp only[e,Option.map_none] at h;cases h
  | some b=>
   simp only[e,Option.map_some] at h
   cases h
   exact⟨x,y,ys,b,hx.rep r.fr,hy.rep r.fr,e1,e,q _ H F r (aO.refl F) rfl⟩
noncomputable def ac9(x y:D):Option D:=match x,y with
 | .str [c],.str z=>some (.bl (decide (c∈z)))
 | _,_=>none
noncomputable def Gd(x y:D):Option D:=match x,y with
 | .str [c],.str z=>some (.bl (!decide (c∈z)))
 | _,_=>none
noncomputable abbrev afq:R2:=fun x y H Q=>∃i j,x = .str i∧y = .str j∧Q (.bl (!(Builtin.Str.occurrences j i 0 j.length 1).isEmpty)) H
noncomputable abbrev MF:R2:=fun x y H Q=>∃i j,x = .str i∧y = .str j∧Q (.bl (!(!(Builtin.Str.occurrences j i 0 j.length 1).isEmpty))) H
theorem one_sign(c:Nat)(z:List Nat):(!(Builtin.Str.occurrences (strOf z) (strOf [c]) 0 (strOf z).length 1).isEmpty)=decide (c∈z):=by
 have:=StrLaws.found_one (strOf z) c
 unfold strOf at this ⊢
 simpa using this
theorem abv:qu C afq ac9:=by
 intro Pr F env σ H x y d vx vy Q r hx hy h q
 unfold ac9 at h
 split at h
 ·rename_i c z
  cases h
  obtain⟨rfl,_⟩:=hx.str
  obtain⟨rfl,_⟩:=hy.str
  refine⟨_,_,rfl,rfl,?_⟩
  rw[one_sign]
  exact q _ H F r (aO.refl F) rfl
 ·cases h
theorem Pz:qu C MF Gd:=by
 intro Pr F env σ H x y d vx vy Q r hx hy h q
 unfold Gd at h
 split at h
 ·rename_i c z
  cases h
  obtain⟨rfl,_⟩:=hx.str
  obtain⟨rfl,_⟩:=hy.str
  refine⟨_,_,rfl,rfl,?_⟩
  rw[one_sign]
  exact q _ H F r (aO.refl F) rfl
 ·cases h
noncomputable def gIn(x y:D):Option D:=(ada x y).or (ac9 x y)
noncomputable def pG(x y:D):Option D:=(zK x y).or (Gd x y)
noncomputable abbrev afr(K:Fg):R2:=fun x y H Q=>OJ K false x y H Q∨afq x y H Q
noncomputable abbrev MJ(K:Fg):R2:=fun x y H Q=>OJ K true x y H Q∨MF x y H Q
theorem abf(hu:X.A.units+61<cLine):oK X (compareOp .In) (afr X.K):=(abe hu).or Px
theorem Pn(hu:X.A.units+61<cLine):oK X (compareOp .NotIn) (MJ X.K):=(Pk hu).or Fx
theorem agJ:qu C (afr C.K) gIn:=abw.or abv
theorem Sd:qu C (MJ C.K) pG:=PB.or Pz
noncomputable def isPlain(x:V):Prop:=x = .non∨∃b,x = .bl b
theorem abd:oK X (compareOp .Is) (fun x y H Q=>isPlain y∧Q (.bl (decide (x=y))) H):=by
 intro pins s σ H x y v u Q I rx ry h
 obtain⟨hp,q⟩:=h
 rcases hp with rfl|⟨b,rfl⟩
 ·exact abb pins s σ H x .non v u Q I rx ry ⟨rfl,q⟩
 ·cases ry
  refine wpAny_is_plain ?_ (vI I q ?_)
  ·cases x<;>first|(cases rx;rfl)|(obtain⟨t,rfl⟩:=rx;rfl)
  ·cases x with
   | bl c=>cases rx;cases b<;>cases c<;>rfl
   | _=>first|(cases rx;rfl)|(obtain⟨t,rfl⟩:=rx;rfl)
theorem Pu:oK X (compareOp .IsNot) (fun x y H Q=>isPlain y∧Q (.bl (!decide (x=y))) H):=by
 intro pins s σ H x y v u Q I rx ry h
 obtain⟨hp,q⟩:=h
 rcases hp with rfl|⟨b,rfl⟩
 ·exact WM pins s σ H x .non v u Q I rx ry ⟨rfl,q⟩
 ·cases ry
  refine wpAny_isNot_plain ?_ (vI I q ?_)
  ·cases x<;>first|(cases rx;rfl)|(obtain⟨t,rfl⟩:=rx;rfl)
  ·cases x with
   | bl c=>cases rx;cases b<;>cases c<;>rfl
   | _=>first|(cases rx;rfl)|(obtain⟨t,rfl⟩:=rx;rfl)
noncomputable def isD:D→D→Option Bool
 | .non,.non=>some true
 | .bl a,.bl b=>some (a == b)
 | _,.non=>some false
 | _,.bl _=>some false
 | _,_=>none
noncomputable def Vm(x y:D):Option D:=(isD x y).map .bl
noncomputable def pH(x y:D):Option D:=(isD x y).map fun b=>.bl (!b)
theorem Zg{F H:Hp}{x y:D}{vx vy:V}{b:Bool}(hx:jk C.K F H x vx)(hy:jk C.K F H y vy)(h:isD x y=some b):isPlain vy∧decide (vx=vy)=b:=by
 have alw:∀a,¬(V.ref a=V.non):=fun a e=>by cases e
 cases y with
 | non=>
  obtain rfl:=hy.non
  refine⟨.inl rfl,?_⟩
  cases x with
  | non=>obtain rfl:=hx.non;simp[isD] at h;simp[h]
  | bl c=>obtain rfl:=hx.bl;simp[isD] at h;simp[h]
  | int i=>obtain rfl:=hx.int;simp[isD] at h;simp[h]
  | str z=>obtain⟨rfl,_⟩:=hx.str;simp[isD] at h;simp[h]
  | tup xs=>rcases hx with ⟨_,a,_,rfl,_⟩|⟨a,rfl,_⟩<;>(simp[isD] at h;simp[h])
  | lst xs=>rcases hx with ⟨_,a,_,rfl,_⟩|⟨a,rfl,_⟩<;>(simp[isD] at h;simp[h])
  | arr xs=>rcases hx with ⟨_,a,_,rfl,_⟩|⟨a,rfl,_⟩<;>(simp[isD] at h;simp[h])
  | dct xs=>rcases hx with ⟨_,a,_,rfl,_⟩|⟨a,rfl,_⟩<;>(simp[isD] at h;simp[h])
 | bl k=>
  obtain rfl:=hy.bl
  refine⟨.inr ⟨k,rfl⟩,?_⟩
  cases x with
  | non=>obtain rfl:=hx.non;simp[isD] at h;simp[h]
  | bl c=>obtain rfl:=hx.bl;simp only[isD,Option.some.injEq] at h;rw[←h,ad0]
  | int i=>obtain rfl:=hx.int;simp[isD] at h;simp[h]
  | str z=>obtain⟨rfl,_⟩:=hx.str;simp[isD] at h;simp[h]
  | tup xs=>rcases hx with ⟨_,a,_,rfl,_⟩|⟨a,rfl,_⟩<;>(simp[isD] at h;simp[h])
  | lst xs=>rcases hx with ⟨_,a,_,rfl,_⟩|⟨a,rfl,_⟩<;>(simp[isD] at h;simp[h])
  | arr xs=>rcases hx with ⟨_,a,_,rfl,_⟩|⟨a,rfl,_⟩<;>(simp[isD] at h;simp[h])
  | dct xs=>rcases hx with ⟨_,a,_,rfl,_⟩|⟨a,rfl,_⟩<;>(simp[isD] at h;simp[h])
 | _=>cases x<;>simp[isD] at h
theorem agI:qu C (fun x y H Q=>isPlain y∧Q (.bl (decide (x=y))) H) Vm:=by
 intro Pr F env σ H x y d vx vy Q r hx hy h q
 unfold Vm at h
 cases e:isD x y with
 | none=>rw[e] at h;cases h
 | some b=>
  rw[e] at h;cases h
  obtain⟨h1,h2⟩:=Zg hx hy e
  exact⟨h1,by rw[h2];exact q _ H F r (aO.refl F) rfl⟩
theorem Sg:qu C (fun x y H Q=>isPlain y∧Q (.bl (!decide (x=y))) H) pH:=by
 intro Pr F env σ H x y d vx vy Q r hx hy h q
 unfold pH at h
 cases e:isD x y with
 | none=>rw[e] at h;cases h
 | some b=>
  rw[e] at h;cases h
  obtain⟨h1,h2⟩:=Zg hx hy e
  exact⟨h1,by rw[h2];exact q _ H F r (aO.refl F) rfl⟩
noncomputable def gI(c:Int→Int→Bool)(f:Int→Int→D)(x y:D):Option D:=match x,y with
 | .int i,.int j=>if c i j=true then some (f i j) else none
 | _,_=>none
theorem Ss{Cd:Int→Int→Prop}{c:Int→Int→Bool}{f:Int→Int→D}{g:Int→Int→V}(hc:∀i j,c i j=true→Cd i j)(hf:∀i j F,Rep C.K F (f i j) (g i j)):qu C (rI Cd g) (gI c f):=by
 intro Pr F env σ H x y d vx vy Q r hx hy h q
 unfold gI at h
 split at h
 ·rename_i i j
  split at h
  ·rename_i hcc
   cases h
   obtain rfl:=hx.int
   obtain rfl:=hy.int
   exact⟨i,j,rfl,rfl,hc i j hcc,q _ H F r (aO.refl F) (hf i j F)⟩
  ·cases h
 ·cases h
theorem Hv{f:Int→Int→D}{g:Int→Int→V}(hf:∀i j F,Rep C.K F (f i j) (g i j)):qu C (Jw g) (gI (fun _ _=>true) f):=by
 intro Pr F env σ H x y d vx vy Q r hx hy h q
 unfold gI at h
 split at h
 ·rename_i i j
  rw[if_pos rfl] at h
  cases h
  obtain rfl:=hx.int
  obtain rfl:=hy.int
  exact⟨i,j,rfl,rfl,q _ H F r (aO.refl F) (hf i j F)⟩
 ·cases h
noncomputable def lX(i j:Int):Bool:=decide (Builtin.Int.intBits i+Builtin.Int.intBits j≤134217728)
theorem WN:oK X (binaryOp .Mult) (rI (fun i j=>lX i j=true) fun i j=>.int (i*j)):=
 opI fun i j _ _ _ _ _ hc q=>mul_int q (mulOk_of_bits (Nat.le_refl _) (Nat.le_refl _) (of_decide_eq_true hc))
noncomputable def vG:D→D→Option D:=gI lX fun i j=>.int (i*j)
noncomputable def tQ:D→D→Option D:=gI (fun _ _=>true) fun i j=>.int (i - j)
noncomputable def ac1:D→D→Option D:=gI (fun _ j=>decide (0<j)) fun i j=>.int (i % j)
noncomputable def Lk:D→D→Option D:=gI (fun i j=>decide (0≤j∧j≤1000000∧i.natAbs<2^64)) fun i j=>.int (i^j.toNat)
noncomputable def Xx:D→D→Option D:=gI (fun i j=>decide (0≤j∧j≤1000000∧i.natAbs<2^64)) fun i j=>.int (i*2^j.toNat)
noncomputable def Il:D→D→Option D:=gI (fun _ j=>decide (0≤j)) fun i j=>.int (i / 2^j.toNat)
noncomputable def Im:D→D→Option D:=gI (fun _ _=>true) fun i j=>.int (Builtin.bitAnd i j)
theorem abq:qu C (rI (fun i j=>lX i j=true) fun i j=>.int (i*j)) vG:=Ss (fun _ _ h=>h) fun _ _ _=>rfl
theorem abm:qu C (Jw fun i j=>.int (i - j)) tQ:=Hv fun _ _ _=>rfl
theorem abr:qu C (rI (fun _ j=>0<j) fun i j=>.int (i % j)) ac1:=Ss (fun _ _ h=>of_decide_eq_true h) fun _ _ _=>rfl
theorem abp:qu C (rI YC fun i j=>.int (i^j.toNat)) Lk:=Ss (fun i j h=>(show 0≤j∧j≤1000000∧i.natAbs<2^64 from of_decide_eq_true h)) fun _ _ _=>rfl
theorem abo:qu C (rI YC fun i j=>.int (i*2^j.toNat)) Xx:=Ss (fun i j h=>(show 0≤j∧j≤1000000∧i.natAbs<2^64 from of_decide_eq_true h)) fun _ _ _=>rfl
theorem abn:qu C (rI (fun _ j=>0≤j) fun i j=>.int (i / 2^j.toNat)) Il:=Ss (fun _ _ h=>of_decide_eq_true h) fun _ _ _=>rfl
theorem abx:qu C (Jw fun i j=>.int (Builtin.bitAnd i j)) Im:=Hv fun _ _ _=>rfl
noncomputable abbrev afl:R2:=fun x y H Q=>∃i j,x = .str i∧y = .str j∧Q (.bl (decide (i.cps.toList<j.cps.toList))) H
noncomputable def aiy:D→D→Option D:=gI (fun _ _=>true) fun i j=>.bl (decide (i<j))
noncomputable def ac2(x y:D):Option D:=match x,y with
 | .str a,.str b=>some (.bl (decide (a<b)))
 | _,_=>none
noncomputable def gLt(x y:D):Option D:=(aiy x y).or (ac2 x y)
noncomputable def gLe:D→D→Option D:=gI (fun _ _=>true) fun i j=>.bl (decide (i≤j))
noncomputable def gGt:D→D→Option D:=gI (fun _ _=>true) fun i j=>.bl (decide (j<i))
noncomputable def gGe:D→D→Option D:=gI (fun _ _=>true) fun i j=>.bl (decide (j≤i))
theorem abt:qu C afl ac2:=by
 intro Pr F env σ H x y d vx vy Q r hx hy h q
 unfold ac2 at h
 split at h
 ·cases h
  obtain⟨rfl,_⟩:=hx.str
  obtain⟨rfl,_⟩:=hy.str
  exact⟨_,_,rfl,rfl,q _ H F r (aO.refl F) (by show V.bl _=V.bl _;congr)⟩
 ·cases h
noncomputable abbrev afm:R2:=fun x y H Q=>Jw (fun i j=>.bl (decide (i<j))) x y H Q∨afl x y H Q
theorem aba:oK X (compareOp .Lt) afm:=af6.or Pq
theorem abu:qu C (Jw fun i j=>.bl (decide (i<j))) aiy:=Hv fun _ _ _=>rfl
theorem agG:qu C afm gLt:=abu.or abt
theorem agH:qu C (Jw fun i j=>.bl (decide (i≤j))) gLe:=Hv fun _ _ _=>rfl
theorem agK:qu C (Jw fun i j=>.bl (decide (j<i))) gGt:=Hv fun _ _ _=>rfl
end
end Ev
namespace Ev
open PySem PySem.Spec PyProof.Rows L2
section
variable{X:Cx}{C:Cfg}
noncomputable def Ro(K:Fg):R2:=fun x y H Q=>∃a b ys,x = .ref a∧y = .ref b∧oM K H a []∧oM K H b ys∧Q (.ref b) H
theorem R9:oK X (binaryOp .Add) (Ro X.K):=by
 intro pins s σ H x y v u Q I rx ry h
 obtain⟨a,b,ys,rfl,rfl,ha,hb,q⟩:=h
 cases rx
 cases ry
 obtain⟨its,r1,p1,_⟩:=I.tuple ha
 obtain⟨its2,r2,p2,_⟩:=I.tuple hb
 cases r1
 obtain⟨⟨cls,dd,data,sl⟩,ho,hc,n,hd⟩:=id p1
 obtain⟨⟨cls2,dd2,data2,sl2⟩,ho2,hc2,n2,hd2⟩:=id p2
 simp only at hc hd hc2 hd2
 subst hc hd hc2 hd2
 exact concat_meets ⟨_,ho,rfl⟩ ⟨_,ho2,rfl⟩ noFill_tuple_add seq_tuple_add PySem.F.slot_tuple_add PySem.F.entry_tuple_add (PySem.F.args_tuple_add_2 _ _)
  (tuple_addW0 a b ([]:List Value).toArray its2.toArray n n2 dd dd2 sl sl2 (by simp)) ⟨ho,ho2,⟨.ref b,H,I,rfl,q⟩⟩
noncomputable abbrev afu:R2:=fun x y H Q=>∃i j,x = .str i∧y = .str j∧i.length+j.length≤sizeLine∧Q (.str (i++j)) H
noncomputable abbrev afv(K:Fg):R2:=fun x y H Q=>Jw (fun i j=>.int (i+j)) x y H Q∨afu x y H Q∨aft x y H Q∨YL K x y H Q∨Ro K x y H Q
theorem WR:oK X (binaryOp .Add) (afv X.K):=abj.or (Kr.or (abh.or (WQ.or R9)))
noncomputable def bT(x y:D):Option D:=match x,y with
 | .int i,.int j=>some (.int (i+j))
 | .str a,.str b=>if a.length+b.length≤sizeLine then some (.str (a++b)) else none
 | .lst a,.lst b=>if a.length+b.length≤sizeLine then some (.lst (a++b)) else none
 | .tup a,.tup b=>if a.length+b.length≤sizeLine then some (.tup (a++b)) else none
 | _,_=>none
theorem Eu(a b:List Nat):strOf a++strOf b=strOf (a++b):=by
 show(⟨(strOf a).cps++(strOf b).cps⟩:Str)=_
 unfold strOf
 simp
theorem fL(a:List Nat):(strOf a).length=a.length:=by
 show a.toArray.size=a.length
 simp
theorem aby:qu C (afv C.K) bT:=by
 intro Pr F env σ H x y d vx vy Q r hx hy h q
 unfold bT at h
 split at h
 ·cases h
  obtain rfl:=hx.int
  obtain rfl:=hy.int
  exact .inl ⟨_,_,rfl,rfl,q _ H F r (aO.refl F) rfl⟩
 ·split at h
  ·rename_i hz
   cases h
   obtain⟨rfl,_⟩:=hx.str
   obtain⟨rfl,_⟩:=hy.str
   refine .inr (.inl ⟨_,_,rfl,rfl,by rw[fL,fL];exact hz,?_⟩)
   rw[Eu]
   exact q _ H F r (aO.refl F) ⟨rfl,by rw[List.length_append];exact hz⟩
  ·cases h
 ·split at h
  ·rename_i hz
   cases h
   obtain⟨_,a,vs,rfl,h1,h2⟩:=hx.lst r.fr
   obtain⟨_,b,ws,rfl,h3,h4⟩:=hy.lst r.fr
   refine .inr (.inr (.inl ⟨a,b,vs,ws,rfl,rfl,h1,h3,by rw[h2.length,h4.length];exact hz,fun p hp=>?_⟩))
   obtain⟨r2,s2⟩:=r.new (o:=.lst (vs++ws)) hp
   exact q _ _ _ r2 s2 ⟨by rw[List.length_append];exact hz,p,_,rfl,aW,bN.mono s2 _ _ (h2.append h4)⟩
  ·cases h
 ·split at h
  ·rename_i hz
   cases h
   obtain⟨z1,a,vs,rfl,h1,f1,h2⟩:=hx.tup r.fr
   obtain⟨z2,b,ws,rfl,h3,f3,h4⟩:=hy.tup r.fr
   by_cases hv:vs=[]
   ·subst hv
    have e1:_=0:=h2.length.symm
    have e2:=List.eq_nil_of_length_eq_zero e1
    subst e2
    refine .inr (.inr (.inr (.inr ⟨a,b,ws,rfl,rfl,h1,h3,?_⟩)))
    exact q _ H F r (aO.refl F) ⟨z2,b,ws,rfl,f3,h4⟩
   ·refine .inr (.inr (.inr (.inl ⟨a,b,vs,ws,rfl,rfl,h1,h3,hv,by rw[h2.length,h4.length];exact hz,fun hw=>?_,fun hw p hp=>?_⟩)))
    ·subst hw
     have e1:_=0:=h4.length.symm
     have e2:=List.eq_nil_of_length_eq_zero e1
     subst e2
     rw[List.append_nil] at q
     exact q _ H F r (aO.refl F) ⟨z1,a,vs,rfl,f1,h2⟩
    ·obtain⟨r2,s2⟩:=r.new (o:=.tup (vs++ws)) hp
     exact q _ _ _ r2 s2 ⟨by rw[List.length_append];exact hz,p,_,rfl,oM.of aW,bN.mono s2 _ _ (h2.append h4)⟩
  ·cases h
 ·cases h
noncomputable def Jv(K:Fg)(F H:Hp):List D→List V→Prop
 | [],vs=>vs=[]
 | d::ds,vs=>∃v r,vs=v::r∧jk K F H d v∧Jv K F H ds r
noncomputable def tAB(C:Cfg)(ev:cL):TA:=fun σ H Q=>∃(Pr F:Hp) (env env':Env) (ds:List D),Rel C Pr F env σ H∧ev env = .ok ds env'∧
 ∀vs H' F',Rel C Pr F' env' σ H'→aO F F'→Jv C.K F' H' ds vs→Q vs H'
noncomputable def wG(X:Cx)(C:Cfg)(es:List Expr)(ev:cL):Prop:=PA X es (tAB C ev)
theorem bu{e:Expr}{a:Ev}(h:Cg X C e a)(hs:starEach [e] X.env=(false,eval e X.env)::starEach [] X.env:=by rfl):wG X C [e] (aa a ao):=(lW h uP hs).imp fun σ H Q hq=>by
 obtain⟨Pr,F,env,env',ds,rl,e,q⟩:=hq
 obtain⟨d1,aG,e1,e2⟩:=aR e
 cases e2
 exact⟨Pr,F,env,env',d1,rl,e1,fun v H1 F1 r1 s1 p1=>q _ H1 F1 r1 s1 ⟨v,[],rfl,p1,rfl⟩⟩
theorem xX{e:Expr}{es:List Expr}{a:Ev}{r:cL}(ha:PX X C e a)(hr:wG X C es r)(hs:starEach (e::es) X.env=(false,eval e X.env)::starEach es X.env:=by rfl):wG X C (e::es) (aa a r):=
 (lW ha hr hs).imp fun σ H Q h=>by
  obtain⟨Pr,F,env,env',ds,rl,e,q⟩:=h
  obtain⟨d1,aG,e1,e2⟩:=aR e
  obtain⟨By,cQ,e3,e4⟩:=aR e2
  cases e4
  refine⟨Pr,F,env,aG,d1,rl,e1,fun v H1 F1 r1 s1 p1=>?_⟩
  refine⟨Pr,F1,aG,env',By,r1,e3,fun vs H2 F2 r2 s2 p2=>?_⟩
  exact q _ H2 F2 r2 (s1.trans s2) ⟨v,vs,rfl,.inl (Rep.mono s2 d1 v p1),p2⟩
noncomputable def CallD(C:Cfg)(r:List V→Hp→VK→Prop)(g:List D→Option D):Prop:=∀(Pr F:Hp) (env:Env) (σ:L2.St) (H:Hp) (ds:List D) (d:D) (vs:List V) (Q:VK),Rel C Pr F env σ H→Jv C.K F H ds vs→g ds=some d→
 (∀v H' F',Rel C Pr F' env σ H'→aO F F'→Rep C.K F' d v→Q v H')→r vs H Q
noncomputable def az(g:List D→Option D)(a:cL):Ev:=fun env=>bindR (a env) fun ds aG=>dY (g ds) aG
theorem NP{r:List V→Hp→VK→Prop}{g:List D→Option D}{a:cL}(o:CallD C r g)(σ:L2.St)(H:Hp)(Q:VK)(h:tE C (az g a) σ H Q):tCB r (tAB C a) σ H Q:=by
 obtain⟨Pr,F,env,env',d,rl,e,q⟩:=h
 obtain⟨ds,aG,e1,e2⟩:=aR e
 obtain⟨e3,rfl⟩:=eQ e2
 exact⟨Pr,F,env,env',ds,rl,e1,fun vs H1 F1 r1 s1 p1=>o Pr F1 env' σ H1 ds d vs Q r1 p1 e3 fun v H2 F2 r2 s2 p2=>q v H2 F2 r2 (s1.trans s2) p2⟩
theorem rT{x:Str}{p pos:Pos}{e:Expr}{es:List Expr}{id:String}{r:List V→Hp→VK→Prop}{g:List D→Option D}{a:cL}(hc:jZ X (.builtin id) r)(o:CallD C r g)(hg:Gl X x)(hm:X.mg x=none)(hv:bootBuiltins x=some (.builtin id))(ha:wG X C (e::es) a)
  (hn:x ≠ "__name__":=by decide) (hdb:(x == ("__debug__" : Str))=false:=by decide) (he:starEach (e::es) X.env=(false,eval e X.env)::starEach es X.env:=by rfl) (hpl:(backTo pos (starEach es X.env)).any (·.1)=false:=by rfl) :
  PX X C (.Call (.Name x p) (e::es) [] pos) (az g a):=(RT hc hg hm hv ha hn hdb he hpl).imp (NP o)
theorem xY{x:Str}{p pos:Pos}{e:Expr}{es:List Expr}{T:String}{r:List V→Hp→VK→Prop}{g:List D→Option D}{a:cL}(hc:jZ X (.type T) r)(o:CallD C r g)(hg:Gl X x)(hm:X.mg x=none)(hv:bootBuiltins x=some (.type T))(ha:wG X C (e::es) a)
  (hn:x ≠ "__name__":=by decide) (hdb:(x == ("__debug__" : Str))=false:=by decide) (he:starEach (e::es) X.env=(false,eval e X.env)::starEach es X.env:=by rfl) (hpl:(backTo pos (starEach es X.env)).any (·.1)=false:=by rfl) :
  PX X C (.Call (.Name x p) (e::es) [] pos) (az g a):=(yc hc hg hm hv ha hn hdb he hpl).imp (NP o)
theorem m7{K:Fg}{F H:Hp}{d:D}{vs:List V}(h:Jv K F H [d] vs):∃v,vs=[v]∧jk K F H d v:=by
 obtain⟨v,r,rfl,h1,h2⟩:=h
 cases h2
 exact⟨v,rfl,h1⟩
theorem ad6{K:Fg}{F H:Hp}{d e:D}{vs:List V}(h:Jv K F H [d,e] vs):∃v w,vs=[v,w]∧jk K F H d v∧jk K F H e w:=by
 obtain⟨v,r,rfl,h1,h2⟩:=h
 obtain⟨w,rfl,h3⟩:=m7 h2
 exact⟨v,w,rfl,h1,h3⟩
noncomputable def dM:List D→Option D
 | [.str x]=>some (.int x.length)
 | [.tup xs]=>some (.int xs.length)
 | [.lst xs]=>some (.int xs.length)
 | [.arr xs]=>some (.int xs.length)
 | _=>none
theorem ad3:CallD C (fun xs H Q=>∃x n,xs=[x]∧akz C.K x H n∧Q (.int n) H) dM:=by
 intro Pr F env σ H ds d vs Q r hs h q
 unfold dM at h
 split at h
 ·cases h
  obtain⟨v,rfl,hv⟩:=m7 hs
  obtain⟨rfl,hz⟩:=hv.str
  exact⟨_,_,rfl,⟨by rw[fL];exact hz,(fL _).symm⟩,q _ H F r (aO.refl F) rfl⟩
 ·cases h
  obtain⟨v,rfl,hv⟩:=m7 hs
  obtain⟨_,a,ws,rfl,h1,_,h2⟩:=hv.tup r.fr
  exact⟨_,_,rfl,.inr ⟨ws,h1,h2.length.symm⟩,q _ H F r (aO.refl F) rfl⟩
 ·cases h
  obtain⟨v,rfl,hv⟩:=m7 hs
  obtain⟨_,a,ws,rfl,h1,h2⟩:=hv.lst r.fr
  exact⟨_,_,rfl,.inl ⟨ws,jY.of h1,h2.length.symm⟩,q _ H F r (aO.refl F) rfl⟩
 ·cases h
  obtain⟨v,rfl,hv⟩:=m7 hs
  obtain⟨_,a,ws,rfl,h1,h2⟩:=hv.arr r.fr
  exact⟨_,_,rfl,.inl ⟨ws,h1,h2.length.symm⟩,q _ H F r (aO.refl F) rfl⟩
 ·cases h
noncomputable def du:List D→Option D
 | [.tup xs]=>some (.tup xs)
 | [.lst xs]=>some (.tup xs)
 | _=>none
noncomputable abbrev Rh(K:Fg):List V→Hp→VK→Prop:=fun xs H Q=>∃p ys,xs=[.ref p]∧((jY K H p ys∧∀l,H l=none→Q (.ref l) (upd H l (.tup ys)))∨(oM K H p ys∧Q (.ref p) H))
theorem UL:CallD C (Rh C.K) du:=by
 intro Pr F env σ H ds d vs Q r hs h q
 unfold du at h
 split at h
 ·cases h
  obtain⟨v,rfl,hv⟩:=m7 hs
  obtain⟨z,a,ws,rfl,h1,f1,h2⟩:=hv.tup r.fr
  exact⟨a,ws,rfl,.inr ⟨h1,q _ H F r (aO.refl F) ⟨z,a,ws,rfl,f1,h2⟩⟩⟩
 ·cases h
  obtain⟨v,rfl,hv⟩:=m7 hs
  obtain⟨z,a,ws,rfl,h1,h2⟩:=hv.lst r.fr
  refine⟨a,ws,rfl,.inl ⟨jY.of h1,fun l hl=>?_⟩⟩
  obtain⟨r2,s2⟩:=r.new (o:=.tup ws) hl
  exact q _ _ _ r2 s2 ⟨z,l,ws,rfl,oM.of aW,bN.mono s2 _ _ h2⟩
 ·cases h
noncomputable def signs(x:List Nat):List D:=x.map fun c=>.str [c]
noncomputable abbrev Ri:List V→Hp→VK→Prop:=fun xs H Q=>∃z,xs=[.str z]∧z.length≤sizeLine∧∀l,H l=none→Q (.ref l) (upd H l (.lst (z.cps.toList.map fun c=>V.str ⟨#[c]⟩)))
theorem Ly(hh:X.calm=true):jZ X (.type "list") Ri:=by
 intro pins s σ H xs us Q I r h
 obtain⟨z,rfl,hz,q⟩:=h
 obtain⟨u,rfl,⟨t,rfl⟩⟩:=vals1 r
 refine call_list_str (I.ok.hd hh) z t (fun h' tk acc' c' kp e hacc=>?_) hz
 refine⟨.ref s.heap.objs.size,_,I.laid kp (Nat.le_refl _) (show ik X.prog X.w _ h' _ (.lst (z.cps.toList.map fun c=>V.str ⟨#[c]⟩)) from⟨?_,acc'.toList,c',?_,by simpa using e⟩),rfl,q _ (I.hok.fresh (Nat.le_refl _))⟩
 ·simpa[Str.length] using hz
 ·obtain⟨hsz,hit⟩:=hacc
  have go:∀(cs:List Nat) (vs:List Value),vs.length=cs.length→(∀(j:Nat) (v:Value),vs[j]? = some v→∃(c:Nat) (u:Tok),cs[j]? = some c∧v=Value.str ⟨#[c]⟩ u)→Vals (cs.map fun c=>V.str ⟨#[c]⟩) vs:=by
   intro cs
   induction cs with
   | nil=>intro vs hl _;rw[List.eq_nil_of_length_eq_zero hl];exact .nil
   | cons c cs ih=>
    intro vs hl hv
    cases vs with
    | nil=>simp at hl
    | cons v vs=>
     obtain⟨c',u,e1,e2⟩:=hv 0 v rfl
     simp at e1
     subst e1 e2
     exact .cons ⟨u,rfl⟩ (ih vs (by simpa using hl) fun j w hw=>by simpa using hv (j+1) w (by simpa using hw))
  refine go _ _ (by simpa using hsz) fun j v hv=>?_
  obtain⟨c,u,e1,e2⟩:=hit j v (by simpa using hv)
  exact⟨c,u,by simpa using e1,e2⟩
noncomputable def uH:List D→Option D
 | [.tup xs]=>some (.lst xs)
 | [.lst xs]=>some (.lst xs)
 | [.str x]=>some (.lst (signs x))
 | _=>none
noncomputable abbrev Rk(K:Fg):List V→Hp→VK→Prop:=fun xs H Q=>(∃p ys,xs=[.ref p]∧(jY K H p ys∨oM K H p ys)∧∀l,H l=none→Q (.ref l) (upd H l (.lst ys)))∨Ri xs H Q
theorem LC(hh:X.calm=true):jZ X (.type "list") (Rk X.K):=Gp.or (Ly hh)
theorem Ag{K:Fg}{F:Hp}:∀x:List Nat,bN K F (signs x) (x.map fun c=>V.str ⟨#[c]⟩)
 | []=>rfl
 | c::x=>⟨_,_,rfl,⟨rfl,by rw[sizeLine_eq];simp⟩,Ag x⟩
theorem Yo:CallD C (Rk C.K) uH:=by
 intro Pr F env σ H ds d vs Q r hs h q
 unfold uH at h
 split at h
 ·cases h
  obtain⟨v,rfl,hv⟩:=m7 hs
  obtain⟨z,a,ws,rfl,h1,f1,h2⟩:=hv.tup r.fr
  refine .inl ⟨a,ws,rfl,.inr h1,fun l hl=>?_⟩
  obtain⟨r2,s2⟩:=r.new (o:=.lst ws) hl
  exact q _ _ _ r2 s2 ⟨z,l,ws,rfl,aW,bN.mono s2 _ _ h2⟩
 ·cases h
  obtain⟨v,rfl,hv⟩:=m7 hs
  obtain⟨z,a,ws,rfl,h1,h2⟩:=hv.lst r.fr
  refine .inl ⟨a,ws,rfl,.inl (jY.of h1),fun l hl=>?_⟩
  obtain⟨r2,s2⟩:=r.new (o:=.lst ws) hl
  exact q _ _ _ r2 s2 ⟨z,l,ws,rfl,aW,bN.mono s2 _ _ h2⟩
 ·rename_i x
  cases h
  obtain⟨v,rfl,hv⟩:=m7 hs
  obtain⟨rfl,hz⟩:=hv.str
  refine .inr ⟨_,rfl,by rw[fL];exact hz,fun l hl=>?_⟩
  obtain⟨r2,s2⟩:=r.new (o:=.lst ((strOf x).cps.toList.map fun c=>V.str ⟨#[c]⟩)) hl
  refine q _ _ _ r2 s2 ⟨by simpa[signs] using hz,l,_,rfl,aW,?_⟩
  have e:(strOf x).cps.toList=x:=by simp[strOf]
  rw[e]
  exact Ag x
 ·cases h
noncomputable def nu:List D→Option D
 | [.int i,.int j]=>if 0<j∧j<1073741824 then some (.tup [.int (i / j),.int (i % j)]) else none
 | _=>none
theorem Qt:CallD C (fun xs H Q=>∃i j,xs=[.int i,.int j]∧akE i j∧∀p,H p=none→Q (.ref p) (upd H p (.tup [.int (i / j),.int (i % j)]))) nu:=by
 intro Pr F env σ H ds d vs Q r hs h q
 unfold nu at h
 split at h
 ·split at h
  ·rename_i hj
   cases h
   obtain⟨v,w,rfl,hv,hw⟩:=ad6 hs
   obtain rfl:=hv.int
   obtain rfl:=hw.int
   refine⟨_,_,rfl,hj,fun p hp=>?_⟩
   obtain⟨r2,s2⟩:=r.new (o:=.tup [.int _,.int _]) hp
   exact q _ _ _ r2 s2 ⟨by rw[sizeLine_eq];simp,p,_,rfl,oM.of aW,⟨_,_,rfl,rfl,_,_,rfl,rfl,rfl⟩⟩
  ·cases h
 ·cases h
end
end Ev
namespace Ev
open PySem PySem.Spec PyProof.Rows L2
section
variable{X:Cx}{C:Cfg}
noncomputable def tyD:D→String
 | .non=>"NoneType"
 | .bl _=>"bool"
 | .int _=>"int"
 | .str _=>"str"
 | .tup _=>"tuple"
 | .lst _=>"list"
 | .arr _=>"list"
 | .dct _=>"dict"
noncomputable def Zh(d:D)(T:String):Bool:=tyD d == T||(tyD d == "bool" && T == "int")
noncomputable def amN(T:String)(d:D):Option D:=some (.bl (Zh d T))
noncomputable def oX:List D→Option (List Bool)
 | []=>some []
 | .bl b::r=>(oX r).map (b :: ·)
 | _=>none
theorem Ah{K:Fg}{F:Hp}:∀{ds:List D} {bs:List Bool} {vs:List V},oX ds=some bs→bN K F ds vs→vs=bs.map V.bl
 | [],bs,vs,h,hr=>by simp[oX] at h;subst h;cases hr;rfl
 | d::ds,bs,vs,h,hr=>by
  obtain⟨v,r,rfl,h1,h2⟩:=hr
  cases d with
  | bl b=>
   simp only[oX] at h
   cases e:oX ds with
   | none=>rw[e] at h;cases h
   | some cs=>
    rw[e] at h
    cases h
    cases h1
    rw[Ah e h2]
    rfl
  | _=>simp[oX] at h
theorem zZ:∀{bs:List Bool} {us:List Value},Vals (bs.map V.bl) us→us=bs.map Value.bool
 | [],_,.nil=>rfl
 | b::bs,_,.cons r t=>by
  cases r
  rw[zZ t]
  rfl
theorem Dc(bs:List Bool):(List.range bs.length).all (fun i=>bs.getD i true)=bs.all id:=by
 induction bs with
 | nil=>rfl
 | cons b bs ih=>
  rw[List.length_cons,List.range_succ_eq_map,List.all_cons,List.all_map,List.all_cons]
  simp only[List.getD_cons_zero,id]
  congr 1
theorem CW(bs:List Bool):(List.range bs.length).any (fun i=>bs.getD i true)=bs.any id:=by
 induction bs with
 | nil=>rfl
 | cons b bs ih=>
  rw[List.length_cons,List.range_succ_eq_map,List.any_cons,List.any_map,List.any_cons]
  simp only[List.getD_cons_zero,id]
  congr 1
theorem Qw(hc:X.calm=true):jZ X (.builtin "all") (fun xs H Q=>∃(p:Addr) (bs:List Bool),xs=[.ref p]∧jY X.K H p (bs.map V.bl)∧Q (.bl (bs.all id)) H):=by
 intro pins s σ H xs us Q I r h
 obtain⟨p,bs,rfl,hq,q⟩:=h
 obtain⟨u,rfl,rx⟩:=vals1 r
 cases rx
 obtain⟨its,rv,pl,_⟩:=I.list hq
 have e:=zZ rv
 subst e
 refine call_all_walk (wpAny_pyIter_list pl.isList ?_)
 have hlt:p<s.heap.objs.size:=by obtain⟨o,e,_⟩:=pl.isList;exact Heap.lt_size e
 refine⟨s.heap.objs.size,_,_,_,_,_,fun i=>bs.getD i true,rfl,Walks.list (A:=X.A.in1) (show X.A.in1.handled=none from I.ok.hd hc) s.heap.objs.size p (Nat.ne_of_lt hlt) (bs.map Value.bool).toArray,⟨⟨_,Heap.get?_push_size _ rfl,rfl,rfl⟩,by obtain⟨o,e,rr⟩:=pl.isList;exact⟨o,Heap.get?_push_of_some _ e,rr⟩⟩,?_,fun h' tk hk=>?_⟩
 ·intro i v s' Q' E' hv hq'
  have hv:(bs.map Value.bool).toArray[i]? = some v:=hv
  rw[List.getElem?_toArray,List.getElem?_map] at hv
  cases hb:bs[i]? with
  | none=>rw[hb] at hv;cases hv
  | some b=>
   rw[hb] at hv
   cases hv
   refine wpAny_truthy_bool ?_
   have this:bs.getD i true=b:=by simp[List.getD_eq_getElem?_getD,hb]
   have hq':Q' (bs.getD i true) s':=hq'
   rwa [this] at hq'
 ·have I1:Inv X pins σ H { s with heap:=h',toks:=tk }:=I.kept fun b o e=>hk b o (by simp;exact Nat.ne_of_lt (Heap.lt_size e)) (Heap.get?_push_of_some _ e)
  refine⟨.bl _,H,I1,rfl,?_⟩
  have e2:(bs.map Value.bool).toArray.size=bs.length:=by simp
  rw[e2,Dc]
  exact q
theorem Qv(hc:X.calm=true):jZ X (.builtin "any") (fun xs H Q=>∃(p:Addr) (bs:List Bool),xs=[.ref p]∧jY X.K H p (bs.map V.bl)∧Q (.bl (bs.any id)) H):=by
 intro pins s σ H xs us Q I r h
 obtain⟨p,bs,rfl,hq,q⟩:=h
 obtain⟨u,rfl,rx⟩:=vals1 r
 cases rx
 obtain⟨its,rv,pl,_⟩:=I.list hq
 have e:=zZ rv
 subst e
 refine call_any_walk (wpAny_pyIter_list pl.isList ?_)
 have hlt:p<s.heap.objs.size:=by obtain⟨o,e,_⟩:=pl.isList;exact Heap.lt_size e
 refine⟨s.heap.objs.size,_,_,_,_,_,fun i=>bs.getD i true,rfl,Walks.list (A:=X.A.in1) (show X.A.in1.handled=none from I.ok.hd hc) s.heap.objs.size p (Nat.ne_of_lt hlt) (bs.map Value.bool).toArray,⟨⟨_,Heap.get?_push_size _ rfl,rfl,rfl⟩,by obtain⟨o,e,rr⟩:=pl.isList;exact⟨o,Heap.get?_push_of_some _ e,rr⟩⟩,?_,fun h' tk hk=>?_⟩
 ·intro i v s' Q' E' hv hq'
  have hv:(bs.map Value.bool).toArray[i]? = some v:=hv
  rw[List.getElem?_toArray,List.getElem?_map] at hv
  cases hb:bs[i]? with
  | none=>rw[hb] at hv;cases hv
  | some b=>
   rw[hb] at hv
   cases hv
   refine wpAny_truthy_bool ?_
   have this:bs.getD i true=b:=by simp[List.getD_eq_getElem?_getD,hb]
   have hq':Q' (bs.getD i true) s':=hq'
   rwa [this] at hq'
 ·have I1:Inv X pins σ H { s with heap:=h',toks:=tk }:=I.kept fun b o e=>hk b o (by simp;exact Nat.ne_of_lt (Heap.lt_size e)) (Heap.get?_push_of_some _ e)
  refine⟨.bl _,H,I1,rfl,?_⟩
  have e2:(bs.map Value.bool).toArray.size=bs.length:=by simp
  rw[e2,CW]
  exact q
noncomputable def Bl:List D→Option D
 | [.lst ds]=>(oX ds).map fun bs=>.bl (bs.all id)
 | _=>none
noncomputable def Qe:List D→Option D
 | [.lst ds]=>(oX ds).map fun bs=>.bl (bs.any id)
 | _=>none
theorem ad5:CallD C (fun xs H Q=>∃(p:Addr) (bs:List Bool),xs=[.ref p]∧jY C.K H p (bs.map V.bl)∧Q (.bl (bs.all id)) H) Bl:=by
 intro Pr F env σ H ds d vs Q r hs h q
 unfold Bl at h
 split at h
 ·rename_i es
  cases e:oX es with
  | none=>rw[e] at h;cases h
  | some bs=>
   rw[e] at h
   cases h
   obtain⟨v,rfl,hv⟩:=m7 hs
   obtain⟨z,a,ws,rfl,h1,h2⟩:=hv.lst r.fr
   have e2:=Ah e h2
   subst e2
   exact⟨a,bs,rfl,jY.of h1,q _ H F r (aO.refl F) rfl⟩
 ·cases h
theorem ad4:CallD C (fun xs H Q=>∃(p:Addr) (bs:List Bool),xs=[.ref p]∧jY C.K H p (bs.map V.bl)∧Q (.bl (bs.any id)) H) Qe:=by
 intro Pr F env σ H ds d vs Q r hs h q
 unfold Qe at h
 split at h
 ·rename_i es
  cases e:oX es with
  | none=>rw[e] at h;cases h
  | some bs=>
   rw[e] at h
   cases h
   obtain⟨v,rfl,hv⟩:=m7 hs
   obtain⟨z,a,ws,rfl,h1,h2⟩:=hv.lst r.fr
   have e2:=Ah e h2
   subst e2
   exact⟨a,bs,rfl,jY.of h1,q _ H F r (aO.refl F) rfl⟩
 ·cases h
noncomputable def jl:List D→Option (List (List Nat))
 | []=>some []
 | .str x::r=>(jl r).map (x :: ·)
 | _=>none
noncomputable def yX(sep:List Nat):List (List Nat)→List Nat
 | []=>[]
 | x::r=>r.foldl (fun acc y=>acc++sep++y) x
theorem TJ(sep:List Nat)(xs:List (List Nat)):Txt.join (strOf sep) (xs.map strOf)=strOf (yX sep xs):=by
 unfold Txt.join
 unfold Builtin.Str.glued
 cases xs with
 | nil=>rfl
 | cons x r=>
  show(⟨(r.map strOf).foldl (fun acc p=>acc++(strOf sep).cps++p.cps) (strOf x).cps⟩:Str)=strOf (r.foldl (fun acc y=>acc++sep++y) x)
  have go:∀(r:List (List Nat)) (x:List Nat),(r.map strOf).foldl (fun acc p=>acc++(strOf sep).cps++p.cps) (strOf x).cps=(strOf (r.foldl (fun acc y=>acc++sep++y) x)).cps:=by
   intro r
   induction r with
   | nil=>intro x;rfl
   | cons y r ih=>
    intro x
    rw[List.map_cons,List.foldl_cons,List.foldl_cons]
    rw[←ih (x++sep++y)]
    congr 1
    simp[strOf]
  rw[go]
theorem xW{K:Fg}{F:Hp}:∀{ds:List D} {xs:List (List Nat)} {vs:List V},jl ds=some xs→bN K F ds vs→vs=xs.map fun x=>V.str (strOf x)
 | [],bs,vs,h,hr=>by simp[jl] at h;subst h;cases hr;rfl
 | d::ds,bs,vs,h,hr=>by
  obtain⟨v,r,rfl,h1,h2⟩:=hr
  cases d with
  | str b=>
   simp only[jl] at h
   cases e:jl ds with
   | none=>rw[e] at h;cases h
   | some cs=>
    rw[e] at h
    cases h
    cases h1.1
    rw[xW e h2]
    rfl
  | _=>simp[jl] at h
theorem xG:∀{xs:List (List Nat)} {us:List Value},Vals (xs.map fun x=>V.str (strOf x)) us→StrsAre us (xs.map strOf)
 | [],_,.nil=>.nil
 | x::xs,_,.cons r t=>by
  obtain⟨k,rfl⟩:=r
  exact .cons _ k (xG t)
noncomputable def joinFits(sep:List Nat)(xs:List (List Nat)):Bool:=decide ((xs.map List.length).sum+xs.length*sep.length≤16777216)
noncomputable def rJoin(K:Fg):V→List V→Hp→VK→Prop:=fun x vs H Q=>∃sep xs p,x = .str (strOf sep)∧vs=[.ref p]∧jY K H p (xs.map fun x=>V.str (strOf x))∧joinFits sep xs=true∧Q (.str (strOf (yX sep xs))) H
theorem WX:MtR X "str.join" (rJoin X.K):=by
 intro pins s σ H x vs v us Q I rx rv h
 obtain⟨sep,xs,p,rfl,rfl,hq,hf,q⟩:=h
 obtain⟨t,rfl⟩:=rx
 obtain⟨u,rfl,ru⟩:=vals1 rv
 cases ru
 obtain⟨its,r,pl,_⟩:=I.list hq
 have hs:=xG r
 refine join_list pl.isList (by simpa using hs) ?_ fun t' k=>?_
 ·have hf':=of_decide_eq_true hf
  have e:((xs.map strOf).map (·.length))=xs.map List.length:=by
   rw[List.map_map]
   apply List.map_congr_left
   intro z _
   exact fL z
  rw[e,fL,List.length_map]
  exact hf'
 ·rw[TJ]
  exact⟨.str _,H,I.tok k,⟨t',rfl⟩,q⟩
theorem G5(sep:List Nat):∀(r:List (List Nat)) (x:List Nat),(r.foldl (fun acc y=>acc++sep++y) x).length=x.length+(r.map List.length).sum+r.length*sep.length
 | [],x=>by simp
 | y::r,x=>by
  rw[List.foldl_cons,G5 sep r,List.length_append,List.length_append,List.map_cons,List.sum_cons,List.length_cons,Nat.add_mul]
  omega
theorem TQ{sep:List Nat}{xs:List (List Nat)}(h:joinFits sep xs=true):(yX sep xs).length≤sizeLine:=by
 have h':=of_decide_eq_true h
 rw[sizeLine_eq]
 cases xs with
 | nil=>simp[yX]
 | cons x r=>
  show(r.foldl (fun acc y=>acc++sep++y) x).length≤_
  rw[G5]
  rw[List.map_cons,List.sum_cons,List.length_cons,Nat.add_mul] at h'
  omega
noncomputable def oh(x y:D):Option D:=match x,y with
 | .str sep,.lst ds=>(match jl ds with
  | some xs=>if joinFits sep xs=true then some (.str (yX sep xs)) else none
  | none=>none)
 | _,_=>none
theorem Wm{o e:Expr}{a b:Ev}{apos cpos:Pos}(hK:X.K=C.K)(ho:PX X C o a)(he:Cg X C e b)(hbase:attributeBase o "join" X.env (eval o X.env)=eval o X.env:=by rfl)
  (hs:starEach [e] X.env=(false,eval e X.env)::starEach [] X.env:=by rfl)
  (hfew:((backTo cpos (starEach [e] X.env)).all (fun x=>!x.1)&&(backToKw cpos (keywordEach [] X.env)).all (fun x=>x.1.isSome)
   && decide ([e].length+([]:List Keyword).length+(if ([]:List Keyword).isEmpty then 0 else 1)<30))=true:=by rfl)
  (hline:(apos.endLine == cpos.line)=true:=by rfl) (hplain:(backTo cpos (starEach [] X.env)).any (·.1)=false:=by rfl) :
  PX X C (.Call (.Attribute o "join" apos) [e] [] cpos) (aK oh a b):=by
 refine(RV PySem.F.plainAttrs_str PySem.F.slot_str_join PySem.F.type_str_join WX ho (lW he uP hs) hbase hfew hline hs hplain).imp fun σ H Q h=>?_
 obtain⟨Pr,F,env,env',d,rl,e0,q⟩:=h
 obtain⟨x,aG,e1,e2⟩:=aR e0
 obtain⟨y,cQ,e3,e4⟩:=aR e2
 obtain⟨e5,rfl⟩:=eQ e4
 unfold oh at e5
 split at e5
 ·rename_i sep ds
  split at e5
  ·rename_i xs hxs
   split at e5
   ·rename_i hf
    cases e5
    refine⟨Pr,F,env,aG,_,rl,e1,fun vx H1 F1 r1 s1 p1=>?_⟩
    obtain⟨rfl,_⟩:=p1
    refine⟨rfl,Pr,F1,aG,env',_,r1,e3,fun vy H2 F2 r2 s2 p2=>?_⟩
    obtain⟨z,l,ws,rfl,h1,h2⟩:=p2.lst r2.fr
    have e6:=xW hxs h2
    subst e6
    exact⟨sep,xs,l,rfl,rfl,jY.of h1,hf,q _ H2 F2 r2 (s1.trans s2) ⟨rfl,TQ hf⟩⟩
   ·cases e5
  ·cases e5
 ·cases e5
end
end Ev
namespace Ev
open PySem PySem.Spec PyProof.Rows L2
theorem Rel.put{C:Cfg}{Pr F:Hp}{env:Env}{σ:L2.St}{H:Hp}(r:Rel C Pr F env σ H){i:Nat}{d:D}{v:V}(hfx:C.fx i=none)(p:Rep C.K F d v):Rel C Pr F (env.set i (some (false,d))) (σ.set i (some v)) H:=by
 refine⟨r.pr,r.fr,by rw[List.length_set,List.length_set];exact r.len,fun j e he=>?_,fun j e he=>?_,fun j k e f b hj hk g1 g2=>?_,r.dj,fun j a hj=>?_⟩
 ·by_cases hji:j=i
  ·subst hji
   have hl:j<env.length:=by
    have:=(List.getElem?_eq_some_iff.mp he).1
    rwa [List.length_set] at this
   rw[List.getElem?_set_self hl] at he
   cases he
   exact⟨v,List.getElem?_set_self (by rw[←r.len];exact hl),p⟩
  ·rw[List.getElem?_set_ne (Ne.symm hji)] at he ⊢
   exact r.val j e he
 ·by_cases hji:j=i
  ·subst hji
   have hl:j<env.length:=by
    have:=(List.getElem?_eq_some_iff.mp he).1
    rwa [List.length_set] at this
   rw[List.getElem?_set_self hl] at he
   cases he
  ·rw[List.getElem?_set_ne (Ne.symm hji)] at he ⊢
   exact r.own j e he
 ·have nn:∀(j:Nat) (e:D),(env.set i (some (false,d)))[j]? = some (some (true,e))→j≠i:=fun j e he z=>by
   subst z
   have hl:j<env.length:=by
    have:=(List.getElem?_eq_some_iff.mp he).1
    rwa [List.length_set] at this
   rw[List.getElem?_set_self hl] at he
   cases he
  have nj:=nn j e hj
  have nk:=nn k f hk
  rw[List.getElem?_set_ne (Ne.symm nj)] at hj g1
  rw[List.getElem?_set_ne (Ne.symm nk)] at hk g2
  exact r.apart j k e f b hj hk g1 g2
 ·have hji:j≠i:=fun z=>by rw[z,hfx] at hj;cases hj
  rw[List.getElem?_set_ne (Ne.symm hji)]
  exact r.fix j a hj
structure QC(K:Fg)(Pr F:Hp)(env:Env)(σ:L2.St)(H:Hp)(d:D)(a:Addr):Prop where
 own:mL K F H d a
 nF:F a=none
 nP:Pr a=none
 ap:∀(j:Nat) (e:D),env[j]? = some (some (true,e))→σ[j]? = some (some (V.ref a))→False
theorem QC.of{C:Cfg}{Pr F:Hp}{env:Env}{σ:L2.St}{H:Hp}{a:Addr}{o:HO}{d:D}(r:Rel C Pr F env σ H)(h:H a=none)(ho:mL C.K F (upd H a o) d a):QC C.K Pr F env σ (upd H a o) d a:=
 ⟨ho,r.fr.free h,r.pr.free h,fun j e he hs=>by
  obtain⟨b,h1,h2,_⟩:=r.own j e he
  rw[hs] at h1;cases h1
  obtain⟨u,hu⟩:=h2.some
  rw[h] at hu;cases hu⟩
theorem Rel.Ko{C:Cfg}{Pr F:Hp}{env:Env}{σ:L2.St}{H:Hp}(r:Rel C Pr F env σ H){i:Nat}{d:D}{a:Addr}(hfx:C.fx i=none)(n:QC C.K Pr F env σ H d a):Rel C Pr F (env.set i (some (true,d))) (σ.set i (some (.ref a))) H:=by
 have same:∀(j:Nat) (x:Bool×D),(env.set i (some (true,d)))[j]? = some (some x)→j=i→x=(true,d)∧j<env.length:=fun j x he z=>by
  subst z
  have hl:j<env.length:=by
   have:=(List.getElem?_eq_some_iff.mp he).1
   rwa [List.length_set] at this
  rw[List.getElem?_set_self hl] at he
  cases he
  exact⟨rfl,hl⟩
 refine⟨r.pr,r.fr,by rw[List.length_set,List.length_set];exact r.len,fun j e he=>?_,fun j e he=>?_,fun j k e f b hj hk g1 g2=>?_,r.dj,fun j a hj=>?_⟩
 ·by_cases hji:j=i
  ·have:=(same j _ he hji).1;cases this
  ·rw[List.getElem?_set_ne (Ne.symm hji)] at he ⊢
   exact r.val j e he
 ·by_cases hji:j=i
  ·obtain⟨z,hl⟩:=same j _ he hji
   cases z
   subst hji
   exact⟨a,List.getElem?_set_self (by rw[←r.len];exact hl),n.own,n.nF,n.nP⟩
  ·rw[List.getElem?_set_ne (Ne.symm hji)] at he ⊢
   exact r.own j e he
 ·by_cases nj:j=i
  ·by_cases nk:k=i
   ·rw[nj,nk]
   ·obtain⟨z,hl⟩:=same j _ hj nj
    subst nj
    rw[List.getElem?_set_self (by rw[←r.len];exact hl)] at g1
    cases g1
    rw[List.getElem?_set_ne (Ne.symm nk)] at hk g2
    exact(n.ap k f hk g2).elim
  ·rw[List.getElem?_set_ne (Ne.symm nj)] at hj g1
   by_cases nk:k=i
   ·obtain⟨z,hl⟩:=same k _ hk nk
    subst nk
    rw[List.getElem?_set_self (by rw[←r.len];exact hl)] at g2
    cases g2
    exact(n.ap j e hj g1).elim
   ·rw[List.getElem?_set_ne (Ne.symm nk)] at hk g2
    exact r.apart j k e f b hj hk g1 g2
 ·have hji:j≠i:=fun z=>by rw[z,hfx] at hj;cases hj
  rw[List.getElem?_set_ne (Ne.symm hji)]
  exact r.fix j a hj
theorem Rel.keep{C:Cfg}{Pr F:Hp}{env:Env}{σ:L2.St}{H:Hp}{d:D}{a:Addr}(r:Rel C Pr F env σ H)(n:QC C.K Pr F env σ H d a):∃F',Rel C Pr F' env σ H∧aO F F'∧Rep C.K F' d (.ref a):=by
 obtain⟨o,ho⟩:=n.own.some
 have s1:aO F (upd F a o):=mq n.nF
 have rep:Rep C.K (upd F a o) d (.ref a):=by
  have h2:=n.own
  cases d with
  | lst xs=>obtain⟨z,vs,g1,g2⟩:=h2;rw[ho] at g1;cases g1;exact⟨z,a,vs,rfl,aW,bN.mono s1 _ _ g2⟩
  | dct kvs=>obtain⟨z,ks,g1,g2⟩:=h2;rw[ho] at g1;cases g1;exact⟨z,a,ks,rfl,.inl aW,dC.mono s1 _ _ g2⟩
  | _=>exact h2.elim
 refine⟨upd F a o,⟨r.pr,fun b u e=>?_,r.len,fun j e he=>?_,fun j e he=>?_,r.apart,fun b u e=>?_,r.fix⟩,s1,rep⟩
 ·by_cases hb:b=a
  ·subst hb;rw[aW] at e;cases e;exact ho
  ·rw[bK hb] at e;exact r.fr b u e
 ·obtain⟨v,g1,g2⟩:=r.val j e he
  exact⟨v,g1,Rep.mono s1 e v g2⟩
 ·obtain⟨b,g1,g2,g3,g4⟩:=r.own j e he
  have hb:b≠a:=fun z=>by subst z;exact n.ap j e he g1
  exact⟨b,g1,g2.mono s1 rfl,by rw[bK hb];exact g3,g4⟩
 ·by_cases hb:b=a
  ·subst hb;exact n.nP
  ·rw[bK hb] at e;exact r.dj b u e
theorem Rel.write{C:Cfg}{Pr F:Hp}{env:Env}{σ:L2.St}{H:Hp}{i:Nat}{d d':D}{a:Addr}{u:HO}(r:Rel C Pr F env σ H)(h:env[i]? = some (some (true,d)))(hs:σ[i]? = some (some (V.ref a)))(ho:mL C.K F (upd H a u) d' a) :
  Rel C Pr F (env.set i (some (true,d'))) σ (upd H a u):=by
 obtain⟨a',h1,h2,h3,h4⟩:=r.own i d h
 rw[hs] at h1;cases h1
 have hi:i<env.length:=(List.getElem?_eq_some_iff.mp h).1
 have ne:∀(j:Nat) (e:D) (b:Addr),j≠i→env[j]? = some (some (true,e))→σ[j]? = some (some (V.ref b))→b≠a:=fun j e b hj he g z=>hj (r.apart j i e d a he h (by rw[←z];exact g) hs)
 refine⟨fun b w e=>?_,fun b w e=>?_,by rw[List.length_set];exact r.len,fun j e he=>?_,fun j e he=>?_,fun j k e f b hj hk g1 g2=>?_,r.dj,r.fix⟩
 ·have hb:b≠a:=fun z=>by rw[z,h4] at e;cases e
  rw[bK hb];exact r.pr b w e
 ·have hb:b≠a:=fun z=>by rw[z,h3] at e;cases e
  rw[bK hb];exact r.fr b w e
 ·by_cases hj:j=i
  ·subst hj;rw[List.getElem?_set_self hi] at he;cases he
  ·rw[List.getElem?_set_ne (Ne.symm hj)] at he;exact r.val j e he
 ·by_cases hj:j=i
  ·subst hj;rw[List.getElem?_set_self hi] at he;cases he;exact⟨a,hs,ho,h3,h4⟩
  ·rw[List.getElem?_set_ne (Ne.symm hj)] at he
   obtain⟨b,g1,g2,g3,g4⟩:=r.own j e he
   exact⟨b,g1,g2.mono (aO.refl F) (bK (ne j e b hj he g1)),g3,g4⟩
 ·have un:∀(j:Nat) (e:D),(env.set i (some (true,d')))[j]? = some (some (true,e))→∃e',env[j]? = some (some (true,e')):=fun j e he=>by
   by_cases hj:j=i
   ·subst hj;exact⟨d,h⟩
   ·rw[List.getElem?_set_ne (Ne.symm hj)] at he;exact⟨e,he⟩
  obtain⟨e',hj'⟩:=un j e hj
  obtain⟨f',hk'⟩:=un k f hk
  exact r.apart j k e' f' b hj' hk' g1 g2
noncomputable def tN(C:Cfg)(ev:Ev):TE:=fun σ H Q=>∃(Pr F:Hp) (env env':Env) (d:D),Rel C Pr F env σ H∧ev env = .ok d env'∧
 ∀a H' F',Rel C Pr F' env' σ H'→aO F F'→QC C.K Pr F' env' σ H' d a→Q (.ref a) H'
noncomputable def Jy(X:Cx)(C:Cfg)(e:Expr)(ev:Ev):Prop:=PE X e (tN C ev)
section
variable{X:Cx}{C:Cfg}{pos:Pos}
theorem Jy.px{e:Expr}{ev:Ev}(h:Jy X C e ev):PX X C e ev:=PE.imp h fun σ H Q hq=>by
 obtain⟨Pr,F,env,env',d,r,e,q⟩:=hq
 refine⟨Pr,F,env,env',d,r,e,fun a H' F' r' s' n'=>?_⟩
 obtain⟨F2,r2,s2,p2⟩:=r'.keep n'
 exact q _ _ F2 r2 (s'.trans s2) p2
theorem dz{es:List Expr}{r:cL}(h:Dg X C es r):Jy X C (.List es pos) (cG r):=(aa1 h).imp fun σ H Q hq=>by
 obtain⟨Pr,F,env,env',d,rl,e,q⟩:=hq
 obtain⟨ds,aG,e1,e2⟩:=aR e
 split at e2
 ·rename_i hz
  cases e2
  refine⟨Pr,F,env,env',ds,rl,e1,fun vs H1 F1 r1 s1 p1=>⟨by rw[p1.length];exact hz,fun p hp=>?_⟩⟩
  exact q _ _ F1 (r1.fresh hp) s1 (QC.of r1 hp ⟨hz,vs,aW,p1⟩)
 ·cases e2
noncomputable abbrev GV:=D→Env→Option Env
noncomputable abbrev Oc:=List D→Env→Option Env
noncomputable def tG(C:Cfg)(lo:Nat)(gv:GV):TG:=fun v σ H Q=>∃(Pr F:Hp) (env env':Env) (d:D),Rel C Pr F env σ H∧Rep C.K F d v∧gv d env=some env'∧
 ∀σ' H' F',Rel C Pr F' env' σ' H'→aO F F'→σ'.take lo=σ.take lo→Q σ' H'
noncomputable def tGs(C:Cfg)(lo:Nat)(gv:Oc):Yv:=fun vs σ H Q=>∃(Pr F:Hp) (env env':Env) (ds:List D),Rel C Pr F env σ H∧bN C.K F ds vs∧gv ds env=some env'∧
 ∀σ' H' F',Rel C Pr F' env' σ' H'→aO F F'→σ'.take lo=σ.take lo→Q σ' H'
noncomputable def Jr(X:Cx)(C:Cfg)(lo:Nat)(e:Expr)(gv:GV):Prop:=PG X e (tG C lo gv)
noncomputable def Qz(X:Cx)(C:Cfg)(lo:Nat)(es:List Expr)(gv:Oc):Prop:=Z7 X es (tGs C lo gv)
theorem _root_.L2.PG.imp{X:Cx}{e:Expr}{t t':TG}(h:PG X e t)(i:∀v σ H Q,t' v σ H Q→t v σ H Q):PG X e t':=fun pins s σ H v u Q I r q=>h pins s σ H v u Q I r (i v σ H Q q)
theorem _root_.L2.Z7.imp{X:Cx}{e:List Expr}{t t':Yv}(h:Z7 X e t)(i:∀v σ H Q,t' v σ H Q→t v σ H Q):Z7 X e t':=fun pins s σ H v u Q I r q=>h pins s σ H v u Q I r (i v σ H Q q)
noncomputable def ak(i:Nat):GV:=fun d env=>some (env.set i (some (false,d)))
theorem Rq{lo i:Nat}{x:Str}(hN:X.N.Nodup)(hi:X.N[i]? = some x)(hx:Loc X.env.scope x)(hlo:lo≤i)(hfx:C.fx i=none)(hf:X.fn x=true∨X.env.scope.names.lookup x=some .local:=by first|exact .inl rfl|exact .inr rfl|assumption):Jr X C lo (.Name x pos) (ak i):=
 (Wy hN hi hx hf).imp fun v σ H Q h=>by
  obtain⟨Pr,F,env,env',d,r,p,e,q⟩:=h
  cases e
  exact q _ _ F (r.put hfx p) (aO.refl F) (by rw[List.take_set_of_le hlo])
noncomputable def dh:Oc:=fun ds env=>if ds.isEmpty then some env else none
noncomputable def aQ(g:GV)(gs:Oc):Oc:=fun ds env=>match ds with
 | d::r=>(g d env).bind fun e1=>gs r e1
 | []=>none
theorem cU{lo:Nat}:Qz X C lo [] dh:=Wx.imp fun v σ H Q h=>by
 obtain⟨Pr,F,env,env',ds,r,p,e,q⟩:=h
 cases ds with
 | nil=>cases e;cases p;exact⟨rfl,q _ _ F r (aO.refl F) rfl⟩
 | cons d ds=>cases e
theorem aV{lo:Nat}{e:Expr}{es:List Expr}{g:GV}{gs:Oc}(h1:Jr X C lo e g)(h2:Qz X C lo es gs)
  (hs:(assignEach (e::es) X.env).map (·.2)=assign e X.env::(assignEach es X.env).map (·.2):=by rfl):Qz X C lo (e::es) (aQ g gs):=(RN h1 h2 hs).imp fun v σ H Q h=>by
 obtain⟨Pr,F,env,env',ds,r,p,e,q⟩:=h
 cases ds with
 | nil=>cases e
 | cons d ds=>
  obtain⟨u,w,rfl,p1,p2⟩:=p
  obtain⟨aG,e1,e2⟩:=Option.bind_eq_some_iff.mp e
  refine⟨u,w,rfl,Pr,F,env,aG,d,r,p1,e1,fun σ1 H1 F1 r1 s1 t1=>?_⟩
  exact⟨Pr,F1,aG,env',ds,r1,bN.mono s1 _ _ p2,e2,fun σ2 H2 F2 r2 s2 t2=>q σ2 H2 F2 r2 (s1.trans s2) (t2.trans t1)⟩
noncomputable def cV(n:Nat)(gs:Oc):GV:=fun d env=>match d with
 | .tup ds=>if ds.length=n then gs ds env else none
 | _=>none
theorem Wk{lo:Nat}{es:List Expr}{k:Nat}{gs:Oc}{n:Nat}(hc:X.calm=true)(hK:X.K=C.K)(h:Qz X C lo es gs)
  (hn:(assignEach es X.env).length=n:=by rfl) (hst:(assignEach es X.env).findIdx? (·.1)=none:=by rfl):Jr X C lo (.Tuple es k pos) (cV n gs):=(aaT hc h hn hst).imp fun v σ H Q h=>by
 obtain⟨Pr,F,env,env',d,r,p,e,q⟩:=h
 cases d with
 | tup ds=>
  obtain⟨z,a,vs,rfl,h1,h2⟩:=p
  unfold cV at e
  simp only at e
  split at e
  ·rename_i hl
   rw[hK]
   exact⟨a,vs,rfl,aO.tupK r.fr h1,by rw[h2.length];exact hl,Pr,F,env,env',ds,r,h2,e,q⟩
  ·cases e
 | _=>cases e
noncomputable def Li(i:Nat)(ix:Ev):GV:=fun d env=>match env[i]? with
 | some (some (_,_))=>(match ix env with
  | .ok (.int k) aG=>(match aG[i]? with
   | some (some (true,.lst xs))=>(TX xs.length k).map fun j=>aG.set i (some (true,.lst (xs.set j d)))
   | _=>none)
  | _=>none)
 | _=>none
theorem aaI{lo i:Nat}{x:Str}{ix:Expr}{ev:Ev}{px:Pos}(hN:X.N[i]? = some x)(hv:uw X.env.scope x)(h:PX X C ix ev)
  (ha:∀v,assign (.Subscript (.Name x px) ix pos) X.env v=(do
   let ov ←holding [v] (eval (.Name x px) X.env)
   let iv ←holding [v,ov] (eval ix X.env)
   standAt pos
   holding [v,ov,iv] (setItem ov iv v)
   release [v,ov,iv] []):=by intro _;rfl)
  (hd:(x == ("__debug__" : Str))=false:=by decide) (hcd:(x == ("__classdict__" : Str))=false:=by decide):Jr X C lo (.Subscript (.Name x px) ix pos) (Li i ev):=
 (aaU (mO hN hv hd hcd) h set_list ha).imp fun v σ H Q hq=>by
  obtain⟨Pr,F,env,env',d,r,p,e,q⟩:=hq
  unfold Li at e
  split at e
  ·rename_i o0 d0 h0
   obtain⟨v0,hv0,_⟩:=r.rd h0
   split at e
   ·rename_i k aG e1
    split at e
    ·rename_i xs h2
     obtain⟨j,hj,e3⟩:=Option.map_eq_some_iff.mp e
     subst e3
     refine⟨v0,hv0,Pr,F,env,aG,.int k,r,e1,fun vi H1 F1 r1 s1 p1=>?_⟩
     cases p1
     obtain⟨a,g1,⟨z,vs,g2,g3⟩,g4,g5⟩:=r1.own i _ h2
     rw[hv0] at g1;cases g1
     refine⟨a,vs,k,j,rfl,rfl,g2,by rw[g3.length];exact hj,?_⟩
     refine q σ _ F1 (r1.write h2 hv0 ⟨by rw[List.length_set];exact z,vs.set j v,aW,bN.set (Rep.mono s1 d v p) j g3⟩) s1 rfl
    ·cases e
   ·cases e
  ·cases e
end
inductive Out where
 | nx (env:Env)
 | rt (o:Bool) (d:D) (env:Env)
 | bk (env:Env)
 | ct (env:Env)
 | stuck
noncomputable abbrev bQ:=Env→Out
noncomputable def Fin(C:Cfg)(Pr F:Hp)(D:Ends):Out→Prop
 | .nx env'=>∀σ' H' F',Rel C Pr F' env' σ' H'→aO F F'→D.nx σ' H'
 | .rt false d env'=>∀v σ' H' F',Rel C Pr F' env' σ' H'→aO F F'→Rep C.K F' d v→D.rt v H'
 | .rt true d env'=>∀a σ' H' F',Rel C Pr F' env' σ' H'→aO F F'→QC C.K Pr F' env' σ' H' d a→D.rt (.ref a) H'
 | .bk env'=>∀σ' H' F',Rel C Pr F' env' σ' H'→aO F F'→D.bk σ' H'
 | .ct env'=>∀σ' H' F',Rel C Pr F' env' σ' H'→aO F F'→D.ct σ' H'
 | .stuck=>False
theorem Fin.mono{C:Cfg}{Pr F F1:Hp}{D:Ends}(s:aO F F1):∀{o:Out},Fin C Pr F D o→Fin C Pr F1 D o
 | .nx _,h=>fun σ' H' F' r t=>h σ' H' F' r (s.trans t)
 | .rt false _ _,h=>fun v σ' H' F' r t=>h v σ' H' F' r (s.trans t)
 | .rt true _ _,h=>fun v σ' H' F' r t=>h v σ' H' F' r (s.trans t)
 | .bk _,h=>fun σ' H' F' r t=>h σ' H' F' r (s.trans t)
 | .ct _,h=>fun σ' H' F' r t=>h σ' H' F' r (s.trans t)
 | .stuck,h=>h
noncomputable def tS(C:Cfg)(ev:bQ):TS:=fun D σ H=>∃(Pr F:Hp) (env:Env),Rel C Pr F env σ H∧Fin C Pr F D (ev env)
noncomputable def Ce(X:Cx)(C:Cfg)(st:Stmt)(ev:bQ):Prop:=PS X st (tS C ev)
noncomputable def uy(X:Cx)(C:Cfg)(st:List Stmt)(ev:bQ):Prop:=Js X st (tS C ev)
noncomputable def dW{α:Type}(x:R α)(f:α→Env→Out):Out:=match x with
 | .ok a env=>f a env
 | .stuck=>.stuck
theorem dU{C:Cfg}{Pr F:Hp}{D:Ends}{α:Type}{x:R α}{f:α→Env→Out}(h:Fin C Pr F D (dW x f)):∃a aG,x = .ok a aG∧Fin C Pr F D (f a aG):=by
 cases x with
 | ok a aG=>exact⟨a,aG,rfl,h⟩
 | stuck=>exact h.elim
section
variable{X:Cx}{C:Cfg}{pos:Pos}
noncomputable def bI:bQ:=fun env=>.nx env
noncomputable def aC(a b:bQ):bQ:=fun env=>match a env with
 | .nx e=>b e
 | .rt o d e=>.rt o d e
 | .bk e=>.bk e
 | .ct e=>.ct e
 | .stuck=>.stuck
theorem bZ:uy X C [] bI:=Wo.imp fun D σ H h=>by
 obtain⟨Pr,F,env,r,f⟩:=h
 exact f σ H F r (aO.refl F)
theorem aA{st:Stmt}{rest:List Stmt}{a b:bQ}(h1:Ce X C st a)(h2:uy X C rest b):uy X C (st::rest) (aC a b):=(Ru h1 h2).imp fun D σ H h=>by
 obtain⟨Pr,F,env,r,f⟩:=h
 refine⟨Pr,F,env,r,?_⟩
 unfold aC at f
 cases e:a env with
 | nx e1=>rw[e] at f;exact fun σ' H' F' r' s'=>⟨Pr,F',e1,r',f.mono s'⟩
 | rt o d e1=>rw[e] at f;cases o<;>exact f
 | bk e1=>rw[e] at f;exact f
 | ct e1=>rw[e] at f;exact f
 | stuck=>rw[e] at f;exact f
theorem aH{st:Stmt}{a:bQ}(h1:Ce X C st a):uy X C [st] a:=Wn h1
noncomputable def cT(t:dG)(a b:bQ):bQ:=fun env=>dW (t env) fun c aG=>if c=true then a aG else b aG
theorem dq{c:Expr}{a b:List Stmt}{t:dG}{ea eb:bQ}(hc:Oa X C c t)(ha:uy X C a ea)(hb:uy X C b eb):Ce X C (.If c a b pos) (cT t ea eb):=(afB hc ha hb).imp fun D σ H h=>by
 obtain⟨Pr,F,env,r,f⟩:=h
 obtain⟨k,aG,e1,f1⟩:=dU f
 refine⟨Pr,F,env,aG,k,r,e1,fun H1 F1 r1 s1=>?_⟩
 split at f1
 ·rename_i hk;rw[if_pos hk];exact⟨Pr,F1,aG,r1,f1.mono s1⟩
 ·rename_i hk;rw[if_neg hk];exact⟨Pr,F1,aG,r1,f1.mono s1⟩
noncomputable def bh(a:Ev):bQ:=fun env=>dW (a env) fun d aG=>.rt false d aG
theorem bj{e:Expr}{a:Ev}(h:PX X C e a):Ce X C (.Return (some e) pos) (bh a):=(Ry h).imp fun D σ H hq=>by
 obtain⟨Pr,F,env,r,f⟩:=hq
 obtain⟨d,aG,e1,f1⟩:=dU f
 exact⟨Pr,F,env,aG,d,r,e1,fun v H1 F1 r1 s1 p1=>f1 v σ H1 F1 r1 s1 p1⟩
noncomputable def rR(a:Ev):bQ:=fun env=>dW (a env) fun d aG=>.rt true d aG
theorem uO{e:Expr}{a:Ev}(h:Jy X C e a):Ce X C (.Return (some e) pos) (rR a):=(Ry h).imp fun D σ H hq=>by
 obtain⟨Pr,F,env,r,f⟩:=hq
 obtain⟨d,aG,e1,f1⟩:=dU f
 exact⟨Pr,F,env,aG,d,r,e1,fun v H1 F1 r1 s1 p1=>f1 v σ H1 F1 r1 s1 p1⟩
noncomputable def aav:bQ:=fun env=>.rt false .non env
noncomputable def Dz(o:Option Env):Out:=match o with
 | some e=>.nx e
 | none=>.stuck
noncomputable def aL(a:Ev)(g:GV):bQ:=fun env=>dW (a env) fun d aG=>Dz (g d aG)
theorem aee{a:Ev}{g:GV}{D:Ends}{σ:L2.St}{H:Hp}(h:tS C (aL a g) D σ H):Q4 (tE C a) (tG C 0 g) D σ H:=by
 obtain⟨Pr,F,env,r,f⟩:=h
 obtain⟨d,aG,e1,f1⟩:=dU f
 refine⟨Pr,F,env,aG,d,r,e1,fun v H1 F1 r1 s1 p1=>?_⟩
 cases e2:g d aG with
 | none=>rw[e2] at f1;exact f1.elim
 | some cQ=>rw[e2] at f1;exact⟨Pr,F1,aG,cQ,d,r1,p1,e2,fun σ2 H2 F2 r2 s2 _=>f1 σ2 H2 F2 r2 (s1.trans s2)⟩
theorem lU{tg e:Expr}{a:Ev}{g:GV}(he:PX X C e a)(hg:Jr X C 0 tg g)(hs:swapsWithSole [tg] e pos.line X.env=pure false:=by rfl)(hw:swappedStores [tg] e X.env=pure none:=by rfl)
  (h1:(assignEach [tg] X.env).map (·.2)=[assign tg X.env]:=by rfl):Ce X C (.Assign [tg] e pos) (aL a g):=(aaR he hg hs hw h1).imp fun D σ H h=>aee h
theorem We{i:Nat}{x:Str}{e:Expr}{a:Ev}{pos':Pos}(hN:X.N.Nodup)(hi:X.N[i]? = some x)(hx:Loc X.env.scope x)(hfx:C.fx i=none)(he:PX X C e a)(hs:swapsWith e (some (.Name x pos')) pos.line X.env=pure false:=by rfl)(hf:X.fn x=true∨X.env.scope.names.lookup x=some .local:=by first|exact .inl rfl|exact .inr rfl|assumption) :
  Ce X C (.Assign [.Name x pos'] e pos) (aL a (ak i)):=(Rx hN hi hx he hs hf).imp fun D σ H h=>by
 obtain⟨Pr,F,env,r,f⟩:=h
 obtain⟨d,aG,e1,f1⟩:=dU f
 exact⟨Pr,F,env,aG,d,r,e1,fun v H1 F1 r1 s1 p1=>f1 _ H1 F1 (r1.put hfx p1) s1⟩
noncomputable def dB(i:Nat)(a:Ev):bQ:=fun env=>dW (a env) fun d aG=>.nx (aG.set i (some (true,d)))
theorem Wf{i:Nat}{x:Str}{e:Expr}{a:Ev}{pos':Pos}(hN:X.N.Nodup)(hi:X.N[i]? = some x)(hx:Loc X.env.scope x)(hfx:C.fx i=none)(he:Jy X C e a)(hs:swapsWith e (some (.Name x pos')) pos.line X.env=pure false:=by rfl)(hf:X.fn x=true∨X.env.scope.names.lookup x=some .local:=by first|exact .inl rfl|exact .inr rfl|assumption) :
  Ce X C (.Assign [.Name x pos'] e pos) (dB i a):=(Rx hN hi hx he hs hf).imp fun D σ H h=>by
 obtain⟨Pr,F,env,r,f⟩:=h
 obtain⟨d,aG,e1,f1⟩:=dU f
 exact⟨Pr,F,env,aG,d,r,e1,fun v H1 F1 r1 s1 p1=>f1 _ H1 F1 (r1.Ko hfx p1) s1⟩
noncomputable def gq(i:Nat)(a:Ev):bQ:=fun env=>match env[i]? with
 | some (some (true,.lst _))=>dW (a env) fun d aG=>(match aG[i]? with
  | some (some (true,.lst xs))=>if xs.length<sizeLine then .nx (aG.set i (some (true,.lst (xs++[d])))) else .stuck
  | _=>.stuck)
 | _=>.stuck
theorem Wh{i:Nat}{x:Str}{e:Expr}{a:Ev}{px apos cpos:Pos}(hN:X.N[i]? = some x)(hv:uw X.env.scope x)(he:PX X C e a)(hK:X.K=C.K)
  (hs:swapsWith (.Call (.Attribute (.Name x px) "append" apos) [e] [] cpos) none pos.line X.env=pure false:=by rfl)
  (hfew:((backTo cpos (starEach [e] X.env)).all (fun x=>!x.1)&&(backToKw cpos (keywordEach [] X.env)).all (fun x=>x.1.isSome)
   && decide (([e]:List Expr).length+([]:List Keyword).length+(if ([]:List Keyword).isEmpty then 0 else 1)<30))=true:=by rfl)
  (hbase:attributeBase (.Name x px) "append" X.env (eval (.Name x px) X.env)=eval (.Name x px) X.env:=by rfl)
  (hline:(apos.endLine == cpos.line)=true:=by rfl) (hst:starEach [e] X.env=(false,eval e X.env)::starEach [] X.env:=by rfl) (hplain:(backTo cpos (starEach [] X.env)).any (·.1)=false:=by rfl)
  (hd:(x == ("__debug__" : Str))=false:=by decide) (hcd:(x == ("__classdict__" : Str))=false:=by decide):Ce X C (.Expr (.Call (.Attribute (.Name x px) "append" apos) [e] [] cpos) pos) (gq i a):=by
 refine PS.imp (MN (RV PySem.F.plainAttrs_list PySem.F.slot_list_append PySem.F.type_list_append ye (mO hN hv hd hcd) (lW he uP hst) hbase hfew hline hst hplain) hs) fun D σ H h=>?_
 obtain⟨Pr,F,env,r,f⟩:=h
 unfold gq at f
 split at f
 ·rename_i xs0 h0
  obtain⟨d,aG,e1,f1⟩:=dU f
  obtain⟨a0,hv0,⟨z0,vs0,g0,_⟩,_⟩:=r.own i _ h0
  refine⟨_,hv0,.inl ⟨rfl,vs0,jY.of g0⟩,Pr,F,env,aG,d,r,e1,fun v H1 F1 r1 s1 p1=>?_⟩
  split at f1
  ·rename_i xs h1
   split at f1
   ·rename_i hz
    obtain⟨a,g1,⟨z,vs,g2,g3⟩,g4,g5⟩:=r1.own i _ h1
    rw[hv0] at g1;cases g1
    refine⟨a0,vs,v,rfl,rfl,g2,by rw[g3.length];exact hz,?_⟩
    exact f1 σ _ F1 (r1.write h1 hv0 ⟨by rw[List.length_append];exact hz,vs++[v],aW,g3.append (bN.one p1)⟩) s1
   ·exact f1.elim
  ·exact f1.elim
 ·exact f.elim
noncomputable def pU(K:Fg)(F:Hp)(ds:List D)(J:It):Prop:=∀(i:Nat) (H:Hp),aO F H→(ds[i]? = none→i=ds.length→J.stop i H)∧∀d,ds[i]? = some d→J.go i H∧∀x H',J.Vw i H x H'→
 (H'=H∧Rep K F d x)∨∃p vs es,H p=none∧H'=upd H p (.tup vs)∧x = .ref p∧d = .tup es∧es.length≤sizeLine∧bN K F es vs
noncomputable def tI(C:Cfg)(ev:cL):TI:=fun σ H R=>∃(Pr F:Hp) (env env':Env) (ds:List D),Rel C Pr F env σ H∧ev env = .ok ds env'∧
 ∀J H' F',Rel C Pr F' env' σ H'→aO F F'→pU C.K F' ds J→R J H'
noncomputable def GC(X:Cx)(C:Cfg)(tg iter:Expr)(ev:cL):Prop:=PI X tg iter (tI C ev)
theorem _root_.L2.PI.imp{X:Cx}{tg e:Expr}{t t':TI}(h:PI X tg e t)(i:∀σ H R,t' σ H R→t σ H R):PI X tg e t':=fun pins s σ H R I q=>h pins s σ H R I (i σ H R q)
theorem pU.item{Pr F F1:Hp}{env:Env}{σ:L2.St}{H:Hp}{ds:List D}{J:It}{i:Nat}{d:D}{x:V}{H':Hp}(r:Rel C Pr F1 env σ H)(s:aO F F1)(y:pU C.K F ds J)(hd:ds[i]? = some d)(hy:J.Vw i H x H') :
  ∃F2,Rel C Pr F2 env σ H'∧aO F1 F2∧Rep C.K F2 d x:=by
 rcases((y i H (s.trans r.fr)).2 d hd).2 x H' hy with ⟨rfl,p⟩|⟨p,vs,es,hp,rfl,rfl,rfl,hz,q⟩
 ·exact⟨F1,r,aO.refl F1,Rep.mono s _ _ p⟩
 ·obtain⟨r2,s2⟩:=r.new (o:=.tup vs) hp
  exact⟨_,r2,s2,hz,p,vs,rfl,oM.of aW,bN.mono (s.trans s2) _ _ q⟩
noncomputable def j4(g:GV)(b:bQ):List D→bQ
 | [],env=>.nx env
 | d::ds,env=>(match g d env with
  | none=>.stuck
  | some e1=>(match b e1 with
   | .nx e2=>j4 g b ds e2
   | .ct e2=>j4 g b ds e2
   | .bk e2=>.nx e2
   | .rt o d e2=>.rt o d e2
   | .stuck=>.stuck))
noncomputable def eO(it:cL)(g:GV)(b:bQ):bQ:=fun env=>dW (it env) fun ds aG=>j4 g b ds aG
theorem Wg{tg iter:Expr}{body:List Stmt}{it:cL}{g:GV}{b:bQ}(hp:PassesOwn (model X.prog X.w) X.A X.env X.xe)(hc:X.calm=true)(hi:GC X C tg iter it)(hg:Jr X C 0 tg g)(hb:uy X C body b)
  (hs:∀x,foldedSetIterable iter X.env x=pure x:=by intro _;rfl):Ce X C (.For tg iter body [] pos) (eO it g b):=(aaQ hp hc hi hg hb hs).imp fun D σ H h=>by
 obtain⟨Pr,F,env,r,f⟩:=h
 obtain⟨ds,aG,e1,f1⟩:=dU f
 refine⟨Pr,F,env,aG,ds,r,e1,fun J H1 F1 r1 s1 y1=>?_⟩
 refine⟨fun i m σ' H'=>m=ds.length - i∧i≤ds.length∧∃F' env',Rel C Pr F' env' σ' H'∧aO F1 F'∧Fin C Pr F' D (j4 g b (ds.drop i) env'),⟨ds.length,rfl,Nat.zero_le _,F1,aG,r1,aO.refl _,f1.mono s1⟩,?_⟩
 rintro i m σ' H' ⟨rfl,hi,F',env',r',s',f'⟩
 by_cases hl:i<ds.length
 ·have hd:ds[i]? = some ds[i]:=List.getElem?_eq_getElem hl
  have hdr:ds.drop i=ds[i]::ds.drop (i+1):=List.drop_eq_getElem_cons hl
  have yy:=y1 i H' (s'.trans r'.fr)
  refine .inr ⟨(yy.2 _ hd).1,fun σ2 H2=>∃F' env',Rel C Pr F' env' σ2 H2∧aO F1 F'∧Fin C Pr F' D (j4 g b (ds.drop (i+1)) env'),fun σ2 H2 h2=>⟨ds.length - (i+1),by omega,rfl,hl,h2⟩,fun x H2 hy=>?_⟩
  obtain⟨F2,r2,s2,p2⟩:=pU.item r' s' y1 hd hy
  rw[hdr] at f'
  have f2:=f'.mono s2
  unfold j4 at f2
  cases eg:g ds[i] env' with
  | none=>rw[eg] at f2;exact f2.elim
  | some e2=>
   rw[eg] at f2
   refine⟨Pr,F2,env',e2,ds[i],r2,p2,eg,fun σ3 H3 F3 r3 s3 _=>⟨Pr,F3,e2,r3,?_⟩⟩
   simp only at f2
   have YH:aO F1 F3:=(s'.trans s2).trans s3
   cases eb:b e2 with
   | nx e3=>rw[eb] at f2;exact fun σ4 H4 F4 r4 s4=>⟨F4,e3,r4,YH.trans s4,f2.mono (s3.trans s4)⟩
   | ct e3=>rw[eb] at f2;exact fun σ4 H4 F4 r4 s4=>⟨F4,e3,r4,YH.trans s4,f2.mono (s3.trans s4)⟩
   | bk e3=>rw[eb] at f2;exact fun σ4 H4 F4 r4 s4=>f2 σ4 H4 F4 r4 (s3.trans s4)
   | rt o d e3=>rw[eb] at f2;cases o<;>exact fun v σ4 H4 F4 r4 s4 p4=>f2 v σ4 H4 F4 r4 (s3.trans s4) p4
   | stuck=>rw[eb] at f2;exact f2.elim
 ·have e:i=ds.length:=by omega
  subst e
  rw[List.drop_length] at f'
  exact .inl ⟨(y1 _ H' (s'.trans r'.fr)).1 (List.getElem?_eq_none (Nat.le_refl _)) rfl,f' σ' H' F' r' (aO.refl F')⟩
noncomputable def j5(t:dG)(b:bQ):Nat→bQ
 | 0,_=>.stuck
 | n+1,env=>dW (t env) fun c e1=>if c=true then (match b e1 with
   | .nx e2=>j5 t b n e2
   | .ct e2=>j5 t b n e2
   | .bk e2=>.nx e2
   | .rt o d e2=>.rt o d e2
   | .stuck=>.stuck) else .nx e1
theorem O5{c:Expr}{body:List Stmt}{t:dG}{b:bQ}(n:Nat)(hp:PassesOwn (model X.prog X.w) X.A X.env X.xe)(hc:Oa X C c t)(hb:uy X C body b):Ce X C (.While c body [] pos) (j5 t b n):=(Rv hp hc hb).imp fun D σ H h=>by
 obtain⟨Pr,F,env,r,f⟩:=h
 refine⟨fun m σ' H'=>∃F' env',Rel C Pr F' env' σ' H'∧aO F F'∧Fin C Pr F' D (j5 t b m env'),⟨n,F,env,r,aO.refl _,f⟩,?_⟩
 rintro m σ' H' ⟨F',env',r',s',f'⟩
 cases m with
 | zero=>exact f'.elim
 | succ m=>
  unfold j5 at f'
  obtain⟨k,e1,e2,f1⟩:=dU f'
  refine⟨Pr,F',env',e1,k,r',e2,fun H1 F1 r1 s1=>?_⟩
  have f2:=f1.mono s1
  show if k=true then _ else _
  split at f2
  ·rename_i hk
   rw[if_pos hk]
   refine⟨fun σ2 H2=>∃F' env',Rel C Pr F' env' σ2 H2∧aO F F'∧Fin C Pr F' D (j5 t b m env'),fun σ2 H2 h2=>⟨m,Nat.lt_succ_self _,h2⟩,Pr,F1,e1,r1,?_⟩
   have YH:aO F F1:=s'.trans s1
   cases eb:b e1 with
   | nx e3=>rw[eb] at f2;exact fun σ4 H4 F4 r4 s4=>⟨F4,e3,r4,YH.trans s4,f2.mono s4⟩
   | ct e3=>rw[eb] at f2;exact fun σ4 H4 F4 r4 s4=>⟨F4,e3,r4,YH.trans s4,f2.mono s4⟩
   | bk e3=>rw[eb] at f2;exact fun σ4 H4 F4 r4 s4=>f2 σ4 H4 F4 r4 s4
   | rt o d e3=>rw[eb] at f2;cases o<;>exact fun v σ4 H4 F4 r4 s4 p4=>f2 v σ4 H4 F4 r4 s4 p4
   | stuck=>rw[eb] at f2;exact f2.elim
  ·rename_i hk
   rw[if_neg hk]
   exact f2 σ' H1 F1 r1 (aO.refl F1)
end
end Ev
namespace L2
open PySem PySem.Spec PyProof.Rows
noncomputable def Its(z:Str):It:=⟨fun i _=>i<z.cps.size,fun i H x H'=>H'=H∧∃c,z.cps[i]? = some c∧x = .str ⟨#[c]⟩,fun i _=>z.cps.size≤i⟩
theorem Oe{P:Program}{w:World}{K:PySem.W.Frag}{tg:Expr}(it:Addr)(z:Str)(t:Tok):Turn P w K tg (Its z) [it] it (fun i h=>h.IsStrIter it "str_ascii_iterator" z t i∧i≤z.cps.size) where
 mem:=by simp
 obj:=fun i h st b hb=>by
  have e:b=it:=by simpa using hb
  subst e
  obtain⟨⟨o,ho,hc,hd⟩,_⟩:=st
  exact⟨o,ho,fun v z=>by rw[hd] at z;cases z⟩
 keep:=fun i h h' st k=>let ⟨⟨o,ho,r⟩,l⟩:=st;⟨⟨o,k it (by simp) o ho,r⟩,l⟩
 item:=by
  intro X hP hw hK hc i pins s σ H E I hf st hg
  subst hP hw hK
  obtain⟨f0,f1,f2,f3,f4,f5⟩:=hf it (by simp)
  have hg':i<z.cps.size:=hg
  refine wpAny_pyNext_ascii_item st.1 (c:=z.cps[i]) (by simp[hg']) fun h' hit' hs'=>?_
  have I1:Inv X pins σ H { s with heap:=h',toks:=s.toks+1 }:=I.turned (fun b o hb e=>hs'.extBut b o hb e) f0 f1 f3 f4 f5
  obtain⟨o,ho,hcl,hda⟩:=hit'
  refine⟨_,rfl,Ii (s:={ s with heap:=h',toks:=s.toks+1 }) (n:="str_ascii_iterator") ho hcl hda (by decide) ⟨.str ⟨#[z.cps[i]]⟩,H,I1,⟨_,rfl⟩,⟨rfl,_,by simp[hg'],rfl⟩,⟨⟨o,ho,hcl,hda⟩,hg'⟩,fun b hb=>(hf b hb).1⟩⟩
 done:=by
  intro X hP hw hK hc i pins s σ H E I hf st hg
  subst hP hw hK
  obtain⟨f0,f1,f2,f3,f4,f5⟩:=hf it (by simp)
  have hg':z.cps.size≤i:=hg
  exact wpAny_pyNext_ascii_end (I.ok.hd hc) st.1 (by simp;omega) fun h' eb=>⟨rfl,I.turned (t':=s.toks) (fun b o hb e=>eb b o hb e) f0 f1 f3 f4 f5⟩
 self:=fun _ _ _ _ _ st h=>wpAny_pyIter_striter_ascii st.1 h
theorem Od{P:Program}{w:World}{K:PySem.W.Frag}{tg:Expr}(it:Addr)(z:Str)(t:Tok):Turn P w K tg (Its z) [it] it (fun i h=>h.IsStrIter it "str_iterator" z t i∧i≤z.cps.size) where
 mem:=by simp
 obj:=fun i h st b hb=>by
  have e:b=it:=by simpa using hb
  subst e
  obtain⟨⟨o,ho,hc,hd⟩,_⟩:=st
  exact⟨o,ho,fun v z=>by rw[hd] at z;cases z⟩
 keep:=fun i h h' st k=>let ⟨⟨o,ho,r⟩,l⟩:=st;⟨⟨o,k it (by simp) o ho,r⟩,l⟩
 item:=by
  intro X hP hw hK hc i pins s σ H E I hf st hg
  subst hP hw hK
  obtain⟨f0,f1,f2,f3,f4,f5⟩:=hf it (by simp)
  have hg':i<z.cps.size:=hg
  refine wpAny_pyNext_wide_item st.1 (c:=z.cps[i]) (by simp[hg']) fun h' hit' hs'=>?_
  have I1:Inv X pins σ H { s with heap:=h',toks:=s.toks+1 }:=I.turned (fun b o hb e=>hs'.extBut b o hb e) f0 f1 f3 f4 f5
  obtain⟨o,ho,hcl,hda⟩:=hit'
  refine⟨_,rfl,Ii (s:={ s with heap:=h',toks:=s.toks+1 }) (n:="str_iterator") ho hcl hda (by decide) ⟨.str ⟨#[z.cps[i]]⟩,H,I1,⟨_,rfl⟩,⟨rfl,_,by simp[hg'],rfl⟩,⟨⟨o,ho,hcl,hda⟩,hg'⟩,fun b hb=>(hf b hb).1⟩⟩
 done:=by
  intro X hP hw hK hc i pins s σ H E I hf st hg
  subst hP hw hK
  obtain⟨f0,f1,f2,f3,f4,f5⟩:=hf it (by simp)
  have hg':z.cps.size≤i:=hg
  exact wpAny_pyNext_wide_end (I.ok.hd hc) st.1 (by simp;omega) fun h' eb=>⟨rfl,I.turned (t':=s.toks) (fun b o hb e=>eb b o hb e) f0 f1 f3 f4 f5⟩
 self:=fun _ _ _ _ _ st h=>wpAny_pyIter_striter_wide st.1 h
section
variable{X:Cx}{tg:Expr}
noncomputable def amx(K:PySem.W.Frag)(tl:TE):TI:=fun σ H R=>tl σ H fun x H1=>(∃a,x = .ref a∧(∃xs,jY K H1 a xs)∧R (Itl K a) H1)∨(∃a,x = .ref a∧(∃xs,oM K H1 a xs)∧R (Itt K a) H1)∨∃z,x = .str z∧R (Its z) H1
theorem aaS{l:Expr}{tl:TE}(hl:PE X l tl):PI X tg l (amx X.K tl):=by
 intro pins s σ H R I h
 refine gw (hl pins s σ H _ I h) fun v s1 ⟨x,H1,I1,r1,q1⟩=>?_
 have own:∀b ∈ [s1.heap.objs.size],qp X pins H1 b:=fun b hb=>by
  have e:b=s1.heap.objs.size:=by simpa using hb
  subst e
  exact I1.Lp (Nat.le_refl _) (I1.hok.fresh (Nat.le_refl _))
 rcases q1 with ⟨a,e,⟨xs,hq⟩,q⟩|⟨a,e,⟨xs,hq⟩,q⟩|⟨z,e,q⟩
 ·subst e
  cases r1
  obtain⟨its,rv,p,hz⟩:=I1.list hq
  refine wpAny_pyIter_list p.isList ?_
  exact⟨s1.heap.objs.size,[s1.heap.objs.size],_,_,H1,rfl,I1.kept (t':=s1.toks) fun b o e=>Heap.get?_push_of_some _ e,Og a _,⟨_,Heap.get?_push_size _ rfl,rfl,rfl⟩,own,q⟩
 ·subst e
  cases r1
  obtain⟨its,rv,p,hz⟩:=I1.tuple hq
  refine wpAny_pyIter_tuple (show s1.heap.IsTuple a its.toArray from p) ?_
  exact⟨s1.heap.objs.size,[s1.heap.objs.size],_,_,H1,rfl,I1.kept (t':=s1.toks) fun b o e=>Heap.get?_push_of_some _ e,JM a _,⟨_,Heap.get?_push_size _ rfl,rfl,rfl⟩,own,q⟩
 ·subst e
  obtain⟨t,rfl⟩:=r1
  cases ha:z.cps.all (·< 128)
  ·exact wpAny_pyIter_wide ha ⟨s1.heap.objs.size,[s1.heap.objs.size],_,_,H1,rfl,I1.kept (t':=s1.toks) fun b o e=>Heap.get?_push_of_some _ e,Od _ z t,⟨⟨_,Heap.get?_push_size _ rfl,rfl,rfl⟩,Nat.zero_le _⟩,own,q⟩
  ·exact wpAny_pyIter_ascii ha ⟨s1.heap.objs.size,[s1.heap.objs.size],_,_,H1,rfl,I1.kept (t':=s1.toks) fun b o e=>Heap.get?_push_of_some _ e,Oe _ z t,⟨⟨_,Heap.get?_push_size _ rfl,rfl,rfl⟩,Nat.zero_le _⟩,own,q⟩
end
end L2
namespace Ev
open PySem PySem.Spec PyProof.Rows L2
section
variable{X:Cx}{C:Cfg}{pos:Pos}{tg:Expr}
noncomputable def Cu(x:List Nat):List D:=x.map fun c=>.str [c]
theorem JC{F:Hp}{a:Addr}{vs:List V}{ds:List D}(h:oM C.K F a vs)(p:bN C.K F ds vs):pU C.K F ds (Itt C.K a):=fun i H s=>by
 refine⟨fun _ e=>⟨vs,aO.tupK s h,by rw[p.length,e];exact Nat.le_refl _⟩,fun d hd=>?_⟩
 obtain⟨v,h1,h2⟩:=p.get hd
 refine⟨⟨vs,v,aO.tupK s h,h1⟩,fun x H' hy=>.inl ⟨hy.1,?_⟩⟩
 have:=hy.2 vs (aO.tupK s h)
 rw[h1] at this;cases this
 exact h2
theorem JD{F:Hp}{x:List Nat}:pU C.K F (Cu x) (Its (strOf x)):=fun i H s=>by
 refine⟨fun _ e=>?_,fun d hd=>?_⟩
 ·show x.toArray.size≤i
  rw[e];simp[Cu]
 ·unfold Cu at hd
  rw[List.getElem?_map] at hd
  obtain⟨c,hc,rfl⟩:=Option.map_eq_some_iff.mp hd
  refine⟨?_,fun v H' hy=>.inl ⟨hy.1,?_⟩⟩
  ·show i<x.toArray.size
   have:=(List.getElem?_eq_some_iff.mp hc).1
   simpa using this
  ·obtain⟨c',h1,rfl⟩:=hy.2
   have h2:x[i]? = some c':=by simpa[strOf] using h1
   rw[hc] at h2;cases h2
   exact⟨rfl,by show 1≤sizeLine;decide⟩
noncomputable def Zf:D→Option (List D)
 | .lst xs=>some xs
 | .arr xs=>some xs
 | .tup xs=>some xs
 | .str x=>some (Cu x)
 | _=>none
noncomputable def fG(a:Ev):cL:=fun env=>bindR (a env) fun d aG=>dY (Zf d) aG
theorem Wj{l:Expr}{a:Ev}(hK:X.K=C.K)(h:PX X C l a):GC X C tg l (fG a):=(aaS h).imp fun σ H R hq=>by
 obtain⟨Pr,F,env,env',ds,r,e,q⟩:=hq
 obtain⟨d,aG,e1,e2⟩:=aR e
 obtain⟨e3,rfl⟩:=eQ e2
 refine⟨Pr,F,env,env',d,r,e1,fun v H1 F1 r1 s1 p1=>?_⟩
 rw[hK]
 cases d with
 | lst xs=>
  cases e3
  obtain⟨z,a,vs,rfl,g1,g2⟩:=p1
  refine .inl ⟨a,rfl,⟨vs,jY.of (r1.fr _ _ g1)⟩,q _ H1 F1 r1 s1 fun i H s=>?_⟩
  refine⟨fun _ e=>⟨vs,jY.of (s _ _ g1),by rw[g2.length,e];exact Nat.le_refl _⟩,fun d hd=>?_⟩
  obtain⟨v,h1,h2⟩:=g2.get hd
  refine⟨⟨vs,v,jY.of (s _ _ g1),h1⟩,fun x H' hy=>.inl ⟨hy.1,?_⟩⟩
  have:=hy.2 vs (jY.of (s _ _ g1))
  rw[h1] at this;cases this
  exact h2
 | arr xs=>
  cases e3
  obtain⟨z,a,vs,rfl,g1,g2⟩:=p1
  refine .inl ⟨a,rfl,⟨vs,r1.fr.seq g1⟩,q _ H1 F1 r1 s1 fun i H s=>?_⟩
  refine⟨fun _ e=>⟨vs,s.seq g1,by rw[g2.length,e];exact Nat.le_refl _⟩,fun d hd=>?_⟩
  obtain⟨v,h1,h2⟩:=g2.get hd
  refine⟨⟨vs,v,s.seq g1,h1⟩,fun x H' hy=>.inl ⟨hy.1,?_⟩⟩
  have:=hy.2 vs (s.seq g1)
  rw[h1] at this;cases this
  exact h2
 | tup xs=>
  cases e3
  obtain⟨z,a,vs,rfl,g1,g2⟩:=p1
  exact .inr (.inl ⟨a,rfl,⟨vs,aO.tupK r1.fr g1⟩,q _ H1 F1 r1 s1 (JC g1 g2)⟩)
 | str x=>
  cases e3
  obtain⟨rfl,z⟩:=p1
  exact .inr (.inr ⟨_,rfl,q _ H1 F1 r1 s1 JD⟩)
 | _=>cases e3
noncomputable def fB(lo c:Int)(n:Nat):List D:=(List.range n).map fun(i:Nat)=>.int (lo+i*c)
theorem kW(lo c:Int)(n:Nat):(fB lo c n).length=n:=by simp[fB]
theorem z8{lo c:Int}{n i:Nat}{d:D}(h:(fB lo c n)[i]? = some d):i<n∧d = .int (lo+i*c):=by
 have hi:i<n:=by
  have:=(List.getElem?_eq_some_iff.mp h).1
  rwa [kW] at this
 refine⟨hi,?_⟩
 unfold fB at h
 rw[List.getElem?_map,List.getElem?_range hi] at h
 cases h;rfl
theorem zU{F:Hp}{lo:Int}{n:Nat}:pU C.K F (fB lo 1 n) (Itr lo n):=fun i H s=>by
 refine⟨fun _ e=>by show n≤i;rw[e,kW];exact Nat.le_refl _,fun d hd=>?_⟩
 obtain⟨hi,rfl⟩:=z8 hd
 refine⟨hi,fun x H' hy=>.inl ⟨hy.1,?_⟩⟩
 show x = .int _
 rw[Int.mul_one];exact hy.2
noncomputable def jz(j:Int):Bool:=decide (-(2^62)≤j)&&decide (j<2^62)
theorem uN{j:Int}(h:jz j=true) : -(2^62)≤j∧j<2^62:=by
 unfold jz at h
 rw[Bool.and_eq_true] at h
 exact⟨of_decide_eq_true h.1,of_decide_eq_true h.2⟩
noncomputable def xV:List D→Option (List D)
 | [.int j]=>if jz j=true then some (fB 0 1 j.toNat) else none
 | [.int i,.int j]=>if jz i=true∧jz j=true then some (fB i 1 (j - i).toNat) else none
 | [.int i,.int j,.int c]=>if c≠0∧c.natAbs<1073741824∧Builtin.Range.small i j c=true then some (fB i c (Builtin.Range.rangeSize i j c).toNat) else none
 | _=>none
noncomputable def d9(a:cL):cL:=fun env=>bindR (a env) fun ds aG=>dY (xV ds) aG
theorem bN.amw{F:Hp}{i:Int}{vs:List V}(h:bN C.K F [.int i] vs):vs=[.int i]:=by
 obtain⟨v,r,rfl,h1,h2⟩:=h
 cases h1;cases h2;rfl
theorem bN.amv{F:Hp}{i j:Int}{vs:List V}(h:bN C.K F [.int i,.int j] vs):vs=[.int i,.int j]:=by
 obtain⟨v,r,rfl,h1,v',r',rfl,h2,h3⟩:=h
 cases h1;cases h2;cases h3;rfl
theorem Kl{a:Expr}{ea:cL}{p pos:Pos}(hg:Gl X "range")(hm:X.mg "range" = none)(ha:Dg X C [a] ea)(hl:∀env ds env',ea env = .ok ds env'→ds.length=1)(hs:starEach [a] X.env=[(false,eval a X.env)]:=by rfl):GC X C tg (.Call (.Name "range" p) [a] [] pos) (d9 ea):=
 (Ph hg hm ha hs).imp fun σ H R hq=>by
  obtain⟨Pr,F,env,env',ds,r,e,q⟩:=hq
  obtain⟨as,aG,e1,e2⟩:=aR e
  obtain⟨e3,rfl⟩:=eQ e2
  refine⟨Pr,F,env,env',as,r,e1,fun vs H1 F1 r1 s1 p1=>?_⟩
  have:=hl _ _ _ e1
  unfold xV at e3
  split at e3
  ·split at e3
   ·rename_i hf
    cases e3
    have hb:=uN hf
    exact⟨_,p1.amw,hb.1,hb.2,q _ H1 F1 r1 s1 zU⟩
   ·cases e3
  ·simp at this
  ·simp at this
  ·cases e3
theorem Kh{a b:Expr}{ea:cL}{p pos:Pos}(hg:Gl X "range")(hm:X.mg "range" = none)(ha:Dg X C [a,b] ea)(hl:∀env ds env',ea env = .ok ds env'→ds.length=2)(hs:starEach [a,b] X.env=[(false,eval a X.env),(false,eval b X.env)]:=by rfl)(hs2:starEach [b] X.env=[(false,eval b X.env)]:=by rfl):GC X C tg (.Call (.Name "range" p) [a,b] [] pos) (d9 ea):=
 (Pg hg hm ha hs hs2).imp fun σ H R hq=>by
  obtain⟨Pr,F,env,env',ds,r,e,q⟩:=hq
  obtain⟨as,aG,e1,e2⟩:=aR e
  obtain⟨e3,rfl⟩:=eQ e2
  refine⟨Pr,F,env,env',as,r,e1,fun vs H1 F1 r1 s1 p1=>?_⟩
  have:=hl _ _ _ e1
  unfold xV at e3
  split at e3
  ·simp at this
  ·split at e3
   ·rename_i hf
    cases e3
    have hb:=uN hf.1
    have hb2:=uN hf.2
    exact⟨_,_,p1.amv,⟨hb.1,hb.2,hb2.1,hb2.2⟩,q _ H1 F1 r1 s1 zU⟩
   ·cases e3
  ·simp at this
  ·cases e3
theorem Qi(env:Env)(ds:List D)(env':Env)(h:ao env = .ok ds env'):ds.length=0:=by cases h;rfl
theorem Lq{a:Ev}{r:cL}{n:Nat}(hr:∀env ds env',r env = .ok ds env'→ds.length=n)(env:Env)(ds:List D)(env':Env)(h:aa a r env = .ok ds env'):ds.length=n+1:=by
 obtain⟨d,aG,e1,e2⟩:=aR h
 obtain⟨By,cQ,e3,e4⟩:=aR e2
 cases e4
 rw[List.length_cons,hr _ _ _ e3]
end
end Ev
namespace Ev
open PySem PySem.Spec PyProof.Rows L2
section
variable{X:Cx}{C:Cfg}{pos:Pos}
theorem bN.pN{F:Hp}{K:Fg}{ds:List D}{vs:List V}{k:Int}{d:D}(h:bN K F ds vs)(e:L2.pN ds k=some d):∃v,L2.pN vs k=some v∧Rep K F d v:=by
 unfold L2.pN at e ⊢
 rw[h.length]
 obtain⟨j,h1,h2⟩:=Option.bind_eq_some_iff.mp e
 obtain⟨v,h3,h4⟩:=h.get h2
 exact⟨v,by rw[h1];exact h3,h4⟩
noncomputable def cB:D→D→Option D
 | .lst xs,.int k=>pN xs k
 | .arr xs,.int k=>pN xs k
 | .tup xs,.int k=>pN xs k
 | .str x,.int k=>(pN x k).map fun c=>.str [c]
 | _,_=>none
theorem YZ:qu C (rIx C.K) cB:=by
 intro Pr F env σ H x y d vx vy Q r px py e q
 unfold cB at e
 split at e
 ·obtain⟨z,a,vs,rfl,h1,h2⟩:=px.lst r.fr
  cases py.int
  obtain⟨v,e1,p1⟩:=h2.pN e
  exact .inl ⟨a,vs,_,v,rfl,rfl,jY.of h1,e1,q _ _ F r (aO.refl F) p1⟩
 ·obtain⟨z,a,vs,rfl,h1,h2⟩:=px.arr r.fr
  cases py.int
  obtain⟨v,e1,p1⟩:=h2.pN e
  exact .inl ⟨a,vs,_,v,rfl,rfl,h1,e1,q _ _ F r (aO.refl F) p1⟩
 ·obtain⟨z,a,vs,rfl,h1,_,h2⟩:=px.tup r.fr
  cases py.int
  obtain⟨v,e1,p1⟩:=h2.pN e
  exact .inr (.inl ⟨a,vs,_,v,rfl,rfl,h1,e1,q _ _ F r (aO.refl F) p1⟩)
 ·obtain⟨rfl,z⟩:=px.str
  cases py.int
  obtain⟨c,e1,rfl⟩:=Option.map_eq_some_iff.mp e
  exact .inr (.inr ⟨_,_,c,rfl,rfl,by simpa[strOf,Str.length] using z,by simpa[strOf] using e1,q _ _ F r (aO.refl F) ⟨rfl,by show 1≤sizeLine;decide⟩⟩)
 ·cases e
theorem afz{x y:Expr}{a b:Ev}(hK:X.K=C.K)(ha:PX X C x a)(hb:Cg X C y b)(hs:rE y:=by intro _ _;rfl):PX X C (.Subscript x y pos) (aK cB a b):=by
 have h:=(YW (pos:=pos) TV ha hb hs)
 rw[hK] at h
 exact h.imp (Gq YZ)
theorem aaM{y:Expr}{b:Ev}{px:Pos}(i:Nat){x:Str}(hK:X.K=C.K)(hN:X.N[i]? = some x)(hv:uw X.env.scope x)(hb:Cg X C y b)(hs:rE y:=by intro _ _;rfl)
  (hd:(x == ("__debug__" : Str))=false:=by decide) (hcd:(x == ("__classdict__" : Str))=false:=by decide):PX X C (.Subscript (.Name x px) y pos) (au cB i b):=by
 have h:=(YW (pos:=pos) TV (mO (pos:=px) hN hv hd hcd) hb hs)
 rw[hK] at h
 exact h.imp (xx YZ)
noncomputable def cutD{α:Type}(xs:List α)(lo hi:Option Int):List α:=(xs.drop (HT.fj xs.length 0 lo)).take (HT.fj xs.length xs.length hi - HT.fj xs.length 0 lo)
theorem tY{α:Type}(xs:List α)(lo hi:Option Int):(cutD xs lo hi).length≤xs.length:=by
 unfold cutD
 rw[List.length_take,List.length_drop]
 omega
theorem bN.cut{F:Hp}{K:Fg}{ds:List D}{vs:List V}(h:bN K F ds vs)(lo hi:Option Int):bN K F (cutD ds lo hi) (zA vs lo hi):=by
 unfold cutD zA
 rw[h.length]
 exact bN.take _ (bN.drop _ h)
noncomputable abbrev zf:=Env→R (Option Int)
noncomputable def tP(C:Cfg)(ev:zf):TO:=fun σ H Q=>∃(Pr F:Hp) (env env':Env) (o:Option Int),Rel C Pr F env σ H∧ev env = .ok o env'∧∀H' F',Rel C Pr F' env' σ H'→aO F F'→Q o H'
noncomputable def Qy(X:Cx)(C:Cfg)(e:Option Expr)(ev:zf):Prop:=PO X e (tP C ev)
theorem _root_.L2.PO.imp{X:Cx}{e:Option Expr}{t t':TO}(h:PO X e t)(i:∀σ H Q,t' σ H Q→t σ H Q):PO X e t':=fun pins s σ H Q I q=>h pins s σ H Q I (i σ H Q q)
noncomputable def jV:zf:=fun env=>.ok none env
noncomputable def uJ(a:Ev):zf:=fun env=>bindR (a env) fun d aG=>match d with
 | .int i=>.ok (some i) aG
 | _=>.stuck
theorem j6:Qy X C none jV:=Ws.imp fun σ H Q h=>by
 obtain⟨Pr,F,env,env',d,r,e,q⟩:=h
 cases e
 exact q H F r (aO.refl F)
theorem iM{e:Expr}{a:Ev}(h:PX X C e a):Qy X C (some e) (uJ a):=(Wr h).imp fun σ H Q hq=>by
 obtain⟨Pr,F,env,env',o,r,e,q⟩:=hq
 obtain⟨d,aG,e1,e2⟩:=aR e
 refine⟨Pr,F,env,aG,d,r,e1,fun v H1 F1 r1 s1 p1=>?_⟩
 cases d with
 | int i=>cases e2;exact⟨i,p1,q H1 F1 r1 s1⟩
 | _=>cases e2
noncomputable def gSl:D→Option Int→Option Int→Option D
 | .lst xs,lo,hi=>some (.lst (cutD xs lo hi))
 | .arr xs,lo,hi=>some (.lst (cutD xs lo hi))
 | .tup xs,lo,hi=>if HT.fj xs.length 0 lo=0∧HT.fj xs.length xs.length hi=xs.length then none else some (.tup (cutD xs lo hi))
 | _,_,_=>none
noncomputable def vJ(a:Ev)(lo hi:zf):Ev:=fun env=>bindR (a env) fun d aG=>bindR (lo aG) fun l cQ=>bindR (hi cQ) fun u Bw=>dY (gSl d l u) Bw
theorem Ra{Pr F:Hp}{env:Env}{σ:L2.St}{H:Hp}{x d:D}{v:V}{lo hi:Option Int}{Q:VK}(r:Rel C Pr F env σ H)(p:jk C.K F H x v)(e:gSl x lo hi=some d)(q:∀v H' F',Rel C Pr F' env σ H'→aO F F'→Rep C.K F' d v→Q v H') :
  afi C.K v lo hi H Q∨aaG C.K v lo hi H Q:=by
 unfold gSl at e
 split at e
 ·cases e
  obtain⟨z,a,vs,rfl,h1,h2⟩:=p.lst r.fr
  refine .inl ⟨a,vs,rfl,jY.of h1,fun b hb=>?_⟩
  obtain⟨r2,s2⟩:=r.new (o:=.lst (zA vs lo hi)) hb
  exact q _ _ _ r2 s2 ⟨Nat.le_trans (tY _ _ _) z,b,_,rfl,aW,bN.mono s2 _ _ (h2.cut lo hi)⟩
 ·cases e
  obtain⟨z,a,vs,rfl,h1,h2⟩:=p.arr r.fr
  refine .inl ⟨a,vs,rfl,h1,fun b hb=>?_⟩
  obtain⟨r2,s2⟩:=r.new (o:=.lst (zA vs lo hi)) hb
  exact q _ _ _ r2 s2 ⟨Nat.le_trans (tY _ _ _) z,b,_,rfl,aW,bN.mono s2 _ _ (h2.cut lo hi)⟩
 ·obtain⟨z,a,vs,rfl,h1,_,h2⟩:=p.tup r.fr
  split at e
  ·cases e
  ·rename_i hn
   cases e
   refine .inr ⟨a,vs,rfl,h1,by rw[h2.length];exact hn,fun b hb=>?_⟩
   obtain⟨r2,s2⟩:=r.new (o:=.tup (zA vs lo hi)) hb
   exact q _ _ _ r2 s2 ⟨Nat.le_trans (tY _ _ _) z,b,_,rfl,oM.of aW,bN.mono s2 _ _ (h2.cut lo hi)⟩
 ·cases e
theorem afx{x:Expr}{lo hi:Option Expr}{a:Ev}{el eh:zf}{p2:Pos}(hK:X.K=C.K)(ha:PX X C x a)(hl:Qy X C lo el)(hh:Qy X C hi eh):PX X C (.Subscript x (.Slice lo hi none p2) pos) (vJ a el eh):=by
 have h:=wY (pos:=pos) (p2:=p2) (Mm.or Mv Ez) ha hl hh
 rw[hK] at h
 refine h.imp fun σ H Q hq=>?_
 obtain⟨Pr,F,env,env',d,r,e,q⟩:=hq
 obtain⟨x,aG,e1,e2⟩:=aR e
 obtain⟨l,cQ,e3,e4⟩:=aR e2
 obtain⟨u,Bw,e5,e6⟩:=aR e4
 obtain⟨e7,rfl⟩:=eQ e6
 refine⟨Pr,F,env,aG,x,r,e1,fun v H1 F1 r1 s1 p1=>⟨Pr,F1,aG,cQ,l,r1,e3,fun H2 F2 r2 s2=>⟨Pr,F2,cQ,env',u,r2,e5,fun H3 F3 r3 s3=>?_⟩⟩⟩
 exact Ra r3 (.inl (Rep.mono (s2.trans s3) _ _ p1)) e7 fun v H' F' r' s' p'=>q v H' F' r' (((s1.trans s2).trans s3).trans s') p'
noncomputable def qw(kvs:List (D×D))(q:Key):Option D:=match kvs with
 | []=>none
 | (k,d)::r=>if rM k=some q then some d else qw r q
noncomputable def zm(kvs:List (D×D))(q:Key)(d:D):List (D×D):=match kvs with
 | []=>[]
 | (k,e)::r=>(if rM k=some q then (k,d) else (k,e))::zm r q d
noncomputable def putD(kvs:List (D×D))(k:D)(q:Key)(d:D):List (D×D):=if (qw kvs q).isSome then zm kvs q d else kvs++[(k,d)]
theorem dC.length{K:Fg}{F:Hp}:∀{ds:List (D×D)} {vs:List (Key×V)},dC K F ds vs→vs.length=ds.length
 | [],_,h=>by cases h;rfl
 | (k,d)::ds,vs,h=>by
  obtain⟨q,v,r,rfl,_,_,h2⟩:=h
  rw[List.length_cons,List.length_cons,h2.length]
theorem dC.val{K:Fg}{F:Hp}(q:Key):∀{ds:List (D×D)} {vs:List (Key×V)},dC K F ds vs→(qw ds q=none∧wR vs q=none)∨∃d v,qw ds q=some d∧wR vs q=some v∧Rep K F d v
 | [],_,h=>by cases h;exact .inl ⟨rfl,rfl⟩
 | (k,d)::ds,vs,h=>by
  obtain⟨q',v,r,rfl,hk,h1,h2⟩:=h
  unfold qw
  by_cases e:q'=q
  ·subst e
   rw[if_pos hk]
   exact .inr ⟨d,v,rfl,wO rfl,h1⟩
  ·rw[if_neg (fun z=>e (Option.some.inj (hk.symm.trans z))),wQ (p:=(q',v)) e]
   exact dC.val q h2
theorem dC.set{K:Fg}{F:Hp}(q:Key){d:D}{v:V}(hd:Rep K F d v):∀{ds:List (D×D)} {vs:List (Key×V)},dC K F ds vs→dC K F (zm ds q d) (vs.map fun kv=>if kv.1=q then (kv.1,v) else kv)
 | [],_,h=>by cases h;exact rfl
 | (k,e)::ds,vs,h=>by
  obtain⟨q',u,r,rfl,hk,h1,h2⟩:=h
  unfold zm
  by_cases e':q'=q
  ·subst e'
   rw[if_pos hk]
   refine⟨q',v,_,?_,hk,hd,dC.set q' hd h2⟩
   rw[List.map_cons,if_pos rfl]
  ·rw[if_neg (fun z=>e' (Option.some.inj (hk.symm.trans z)))]
   refine⟨q',u,_,?_,hk,h1,dC.set q hd h2⟩
   rw[List.map_cons,if_neg e']
theorem dC.append{K:Fg}{F:Hp}:∀{ds es:List (D×D)} {vs ws:List (Key×V)},dC K F ds vs→dC K F es ws→dC K F (ds++es) (vs++ws)
 | [],es,vs,ws,h,g=>by cases h;exact g
 | (k,d)::ds,es,vs,ws,h,g=>by
  obtain⟨q,v,r,rfl,h0,h1,h2⟩:=h
  exact⟨q,v,r++ws,rfl,h0,h1,dC.append h2 g⟩
theorem G9(q:Key)(d:D):∀kvs:List (D×D),(zm kvs q d).length=kvs.length
 | []=>rfl
 | (k,e)::r=>by unfold zm;rw[List.length_cons,List.length_cons,G9 q d r]
theorem Ht(kvs:List (D×D))(k:D)(q:Key)(d:D):(putD kvs k q d).length≤kvs.length+1:=by
 unfold putD
 split
 ·rw[G9];omega
 ·rw[List.length_append];exact Nat.le_refl _
theorem dC.put{K:Fg}{F:Hp}{ds:List (D×D)}{vs:List (Key×V)}{k:D}{q:Key}{d:D}{v:V}(h:dC K F ds vs)(hk:rM k=some q)(hd:Rep K F d v):dC K F (putD ds k q d) (putK vs q v):=by
 unfold putD putK
 rw[z6]
 rcases h.val q with ⟨e1,e2⟩|⟨d',v',e1,e2,_⟩
 ·rw[e1,e2]
  exact h.append ⟨q,v,[],rfl,hk,hd,rfl⟩
 ·rw[e1,e2]
  exact dC.set q hd h
theorem S8{K:Fg}{F:Hp}{k:D}{q:Key}{v:V}(h:rM k=some q)(p:Rep K F k v):v=kV q:=by
 cases k with
 | int i=>cases h;exact p
 | str x=>cases h;exact p.1
 | _=>cases h
theorem S9{K:Fg}{F H:Hp}{k:D}{q:Key}{v:V}(h:rM k=some q)(p:jk K F H k v):v=kV q:=by
 cases k with
 | int i=>cases h;exact p.int
 | str x=>cases h;exact p.str.1
 | _=>cases h
theorem jk.dct{K:Fg}{F H:Hp}{kvs:List (D×D)}{v:V}(s:aO F H)(h:jk K F H (.dct kvs) v):kvs.length≤sizeLine∧∃a ks,v = .ref a∧Rd H a (.dK ks)∧dC K F kvs ks:=by
 rcases h with ⟨z,a,vs,rfl,h1,h2⟩|⟨a,rfl,z,vs,h1,h2⟩
 ·exact⟨z,a,vs,rfl,aO.rd s h1,h2⟩
 ·exact⟨z,a,vs,rfl,.inl h1,h2⟩
noncomputable def YK:R2:=fun x y H Q=>∃a v,x = .ref a∧QB H a y (some v)∧Q v H
noncomputable def iY:D→D→Option D
 | .dct kvs,k=>(rM k).bind fun q=>qw kvs q
 | _,_=>none
theorem WW:qu C YK iY:=by
 intro Pr F env σ H x y d vx vy Q r px py e q
 unfold iY at e
 split at e
 ·obtain⟨z,a,ks,rfl,h1,h2⟩:=px.dct r.fr
  obtain⟨k,hk,hv⟩:=Option.bind_eq_some_iff.mp e
  cases S9 hk py
  rcases h2.val k with ⟨e1,_⟩|⟨d',v',e1,e2,p2⟩
  ·rw[e1] at hv;cases hv
  ·rw[e1] at hv;cases hv
   exact⟨a,v',rfl,.inl ⟨ks,k,h1,rfl,e2.symm⟩,q _ _ F r (aO.refl F) p2⟩
 ·cases e
theorem Rr{y:Expr}{b:Ev}{px:Pos}(i:Nat){x:Str}(hu:X.A.units+1<cLine)(hN:X.N[i]? = some x)(hv:uw X.env.scope x)(hb:Cg X C y b)(hs:Vh y:=by intro _ _;rfl)
  (hd:(x == ("__debug__" : Str))=false:=by decide) (hcd:(x == ("__classdict__" : Str))=false:=by decide):PX X C (.Subscript (.Name x px) y pos) (au iY i b):=by
 have h:PE X (.Subscript (.Name x px) y pos) (tOp YK _ _):=WD (pos:=pos) hu (mO (pos:=px) hN hv hd hcd) hb hs
 exact h.imp (xx WW)
noncomputable def Bt:Ev:=fun env=>.ok (.dct []) env
theorem Aj:Jy X C (.Dict [] [] pos) Bt:=RQ.imp fun σ H Q hq=>by
 obtain⟨Pr,F,env,env',d,r,e,q⟩:=hq
 cases e
 exact fun p hp=>q _ _ F (r.fresh hp) (aO.refl F) (QC.of r hp ⟨Nat.zero_le _,[],aW,rfl⟩)
noncomputable def o5(i:Nat)(k a:Ev):bQ:=fun env=>dW (a env) fun d aG=>match aG[i]? with
 | some (some (_,_))=>dW (k aG) fun kd cQ=>(match cQ[i]?,rM kd with
  | some (some (true,.dct kvs)),some q=>if kvs.length<sizeLine then .nx (cQ.set i (some (true,.dct (putD kvs kd q d)))) else .stuck
  | _,_=>.stuck)
 | _=>.stuck
theorem Rp{i:Nat}{x:Str}{k e:Expr}{ek a:Ev}{px pos':Pos}(hu:X.A.units+1<cLine)(hN:X.N[i]? = some x)(hv:uw X.env.scope x)(hk:PX X C k ek)(he:PX X C e a)
  (hs:swapsWith e (some (.Subscript (.Name x px) k pos')) pos.line X.env=pure false:=by rfl)
  (hd:(x == ("__debug__" : Str))=false:=by decide) (hcd:(x == ("__classdict__" : Str))=false:=by decide):Ce X C (.Assign [.Subscript (.Name x px) k pos'] e pos) (o5 i ek a):=
 (Wq hu (mO hN hv hd hcd) hk he hs).imp fun D σ H h=>by
  obtain⟨Pr,F,env,r,f⟩:=h
  obtain⟨d,aG,e1,f1⟩:=dU f
  refine⟨Pr,F,env,aG,d,r,e1,fun v H1 F1 r1 s1 p1=>?_⟩
  split at f1
  ·rename_i o0 d0 h0
   obtain⟨v0,hv0,_⟩:=r1.rd h0
   obtain⟨kd,cQ,e2,f2⟩:=dU f1
   refine⟨v0,hv0,Pr,F1,aG,cQ,kd,r1,e2,fun vk H2 F2 r2 s2 p2=>?_⟩
   split at f2
   ·rename_i kvs q h2 hq
    split at f2
    ·rename_i hz
     obtain⟨b,g1,⟨z,ks,g2,g3⟩,g4,g5⟩:=r2.own i _ h2
     rw[hv0] at g1;cases g1
     have hz':ks.length<sizeLine:=by rw[g3.length];exact hz
     cases S8 hq p2
     refine⟨b,_,rfl,Vi.k g2 hz',?_⟩
     refine f2 σ _ F2 (r2.write h2 hv0 ⟨Nat.le_trans (Ht _ _ _ _) hz,_,aW,g3.put hq (Rep.mono s2 _ _ p1)⟩) (s1.trans s2)
    ·exact f2.elim
   ·exact f2.elim
  ·exact f1.elim
noncomputable def Qa(x:List Nat):List (List Nat)→List (List Nat)
 | []=>[x]
 | y::r=>if y<x then y::Qa x r else x::y::r
noncomputable def jo:List (List Nat)→List (List Nat)
 | []=>[]
 | x::r=>Qa x (jo r)
theorem yC(x:List Nat):∀l,(Qa x l).Perm (x::l)
 | []=>.refl _
 | y::r=>by
  unfold Qa
  split
  ·exact((yC x r).cons y).trans (.swap x y r)
  ·exact .refl _
theorem iK:∀l,(jo l).Perm l
 | []=>.refl _
 | x::r=>(yC x (jo r)).trans ((iK r).cons x)
theorem yZ(x:List Nat):∀l,l.Pairwise (fun a b=>a≤b)→(Qa x l).Pairwise (fun a b=>a≤b)
 | [],_=>List.pairwise_singleton _ _
 | y::r,h=>by
  unfold Qa
  have h1:=List.pairwise_cons.mp h
  split
  ·rename_i hyx
   refine List.pairwise_cons.mpr ⟨fun z hz=>?_,yZ x r h1.2⟩
   rcases List.mem_cons.mp ((yC x r).mem_iff.mp hz) with rfl|hz
   ·exact List.le_of_lt hyx
   ·exact h1.1 z hz
  ·rename_i hyx
   have hxy:x≤y:=List.not_lt.mp hyx
   refine List.pairwise_cons.mpr ⟨fun z hz=>?_,h⟩
   rcases List.mem_cons.mp hz with rfl|hz
   ·exact hxy
   ·exact List.le_trans hxy (h1.1 z hz)
theorem wU:∀l,(jo l).Pairwise (fun a b=>a≤b)
 | []=>.nil
 | x::r=>yZ x _ (wU r)
theorem Dm:∀(p:Str) (l:List Str),risingS p l=true→(p::l).Pairwise (fun a b=>a.cps.toList≤b.cps.toList)
 | p,[],_=>List.pairwise_singleton _ _
 | p,x::r,h=>by
  have h':(!Spec.ltCps x.cps.toList p.cps.toList&&risingS x r)=true:=h
  rw[Bool.and_eq_true,PyProof.Rows.ltCps_eq] at h'
  have hxp:¬x.cps.toList<p.cps.toList:=by
   have:=h'.1
   simpa using this
  have ih:=Dm x r h'.2
  refine List.pairwise_cons.mpr ⟨fun z hz=>?_,ih⟩
  have hpx:p.cps.toList≤x.cps.toList:=List.not_lt.mp hxp
  rcases List.mem_cons.mp hz with rfl|hz
  ·exact hpx
  ·exact List.le_trans hpx ((List.pairwise_cons.mp ih).1 z hz)
theorem Ot:∀(l:List Str),sortedS l=true→l.Pairwise (fun a b=>a.cps.toList≤b.cps.toList)
 | [],_=>.nil
 | x::r,h=>Dm x r h
theorem Om(s:Str):strOf s.cps.toList=s:=by
 obtain⟨c⟩:=s
 simp[strOf]
theorem Ex{xs:List (List Nat)}{ss ss':List Str}(e:ss=xs.map strOf)(hp:ss'.Perm ss)(hs:sortedS ss'=true):ss'=(jo xs).map strOf:=by
 subst e
 have h1:(ss'.map fun s=>s.cps.toList).Perm xs:=by
  have:=hp.map (fun s:Str=>s.cps.toList)
  rw[List.map_map] at this
  have e2:xs.map ((fun s:Str=>s.cps.toList) ∘ strOf)=xs:=by
   rw[List.map_congr_left (g:=id) (fun x _=>by simp[strOf])];simp
  rwa [e2] at this
 have h2:(ss'.map fun s=>s.cps.toList)=jo xs:=by
  refine List.Perm.eq_of_pairwise (le:=fun a b=>a≤b) (fun a b _ _=>List.le_antisymm) ?_ (wU xs) (h1.trans (iK xs).symm)
  exact List.pairwise_map.mpr (Ot ss' hs)
 rw[←h2,List.map_map]
 have e3:∀l:List Str,l.map (strOf ∘ fun s=>s.cps.toList)=l:=fun l=>by
  induction l with
  | nil=>rfl
  | cons a r ih=>rw[List.map_cons,ih];show strOf a.cps.toList::r=a::r;rw[Om]
 exact(e3 ss').symm
theorem wN:∀{us:List Value} {ss:List Str},StrsAre us ss→Vals (ss.map V.str) us
 | _,_,.nil=>.nil
 | _,_,.cons y t h=>.cons ⟨t,rfl⟩ (wN h)
theorem wX{K:Fg}{F:Hp}:∀(xs:List (List Nat)),(∀x∈xs,x.length≤sizeLine)→bN K F (xs.map D.str) (xs.map fun z=>V.str (strOf z))
 | [],_=>rfl
 | x::xs,h=>⟨_,_,rfl,⟨rfl,h x (List.mem_cons_self ..)⟩,wX xs fun y hy=>h y (List.mem_cons_of_mem _ hy)⟩
noncomputable def Fq(K:Fg):List V→Hp→VK→Prop:=fun xs H Q=>∃p zs,xs=[.ref p]∧(jY K H p (zs.map fun z=>V.str (strOf z))∨∃ks,Rd H p (.dK ks)∧ks.map (·.1)=zs.map fun z=>Sum.inr (strOf z))∧zs.length<64∧∀l,H l=none→Q (.ref l) (upd H l (.lst ((jo zs).map fun z=>V.str (strOf z))))
theorem G7{pins:List (Addr×Obj)}{s:Shared}{σ:L2.St}{H:Hp}{Q:VK}{zs:List (List Nat)}{out:Array Value}{ss':List Str}{a:Addr}{e:Nat}{h':Heap}{tk:Nat}(I:Inv X pins σ H s)(hz:zs.length<64)(q:∀l,H l=none→Q (.ref l) (upd H l (.lst ((jo zs).map fun z=>V.str (strOf z)))))
  (a1:StrsAre out.toList ss') (a2:ss'.Perm (zs.map strOf)) (a3:sortedS ss'=true) (hk:∀b o,s.heap.get? b=some o→h'.get? b=some o) (ha:s.heap.objs.size≤a) (ho:h'.get? a=some (seqObj "list" out e)):EP X pins σ Q (.ref a) { s with heap:=h',toks:=tk }:=by
 have e1:=Ex rfl a2 a3
 subst e1
 have rv:=wN a1
 rw[List.map_map] at rv
 have hl:((jo zs).map fun z=>V.str (strOf z)).length≤sizeLine:=by
  rw[List.length_map,(iK zs).length_eq]
  exact Nat.le_trans (Nat.le_of_lt hz) (by decide)
 exact⟨.ref a,_,I.laid (t':=tk) hk ha (show ik X.prog X.w _ h' a (.lst ((jo zs).map fun z=>V.str (strOf z))) from⟨hl,out.toList,e,rv,by simpa[seqObj] using ho⟩),rfl,q a (I.hok.fresh ha)⟩
theorem Jj(hc:X.calm=true):jZ X (.builtin "sorted") (Fq X.K):=by
 intro pins s σ H xs us Q I r h
 obtain⟨p,zs,rfl,hq,hz,q⟩:=h
 obtain⟨u,rfl,rx⟩:=vals1 r
 cases rx
 rcases hq with hq|⟨ks,hq,hks⟩
 ·obtain⟨its,r',pl,hzz⟩:=I.list hq
  have hS:StrsAre its (zs.map strOf):=xG r'
  refine sorted_strs pl.isList hS (by rw[←r'.length,List.length_map];exact hz) fun out ss' a1 a2 a3=>?_
  obtain⟨e,he⟩:=sortedAll_at s.heap its out
  exact G7 (tk:=s.toks) I hz q a1 a2 a3 (fun b o e=>sortedAll_old e) (Nat.le_succ _) he
 ·obtain⟨hz2,hsys,vs,rkv,hD⟩:=Jb I.hok hq
  obtain⟨ep,hat⟩:=hD.dictAt
  have hlen:vs.length=zs.length:=by
   have e1:=rkv.length
   have e2:=congrArg List.length hks
   rw[List.length_map,List.length_map] at e2
   omega
  refine Calls.call_function_entry kind_sorted plain_sorted entry_sorted (args_sorted1 _) ?_
  unfold Builtin.«sorted»
  refine wpAny_bind (m:=checkCount "sorted" 1 1 _) (wpAny_pure ?_)
  refine wpAny_bind (PySem.W.kdu_collect (A:=X.A.in1) (PySem.W.kdl_dict (knd:=d7 X.prog X.w) (kvs:=vs) (ep:=ep) hsys) (I.ok.hd hc) hat (by rw[hlen];exact Nat.le_trans (Nat.le_of_lt hz) (by decide)) fun h' tk acc hk hacc=>?_)
  have hl:acc.toList.length=vs.length:=by rw[Array.length_toList];exact hacc.1
  have hS:StrsAre acc.toList (zs.map strOf):=by
   have keys:∀j:Nat,j<vs.length→∃v t,acc.toList[j]? = some v∧v=Value.str (strOf (zs.getD j [])) t:=fun j hj=>by
    have hja:j<acc.size:=by rw[hacc.1];exact hj
    have e1:acc[j]? = some acc[j]:=by simp[hja]
    obtain⟨k,x,hx,hkx⟩:=hacc.2 j _ e1
    have e2:(vs.map (·.1))[j]? = some k:=by rw[List.getElem?_map,hx];rfl
    rw[←rkv.keys,hks,List.getElem?_map] at e2
    obtain⟨z,hzj,rfl⟩:=Option.map_eq_some_iff.mp e2
    rcases d8 (k:=Sum.inr (strOf z)) (v:=acc[j]) hkx with ⟨i,t,z1,_⟩|⟨y,t,z1,z2⟩
    ·cases z1
    ·cases z1
     exact⟨_,t,by rw[Array.getElem?_toList];exact e1,by rw[z2,List.getD_eq_getElem?_getD,hzj];rfl⟩
   have build:∀(us:List Value) (ys:List (List Nat)),us.length=ys.length→(∀j:Nat,j<us.length→∃v t,us[j]? = some v∧v=Value.str (strOf (ys.getD j [])) t)→StrsAre us (ys.map strOf):=fun us=>by
    induction us with
    | nil=>intro ys hl _;cases ys with
     | nil=>exact .nil
     | cons _ _=>cases hl
    | cons u us ih=>intro ys hl hk;cases ys with
     | nil=>cases hl
     | cons y ys=>
      obtain⟨v,t,e1,e2⟩:=hk 0 (Nat.succ_pos _)
      cases e1
      rw[e2]
      exact .cons _ t (ih ys (by simpa using hl) fun j hj=>by
       obtain⟨v,t,e1,e2⟩:=hk (j+1) (by simpa using hj)
       exact⟨v,t,by simpa using e1,by simpa using e2⟩)
   exact build _ _ (by rw[hl,hlen]) fun j hj=>keys j (by rw[←hl];exact hj)
  refine wpAny_bind (wpAny_newList ?_ (by rw[hl,hlen];exact Nat.le_trans (Nat.le_of_lt hz) (by decide)))
  have hoL:(h'.push (seqObj "list" acc.toList.toArray 0)).get? h'.objs.size=some (seqObj "list" acc.toList.toArray 0):=Heap.get?_push_size _ rfl
  show wpAny _ _ _ _ _ { s with heap:=h'.push (seqObj "list" acc.toList.toArray 0),toks:=tk }
  refine wpAny_bind (wpAny_holding (wpAny_call_entry slot_list_sort ⟨_,hoL,rfl⟩ entry_list_sort (list_sort_treeK strKind_oneLt hoL hS.keysOf (fun v₁ v₂ rest e=>keyKind_strs (by rw[←e];exact hS)) (by rw[hl,hlen];exact hz) fun st' b1 b2=>⟨_,rfl,?_⟩) (args_list_sort _)))
  obtain⟨ss',a1,a2,a3⟩:=sorted_out_str hS b1 b2
  obtain⟨e,he⟩:=sortedHeap_at (out:=(arrOf st').map (·.2)) hoL
  refine wpAny_pure ⟨_,rfl,?_⟩
  have I1:L2.Inv X pins σ H { s with heap:=h',toks:=tk }:=I.kept hk
  refine G7 (s:={ s with heap:=h',toks:=tk }) (tk:=tk) I1 hz q a1 a2 a3 (fun b o e=>?_) (Nat.le_refl _) he
  have lt':=Heap.lt_size e
  rw[sortedHeap_old (Nat.ne_of_lt lt') (by rw[size_push'];exact Nat.lt_succ_of_lt lt')]
  exact Heap.get?_push_of_some _ e
noncomputable def iH:List D→Option D
 | [.lst ds]=>(jl ds).bind fun zs=>if zs.length<64∧(∀z∈zs,z.length≤sizeLine) then some (.lst ((jo zs).map .str)) else none
 | [.dct kvs]=>(jl (kvs.map (·.1))).bind fun zs=>if zs.length<64∧(∀z∈zs,z.length≤sizeLine) then some (.lst ((jo zs).map .str)) else none
 | _=>none
theorem dC.keys{K:Fg}{F:Hp}:∀{kvs:List (D×D)} {ks:List (Key×V)} {zs:List (List Nat)},dC K F kvs ks→jl (kvs.map (·.1))=some zs→ks.map (·.1)=zs.map fun z=>Sum.inr (strOf z)
 | [],ks,zs,h,e=>by cases h;simp[jl] at e;subst e;rfl
 | (k,d)::kvs,ks,zs,h,e=>by
  obtain⟨q,v,r,rfl,h0,h1,h2⟩:=h
  cases k with
  | str x=>
   cases h0
   have e':(jl (kvs.map (·.1))).map (x :: ·)=some zs:=by simpa[jl] using e
   obtain⟨zs',e1,rfl⟩:=Option.map_eq_some_iff.mp e'
   rw[List.map_cons,List.map_cons,dC.keys h2 e1]
  | _=>simp[jl] at e
theorem J7{Pr F:Hp}{env:Env}{σ:L2.St}{H:Hp}{l:Addr}{zs:List (List Nat)}(r:Rel C Pr F env σ H)(hl:H l=none)(hz:zs.length<64∧∀z∈zs,z.length≤sizeLine) :
  mL C.K F (upd H l (.lst ((jo zs).map fun z=>V.str (strOf z)))) (.lst ((jo zs).map .str)) l:=by
 refine⟨by rw[List.length_map,(iK zs).length_eq];exact Nat.le_trans (Nat.le_of_lt hz.1) (by decide),_,aW,wX _ fun z h=>hz.2 z ((iK zs).mem_iff.mp h)⟩
theorem Qs:CallD C (Fq C.K) iH:=by
 intro Pr F env σ H ds d vs Q r p e q
 have fin:∀(zs:List (List Nat)) (l:Addr),(zs.length<64∧∀z∈zs,z.length≤sizeLine)→d = .lst ((jo zs).map .str)→H l=none→Q (.ref l) (upd H l (.lst ((jo zs).map fun z=>V.str (strOf z)))):=fun zs l hz hd hl=>by
  subst hd
  obtain⟨F2,r2,s2,p2⟩:=(r.fresh (o:=.lst ((jo zs).map fun z=>V.str (strOf z))) hl).keep (QC.of r hl (J7 r hl hz))
  exact q _ _ F2 r2 s2 p2
 unfold iH at e
 split at e
 ·obtain⟨v,w,rfl,p1,p2⟩:=p
  cases p2
  obtain⟨zs,e1,e2⟩:=Option.bind_eq_some_iff.mp e
  split at e2
  ·rename_i hz
   cases e2
   obtain⟨z,a,ws,rfl,h1,h2⟩:=p1.lst r.fr
   have e6:=xW e1 h2
   subst e6
   exact⟨a,zs,rfl,.inl (jY.of h1),hz.1,fun l hl=>fin zs l hz rfl hl⟩
  ·cases e2
 ·obtain⟨v,w,rfl,p1,p2⟩:=p
  cases p2
  obtain⟨zs,e1,e2⟩:=Option.bind_eq_some_iff.mp e
  split at e2
  ·rename_i hz
   cases e2
   obtain⟨z,a,ks,rfl,h1,h2⟩:=p1.dct r.fr
   exact⟨a,zs,rfl,.inr ⟨ks,h1,h2.keys e1⟩,hz.1,fun l hl=>fin zs l hz rfl hl⟩
  ·cases e2
 ·cases e
theorem O7{p:Pos}{e:Expr}{a:cL}(hK:X.K=C.K)(hc:X.calm=true)(hg:Gl X "sorted")(hm:X.mg "sorted" = none)(ha:wG X C [e] a)(he:starEach [e] X.env=(false,eval e X.env)::starEach [] X.env:=by rfl)(hpl:(backTo pos (starEach [] X.env)).any (·.1)=false:=by rfl) :
  PX X C (.Call (.Name "sorted" p) [e] [] pos) (az iH a):=
 rT (X:=X) (r:=Fq C.K) (by rw[←hK];exact Jj hc) Qs hg hm PyProof.Rows.boot_sorted ha (by decide) (by decide) he hpl
end
end Ev
namespace Ev
open PySem PySem.Spec PyProof.Rows L2
theorem Rel.pad{C:Cfg}{Pr F:Hp}{env:Env}{σ:L2.St}{H:Hp}(m:Nat)(r:Rel C Pr F env σ H):Rel C Pr F (env++List.replicate m none) (rZ m σ) H:=by
 have un:∀(j:Nat) (x:Bool×D),(env++List.replicate m none)[j]? = some (some x)→env[j]? = some (some x):=fun j x he=>by
  by_cases hj:j<env.length
  ·rwa [List.getElem?_append_left hj] at he
  ·rw[List.getElem?_append_right (by omega),List.getElem?_replicate] at he
   split at he<;>cases he
 have up:∀(j:Nat) (v:V),σ[j]? = some (some v)→(rZ m σ)[j]? = some (some v):=fun j v h=>by
  unfold rZ
  rw[List.getElem?_append_left (List.getElem?_eq_some_iff.mp h).1];exact h
 have dn:∀(j:Nat) (v:V),(rZ m σ)[j]? = some (some v)→σ[j]? = some (some v):=fun j v he=>by
  unfold rZ at he
  by_cases hj:j<σ.length
  ·rwa [List.getElem?_append_left hj] at he
  ·rw[List.getElem?_append_right (by omega),List.getElem?_replicate] at he
   split at he<;>cases he
 refine⟨r.pr,r.fr,by unfold rZ;rw[List.length_append,List.length_append,List.length_replicate,List.length_replicate,r.len],fun j e he=>?_,fun j e he=>?_,fun j k e f b hj hk g1 g2=>r.apart j k e f b (un _ _ hj) (un _ _ hk) (dn _ _ g1) (dn _ _ g2),r.dj,fun j a h=>up _ _ (r.fix j a h)⟩
 ·obtain⟨v,h1,h2⟩:=r.val j e (un _ _ he)
  exact⟨v,up _ _ h1,h2⟩
 ·obtain⟨a,h1,h2⟩:=r.own j e (un _ _ he)
  exact⟨a,up _ _ h1,h2⟩
theorem Rel.cut{C:Cfg}{Pr F:Hp}{env:Env}{σ σ0:L2.St}{H:Hp}(r:Rel C Pr F env σ H)(h:σ.take σ0.length=σ0)(fix:∀i a,C.fx i=some a→σ0[i]? = some (some (V.ref a))):Rel C Pr F (env.take σ0.length) σ0 H:=by
 have hl:σ0.length≤σ.length:=by
  have:=congrArg List.length h
  rw[List.length_take] at this
  omega
 have un:∀(j:Nat) (x:Bool×D),(env.take σ0.length)[j]? = some (some x)→env[j]? = some (some x)∧j<σ0.length:=fun j x he=>by
  have hj:j<σ0.length:=by
   have:=(List.getElem?_eq_some_iff.mp he).1
   rw[List.length_take] at this
   omega
  rw[List.getElem?_take_of_lt hj] at he
  exact⟨he,hj⟩
 have dn:∀(j:Nat),j<σ0.length→σ[j]? = σ0[j]?:=fun j hj=>by
  have:=List.getElem?_take_of_lt (l:=σ) hj
  rw[h] at this
  exact this.symm
 refine⟨r.pr,r.fr,by rw[List.length_take,r.len];omega,fun j e he=>?_,fun j e he=>?_,fun j k e f b hj hk g1 g2=>r.apart j k e f b (un _ _ hj).1 (un _ _ hk).1 (by rw[dn _ (un _ _ hj).2];exact g1) (by rw[dn _ (un _ _ hk).2];exact g2),r.dj,fix⟩
 ·obtain⟨e1,e2⟩:=un _ _ he
  rw[←dn j e2]
  exact r.val j e e1
 ·obtain⟨e1,e2⟩:=un _ _ he
  rw[←dn j e2]
  exact r.own j e e1
noncomputable def wH(g:GV)(c:dG)(e:Ev):List D→Env→R (List D)
 | [],env=>.ok [] env
 | d::ds,env=>(match g d env with
  | none=>.stuck
  | some e1=>bindR (c e1) fun b e2=>if b=true then bindR (e e2) fun y e3=>bindR (wH g c e ds e3) fun ys e4=>.ok (y::ys) e4 else wH g c e ds e2)
noncomputable def fD(lo n:Nat)(it:cL)(g:GV)(c:dG)(e:Ev):Ev:=fun env=>bindR (it env) fun ds aG=>if aG.length=lo then bindR (wH g c e ds (aG++List.replicate (n - lo) none)) fun ys cQ=>(if ys.length≤sizeLine then .ok (.lst ys) (cQ.take lo) else .stuck) else .stuck
noncomputable def Jq(X:Cx)(C:Cfg)(ifs:List Expr)(ev:dG):Prop:=Z6 X ifs (tT C ev)
noncomputable def cD:dG:=fun env=>.ok true env
theorem dX{X:Cx}{C:Cfg}:Jq X C [] cD:=fun pins s σ H Q I h=>by
 obtain⟨Pr,F,env,env',b,r,e,q⟩:=h
 cases e
 exact Wv pins s σ H Q I (q H F r (aO.refl F))
theorem jt{X:Cx}{C:Cfg}{c:Expr}{t:dG}(h:Oa X C c t):Jq X C [c] t:=Wu h
theorem Y5{C:Cfg}{lo n:Nat}{it:cL}{g:GV}{c:dG}{e:Ev}{σ:L2.St}{H:Hp}{Q:VK}(h:tN C (fD lo n it g c e) σ H Q):tLC n (tI C it) (tG C lo g) (tT C c) (tE C e) σ H Q:=by
 obtain⟨Pr,F,env,env',d,r,ev,q⟩:=h
 obtain⟨ds,aG,e1,e2⟩:=aR ev
 split at e2
 ·rename_i hlo
  obtain⟨ys,cQ,e3,e4⟩:=aR e2
  split at e4
  ·rename_i hz
   cases e4
   refine⟨Pr,F,env,aG,ds,r,e1,fun J H1 F1 r1 s1 y1 a ha=>?_⟩
   have hσ:σ.length=lo:=r1.len.symm.trans hlo
   have hPa:Pr a=none:=r1.pr.free ha
   refine⟨fun i m σ' H'=>m=ds.length - i∧i≤ds.length∧∃F' oE acc ws rest,Rel C (upd Pr a (.lst ws)) F' oE σ' H'∧aO F1 F'∧bN C.K F' acc ws∧σ'.take lo=σ∧wH g c e (ds.drop i) oE = .ok rest cQ∧acc++rest=ys,
    ⟨ds.length,rfl,Nat.zero_le _,F1,aG++List.replicate (n - lo) none,[],[],ys,?_,aO.refl _,rfl,?_,e3,rfl⟩,?_⟩
   ·rw[hσ];exact(r1.aside (o:=.lst []) ha).pad _
   ·unfold rZ
    rw[←hσ,List.take_left]
   rintro i m σ' H' ⟨rfl,hi,F',oE,acc,ws,rest,r',s',p',t',l',hacc⟩
   have hFa:F' a=none:=by
    cases ez:F' a with
    | none=>rfl
    | some w=>have:=r'.dj a w ez;rw[aW] at this;cases this
   by_cases hl:i<ds.length
   ·have hd:ds[i]? = some ds[i]:=List.getElem?_eq_getElem hl
    have hdr:ds.drop i=ds[i]::ds.drop (i+1):=List.drop_eq_getElem_cons hl
    have yy:=y1 i H' (s'.trans r'.fr)
    refine .inr ⟨(yy.2 _ hd).1,fun σ2 H2=>∃F' oE acc ws rest,Rel C (upd Pr a (.lst ws)) F' oE σ2 H2∧aO F1 F'∧bN C.K F' acc ws∧σ2.take lo=σ∧wH g c e (ds.drop (i+1)) oE = .ok rest cQ∧acc++rest=ys,
     fun σ2 H2 h2=>⟨ds.length - (i+1),by omega,rfl,hl,h2⟩,fun x H2 hy=>?_⟩
    obtain⟨F2,r2,s2,p2⟩:=pU.item r' s' y1 hd hy
    rw[hdr] at l'
    unfold wH at l'
    cases eg:g ds[i] oE with
    | none=>rw[eg] at l';cases l'
    | some e5=>
     rw[eg] at l'
     obtain⟨b,e6,c1,l2⟩:=aR l'
     refine⟨_,F2,oE,e5,ds[i],r2,p2,eg,fun σ3 H3 F3 r3 s3 t3=>⟨_,F3,e5,e6,b,r3,c1,fun H4 F4 r4 s4=>?_⟩⟩
     have t3':σ3.take lo=σ:=t3.trans t'
     have s24:aO F' F4:=(s2.trans s3).trans s4
     cases b with
     | false=>
      show if false=true then _ else _
      rw[if_neg Bool.false_ne_true]
      rw[if_neg Bool.false_ne_true] at l2
      exact⟨F4,e6,acc,ws,rest,r4,s'.trans s24,bN.mono s24 _ _ p',t3',l2,hacc⟩
     | true=>
      show if true=true then _ else _
      rw[if_pos rfl]
      rw[if_pos rfl] at l2
      obtain⟨y,e7,c2,l3⟩:=aR l2
      obtain⟨ys2,e8,c3,l4⟩:=aR l3
      cases l4
      refine⟨_,F4,e6,e7,y,r4,c2,fun v H5 F5 r5 s5 p5=>?_⟩
      have hlen:acc.length+(ys2.length+1)=ys.length:=by rw[←hacc,List.length_append,List.length_cons]
      refine⟨ws,r5.pr _ _ aW,by rw[p'.length];omega,F5,e7,acc++[y],ws++[v],ys2,?_,s'.trans (s24.trans s5),(bN.mono (s24.trans s5) _ _ p').append (bN.one p5),t3',c3,by rw[List.append_assoc];exact hacc⟩
      have r6:=r5.turn (u:=.lst (ws++[v])) aW
      rwa [Mq] at r6
   ·have ei:i=ds.length:=by omega
    subst ei
    rw[List.drop_length] at l'
    cases l'
    rw[List.append_nil] at hacc
    subst hacc
    refine .inl ⟨(y1 _ H' (s'.trans r'.fr)).1 (List.getElem?_eq_none (Nat.le_refl _)) rfl,?_⟩
    have sP:aO Pr (upd Pr a (.lst ws)):=mq hPa
    have r7:Rel C Pr F' (cQ.take lo) σ H':=by
     have:=(r'.less sP).cut (σ0:=σ) (by rw[hσ];exact t') r1.fix
     rwa [hσ] at this
    refine q a H' F' r7 (s1.trans s') ⟨⟨hz,ws,r'.pr _ _ aW,p'⟩,hFa,hPa,fun j e he hs=>?_⟩
    have hj:j<σ.length:=(List.getElem?_eq_some_iff.mp hs).1
    have he':cQ[j]? = some (some (true,e)):=by
     rw[List.getElem?_take_of_lt (by rw[←hσ];exact hj)] at he
     exact he
    obtain⟨b,g1,_,_,g4⟩:=r'.own j e he'
    have:σ'[j]? = some (some (V.ref a)):=by
     rw[←t',List.getElem?_take_of_lt (by rw[←hσ];exact hj)] at hs
     exact hs
    rw[this] at g1;cases g1
    rw[aW] at g4;cases g4
  ·cases e4
 ·cases e2
section
variable{X:Cx}{C:Cfg}{pos:Pos}
theorem aaH{elt tg iter:Expr}{ifs:List Expr}{scope:Scope}(N':List Str){it:cL}{g:GV}{c:dG}{e:Ev}(lo:Nat)(ok:jG X scope N')(hc:X.calm=true)(hi:GC X C tg iter it)
  (bg:∀X',dH X scope N' X'→Jr X' C lo tg g) (bc:∀X',dH X scope N' X'→Jq X' C ifs c) (be:∀X',dH X scope N' X'→PX X' C elt e)
  (hs:∀x,foldedSetIterable iter X.env x=pure x:=by intro _;rfl):Jy X C (.ListComp elt [⟨tg,iter,ifs,0⟩] scope pos) (fD lo N'.length it g c e):=
 (af4 ok hc hi bg bc be hs).imp fun σ H Q h=>Y5 h
theorem O6{elt tg iter:Expr}{ifs:List Expr}{scope:Scope}(N':List Str){spos py:Pos}{it:cL}{g:GV}{c:dG}{e:Ev}(lo:Nat){i:Nat}{y:Str}(ok:jG X scope N')(hc:X.calm=true)(hi:GC X C tg iter it)
  (bg:∀X',dH X scope N' X'→Jr X' C lo tg g) (bc:∀X',dH X scope N' X'→Jq X' C ifs c) (be:∀X',dH X scope N' X'→PX X' C elt e)
  (hN:X.N.Nodup) (hy:X.N[i]? = some y) (hx:Loc X.env.scope y) (hfx:C.fx i=none)
  (hsw:swapsWith (.ListComp elt [⟨tg,iter,ifs,0⟩] scope pos) (some (.Name y py)) spos.line X.env=pure true)
  (hf:X.fn y=true∨X.env.scope.names.lookup y=some .local:=by first|exact .inl rfl|exact .inr rfl|assumption)
  (hs:∀x,foldedSetIterable iter X.env x=pure x:=by intro _;rfl):Ce X C (.Assign [.Name y py] (.ListComp elt [⟨tg,iter,ifs,0⟩] scope pos) spos) (dB i (fD lo N'.length it g c e)):=
 (Rw ok hc hi bg bc be hN hy hx hsw hf hs).imp fun D σ H h=>by
  obtain⟨Pr,F,env,r,f⟩:=h
  obtain⟨d,aG,e1,f1⟩:=dU f
  have:tN C (fD lo N'.length it g c e) σ H fun v H1=>za i v σ H1 D.nx:=⟨Pr,F,env,aG,d,r,e1,fun v H1 F1 r1 s1 p1=>f1 _ H1 F1 (r1.Ko hfx p1) s1⟩
  exact Y5 this
end
noncomputable def iJ(K:Fg)(n:Nat)(f:List D→Option D):Sp:=fun vs H Q _=>∃(F:Hp) (ds:List D) (d:D),ds.length=n∧aO F H∧bN K F ds vs∧f ds=some d∧
 ∀v H' F',aO H H'→aO F' H'→aO F F'→(∀b o,F' b=some o→F b=some o∨H b=none)→Rep K F' d v→Q v H'
noncomputable def Vk(K:Fg)(n:Nat)(f:List D→Option D):Sp:=fun vs H Q _=>∃(F:Hp) (ds:List D) (d:D),ds.length=n∧aO F H∧bN K F ds vs∧f ds=some d∧
 ∀a H' F',aO H H'→aO F' H'→aO F F'→(∀b o,F' b=some o→F b=some o∨H b=none)→mL K F' H' d a→F' a=none→H a=none→Q (.ref a) H'
noncomputable def jn(K:Fg)(n:Nat)(f:List D→Option (D×D)):Sp:=fun vs H Q _=>∃(F:Hp) (a:Addr) (r:List V) (x:D) (ds:List D) (d x':D),vs = .ref a::r∧ds.length+1=n∧aO F H∧F a=none∧mL K F H x a∧bN K F ds r∧f (x::ds)=some (d,x')∧
 ∀v H' F',(∀b o,b≠a→H b=some o→H' b=some o)→aO F' H'→aO F F'→(∀b o,F' b=some o→F b=some o∨H b=none)→mL K F' H' x' a→Rep K F' d v→Q v H'
theorem Rel.after{C:Cfg}{Pr F F':Hp}{env:Env}{σ:L2.St}{H H':Hp}(r:Rel C Pr F env σ H)(s:aO H H')(sF:aO F' H')(YG:aO F F')(nw:∀b o,F' b=some o→F b=some o∨H b=none):Rel C Pr F' env σ H':=by
 refine⟨r.pr.trans s,sF,r.len,fun j e he=>?_,fun j e he=>?_,r.apart,fun b o e=>?_,r.fix⟩
 ·obtain⟨v,h1,h2⟩:=r.val j e he
  exact⟨v,h1,Rep.mono YG _ _ h2⟩
 ·obtain⟨a,h1,h2,h3,h4⟩:=r.own j e he
  obtain⟨o,ho⟩:=h2.some
  refine⟨a,h1,h2.mono YG (by rw[ho,s _ _ ho]),?_,h4⟩
  cases e:F' a with
  | none=>rfl
  | some u=>
   rcases nw a u e with z|z
   ·rw[h3] at z;cases z
   ·rw[ho] at z;cases z
 ·rcases nw b o e with z|z
  ·exact r.dj b o z
  ·exact r.pr.free z
theorem Rel.Yu{C:Cfg}{Pr F F':Hp}{env:Env}{σ:L2.St}{H H':Hp}{i:Nat}{a:Addr}{d d':D}(r:Rel C Pr F env σ H)(h:env[i]? = some (some (true,d)))(hs:σ[i]? = some (some (V.ref a)))(s:∀b o,b≠a→H b=some o→H' b=some o)(sF:aO F' H')(YG:aO F F')(nw:∀b o,F' b=some o→F b=some o∨H b=none)(ho:mL C.K F' H' d' a):Rel C Pr F' (env.set i (some (true,d'))) σ H':=by
 obtain⟨a',h1,h2,h3,h4⟩:=r.own i d h
 rw[hs] at h1;cases h1
 have hi:i<env.length:=(List.getElem?_eq_some_iff.mp h).1
 obtain⟨oa,hoa⟩:=h2.some
 have ne:∀(j:Nat) (e:D) (b:Addr),j≠i→env[j]? = some (some (true,e))→σ[j]? = some (some (V.ref b))→b≠a:=fun j e b hj he g z=>hj (r.apart j i e d a he h (by rw[←z];exact g) hs)
 have nF:∀b u,F b=none→H b=some u→F' b=none:=fun b u e1 e2=>by
  cases e:F' b with
  | none=>rfl
  | some w=>
   rcases nw b w e with z|z
   ·rw[e1] at z;cases z
   ·rw[e2] at z;cases z
 refine⟨fun b w e=>?_,sF,by rw[List.length_set];exact r.len,fun j e he=>?_,fun j e he=>?_,fun j k e f b hj hk g1 g2=>?_,fun b o e=>?_,r.fix⟩
 ·have hb:b≠a:=fun z=>by rw[z,h4] at e;cases e
  exact s b w hb (r.pr b w e)
 ·by_cases hj:j=i
  ·subst hj;rw[List.getElem?_set_self hi] at he;cases he
  ·rw[List.getElem?_set_ne (Ne.symm hj)] at he
   obtain⟨v,g1,g2⟩:=r.val j e he
   exact⟨v,g1,Rep.mono YG _ _ g2⟩
 ·by_cases hj:j=i
  ·subst hj;rw[List.getElem?_set_self hi] at he;cases he;exact⟨a,hs,ho,nF a oa h3 hoa,h4⟩
  ·rw[List.getElem?_set_ne (Ne.symm hj)] at he
   obtain⟨b,g1,g2,g3,g4⟩:=r.own j e he
   obtain⟨ob,hob⟩:=g2.some
   exact⟨b,g1,g2.mono YG (by rw[hob,s b ob (ne j e b hj he g1) hob]),nF b ob g3 hob,g4⟩
 ·have un:∀(j:Nat) (e:D),(env.set i (some (true,d')))[j]? = some (some (true,e))→∃e',env[j]? = some (some (true,e')):=fun j e he=>by
   by_cases hj:j=i
   ·subst hj;exact⟨d,h⟩
   ·rw[List.getElem?_set_ne (Ne.symm hj)] at he;exact⟨e,he⟩
  obtain⟨e',hj'⟩:=un j e hj
  obtain⟨f',hk'⟩:=un k f hk
  exact r.apart j k e' f' b hj' hk' g1 g2
 ·rcases nw b o e with z|z
  ·exact r.dj b o z
  ·exact r.pr.free z
section
variable{X:Cx}{C:Cfg}{pos p:Pos}{k n:Nat}{f:Addr}{fd:FuncData}{ps:List Str}{x:Str}{e:Expr}{es:List Expr}
theorem Bu{g:List D→Option D}{a:cL}{env env':Env}{d:D}(h:az g a env = .ok d env'):∃ds,a env = .ok ds env'∧g ds=some d:=by
 obtain⟨ds,aG,e1,e2⟩:=aR h
 obtain⟨e3,rfl⟩:=eQ e2
 exact⟨ds,e1,e3⟩
theorem aaK{g:List D→Option D}{a:cL}(G:rF X.prog X.w X.K X.mg X.base GD k f fd ps (iJ C.K n g))(hr:iZ k X.A)(hg:Gl X x)(hm:X.mg x=some (.ref f))(hk:PySem.W.keepIn X.K (.ref f)=true)(hb:Binds X.K fd ps [])
  (ha:Dg X C (e::es) a) (hn:∀env ds env',a env = .ok ds env'→ds.length=n) (hdb:(x == ("__debug__" : Str))=false:=by decide) (he:starEach (e::es) X.env=(false,eval e X.env)::starEach es X.env:=by rfl) (hpl:(backTo pos (starEach es X.env)).any (·.1)=false:=by rfl) :
  PX X C (.Call (.Name x p) (e::es) [] pos) (az g a):=(zF G hr hg hm hk hb .nil M4 ha hdb he hpl).imp fun σ H Q hq=>by
 obtain⟨Pr,F,env,env',d,r,e,q⟩:=hq
 obtain⟨ds,e1,e2⟩:=Bu e
 refine⟨Pr,F,env,env',ds,r,e1,fun vs H1 F1 r1 s1 p1=>?_⟩
 show iJ C.K n g (vs++[]) H1 Q E0
 rw[List.append_nil]
 exact⟨F1,ds,d,hn _ _ _ e1,r1.fr,p1,e2,fun v H2 F2 t1 t2 t3 t4 p2=>q v H2 F2 (r1.after t1 t2 t3 t4) (s1.trans t3) p2⟩
theorem Wi{g:List D→Option D}{a:cL}(G:rF X.prog X.w X.K X.mg X.base GD k f fd ps (Vk C.K n g))(hr:iZ k X.A)(hg:Gl X x)(hm:X.mg x=some (.ref f))(hk:PySem.W.keepIn X.K (.ref f)=true)(hb:Binds X.K fd ps [])
  (ha:Dg X C (e::es) a) (hn:∀env ds env',a env = .ok ds env'→ds.length=n) (hdb:(x == ("__debug__" : Str))=false:=by decide) (he:starEach (e::es) X.env=(false,eval e X.env)::starEach es X.env:=by rfl) (hpl:(backTo pos (starEach es X.env)).any (·.1)=false:=by rfl) :
  Jy X C (.Call (.Name x p) (e::es) [] pos) (az g a):=(zF G hr hg hm hk hb .nil M4 ha hdb he hpl).imp fun σ H Q hq=>by
 obtain⟨Pr,F,env,env',d,r,e,q⟩:=hq
 obtain⟨ds,e1,e2⟩:=Bu e
 refine⟨Pr,F,env,env',ds,r,e1,fun vs H1 F1 r1 s1 p1=>?_⟩
 show Vk C.K n g (vs++[]) H1 Q E0
 rw[List.append_nil]
 refine⟨F1,ds,d,hn _ _ _ e1,r1.fr,p1,e2,fun b H2 F2 t1 t2 t3 t4 ho hF hH=>q b H2 F2 (r1.after t1 t2 t3 t4) (s1.trans t3) ⟨ho,hF,r1.pr.free hH,fun j e he hs=>?_⟩⟩
 obtain⟨c,h1,h2,_⟩:=r1.own j e he
 rw[hs] at h1;cases h1
 obtain⟨u,hu⟩:=h2.some
 rw[hH] at hu;cases hu
noncomputable def cJ(f:List D→Option (D×D))(i:Nat)(a:cL):Ev:=fun env=>match env[i]? with
 | some (some (true,_))=>bindR (a env) fun ds aG=>(match aG[i]? with
  | some (some (true,x))=>(match f (x::ds) with
   | some (d,x')=>.ok d (aG.set i (some (true,x')))
   | none=>.stuck)
  | _=>.stuck)
 | _=>.stuck
theorem afA{g:List D→Option (D×D)}{a:cL}{i:Nat}{y:Str}{py:Pos}(hN:X.N[i]? = some y)(hv:uw X.env.scope y)(G:rF X.prog X.w X.K X.mg X.base GD k f fd ps (jn C.K n g))(hr:iZ k X.A)(hg:Gl X x)(hm:X.mg x=some (.ref f))(hk:PySem.W.keepIn X.K (.ref f)=true)(hb:Binds X.K fd ps [])
  (ha:Dg X C es a) (hn:∀env ds env',a env = .ok ds env'→ds.length+1=n) (hdb:(x == ("__debug__" : Str))=false:=by decide) (he:starEach (.Name y py::es) X.env=(false,eval (.Name y py) X.env)::starEach es X.env:=by rfl) (hpl:(backTo pos (starEach es X.env)).any (·.1)=false:=by rfl)
  (hd:(y == ("__debug__" : Str))=false:=by decide) (hcd:(y == ("__classdict__" : Str))=false:=by decide) :
  PX X C (.Call (.Name x p) (.Name y py::es) [] pos) (cJ g i a):=(zF G hr hg hm hk hb .nil M4 (lW (mO hN hv hd hcd) ha he) hdb he hpl).imp fun σ H Q hq=>by
 obtain⟨Pr,F,env,env',d,r,e,q⟩:=hq
 unfold cJ at e
 split at e
 ·rename_i d0 h0
  obtain⟨ds,aG,e1,e2⟩:=aR e
  split at e2
  ·rename_i z hz
   split at e2
   ·rename_i d1 z' hg
    cases e2
    obtain⟨a0,hs0,_⟩:=r.own i _ h0
    refine⟨_,hs0,Pr,F,env,aG,ds,r,e1,fun vs H1 F1 r1 s1 p1=>?_⟩
    obtain⟨a1,hs1,ho1,hF1,hP1⟩:=r1.own i _ hz
    rw[hs0] at hs1;cases hs1
    show jn C.K n g (_::vs++[]) H1 Q E0
    rw[List.append_nil]
    exact⟨F1,a0,vs,z,ds,d,z',rfl,hn _ _ _ e1,r1.fr,hF1,ho1,p1,hg,fun v H2 F2 t1 t2 t3 t4 t5 p2=>q v H2 F2 (r1.Yu hz hs0 t1 t2 t3 t4 t5) (s1.trans t3) p2⟩
   ·cases e2
  ·cases e2
 ·cases e
end
noncomputable def envOf(n:Nat)(ds:List D):Env:=ds.map (fun d=>some (false,d))++List.replicate (n - ds.length) none
noncomputable def xq(n:Nat)(x:D)(ds:List D):Env:=some (true,x)::(ds.map (fun d=>some (false,d))++List.replicate (n - (ds.length+1)) none)
noncomputable def cP(n:Nat)(ev:bQ)(ds:List D):Option D:=match ev (envOf n ds) with
 | .rt false d _=>some d
 | .nx _=>some .non
 | _=>none
noncomputable def runN(n:Nat)(ev:bQ)(ds:List D):Option D:=match ev (envOf n ds) with
 | .rt true d _=>some d
 | _=>none
noncomputable def gV(n:Nat)(ev:bQ)(ds:List D):Option (D×D):=match ds with
 | []=>none
 | x::r=>(match ev (xq n x r) with
  | .rt false d env=>(match env[0]? with
   | some (some (true,x'))=>some (d,x')
   | _=>none)
  | .nx env=>(match env[0]? with
   | some (some (true,x'))=>some (.non,x')
   | _=>none)
  | _=>none)
noncomputable def C0(K:Fg):Cfg:=⟨K,fun _=>none⟩
noncomputable def C1(K:Fg)(a:Addr):Cfg:=⟨K,fun i=>if i=0 then some a else none⟩
noncomputable def FJ(H F:Hp):Hp:=fun b=>if (F b).isSome then none else H b
theorem HB{H F:Hp}{b:Addr}{o:HO}(h:FJ H F b=some o):H b=some o∧F b=none:=by
 unfold FJ at h
 split at h
 ·cases h
 ·rename_i z
  exact⟨h,by cases e:F b with|none=>rfl|some w=>rw[e] at z;exact absurd rfl z⟩
theorem Ax{H F:Hp}{b:Addr}(h:FJ H F b=none):H b=none∨∃o,F b=some o:=by
 unfold FJ at h
 split at h
 ·rename_i z
  exact .inr (Option.isSome_iff_exists.mp z)
 ·exact .inl h
theorem Dp{K:Fg}{F H:Hp}{ds:List D}{vs:List V}{N:List Str}(s:aO F H)(p:bN K F ds vs):Rel (C0 K) (FJ H F) F (envOf N.length ds) (start N vs) H:=by
 have un:∀(j:Nat) (x:Bool×D),(envOf N.length ds)[j]? = some (some x)→∃d,x=(false,d)∧ds[j]? = some d:=fun j x he=>by
  unfold envOf at he
  by_cases hj:j<(ds.map fun d=>some (false,d)).length
  ·rw[List.getElem?_append_left hj,List.getElem?_map] at he
   obtain⟨d,h1,h2⟩:=Option.map_eq_some_iff.mp he
   cases h2
   exact⟨d,rfl,h1⟩
  ·rw[List.getElem?_append_right (by omega),List.getElem?_replicate] at he
   split at he<;>cases he
 refine⟨fun b o e=>(HB e).1,s,?_,fun j d he=>?_,fun j d he=>?_,fun j k d e a hj hk=>?_,fun b o e=>?_,fun i a h=>by cases h⟩
 ·unfold envOf L2.start
  rw[List.length_append,List.length_append,List.length_map,List.length_map,List.length_replicate,List.length_replicate,p.length]
 ·obtain⟨d',z,hd⟩:=un j _ he
  cases z
  obtain⟨v,h1,h2⟩:=p.get hd
  refine⟨v,?_,h2⟩
  unfold L2.start
  rw[List.getElem?_append_left (by rw[List.length_map];exact(List.getElem?_eq_some_iff.mp h1).1),List.getElem?_map,h1]
  rfl
 ·obtain⟨d',z,_⟩:=un j _ he;cases z
 ·obtain⟨d',z,_⟩:=un j _ hj;cases z
 ·unfold FJ
  rw[e];rfl
theorem aO.Ks{H F F' H':Hp}(s1:aO (FJ H F) H')(s2:aO F F')(s3:aO F' H')(sF:aO F H):aO H H':=fun b o e=>by
 cases z:F b with
 | none=>exact s1 b o (by unfold FJ;rw[z];exact e)
 | some w=>
  have:=sF b w z
  rw[e] at this;cases this
  exact s3 b o (s2 b o z)
theorem KC{H F F':Hp}(s2:aO F F')(dj:∀b o,F' b=some o→FJ H F b=none)(b:Addr)(o:HO)(h:F' b=some o):F b=some o∨H b=none:=by
 rcases Ax (dj b o h) with z|⟨w,z⟩
 ·exact .inr z
 ·have:=s2 b w z
  rw[h] at this;cases this
  exact .inl z
section
variable{P:Program}{w:World}{K:Fg}{mg:Str→Option Value}{base:Heap}{x qual:Str}{st:Stmt}{f:Addr}{fd:FuncData}{N ps:List Str}{k:Nat}{ev:bQ}
noncomputable abbrev bx(P:Program)(w:World)(K:Fg)(mg:Str→Option Value)(base:Heap)(N:List Str)(qual:Str)(st:Stmt)(f:Addr)(cdv:Value)(A:Around)(outer:List PySem.Env)(s:Shared)(H:Hp)(E:XK):Cx:=(Lr GD P w K mg base N qual (aD st) f cdv A outer s H E).nox
theorem Jd(F:Vu K x qual st f fd)(S:bC N ps (aD st))
  (hb:∀(cdv:Value) (A:Around) (outer:List PySem.Env) (s:Shared) (H:Hp) (E:XK),iZ k (A.deeper (envOfC qual (aD st) s.heap.objs.size f cdv))→uy (bx P w K mg base N qual st f cdv A outer s H E) (C0 K) (bw st) ev) :
  rF P w K mg base GD (k+1) f fd ps (iJ K ps.length (cP N.length ev)):=by
 refine F.ok S (fun vs H Q E h=>?_) (fun cdv A outer s H vs Q E hr h=>?_)
 ·obtain⟨F0,ds,d,hl,_,p,_⟩:=h
  rw[p.length,hl]
 ·obtain⟨F0,ds,d,hl,sF,p,e,q⟩:=h
  refine⟨_,hb cdv A outer s H E hr,FJ H F0,F0,envOf N.length ds,Dp sF p,?_⟩
  unfold cP at e
  split at e
  ·rename_i d' env' h1
   cases e
   rw[h1]
   exact fun v σ' H' F' r' s' p'=>q v H' F' (aO.Ks r'.pr s' r'.fr sF) r'.fr s' (KC s' r'.dj) p'
  ·rename_i env' h1
   cases e
   rw[h1]
   exact fun σ' H' F' r' s'=>q .non H' F' (aO.Ks r'.pr s' r'.fr sF) r'.fr s' (KC s' r'.dj) rfl
  ·cases e
theorem Yl(F:Vu K x qual st f fd)(S:bC N ps (aD st))
  (hb:∀(cdv:Value) (A:Around) (outer:List PySem.Env) (s:Shared) (H:Hp) (E:XK),iZ k (A.deeper (envOfC qual (aD st) s.heap.objs.size f cdv))→uy (bx P w K mg base N qual st f cdv A outer s H E) (C0 K) (bw st) ev) :
  rF P w K mg base GD (k+1) f fd ps (Vk K ps.length (runN N.length ev)):=by
 refine F.ok S (fun vs H Q E h=>?_) (fun cdv A outer s H vs Q E hr h=>?_)
 ·obtain⟨F0,ds,d,hl,_,p,_⟩:=h
  rw[p.length,hl]
 ·obtain⟨F0,ds,d,hl,sF,p,e,q⟩:=h
  refine⟨_,hb cdv A outer s H E hr,FJ H F0,F0,envOf N.length ds,Dp sF p,?_⟩
  unfold runN at e
  split at e
  ·rename_i d' env' h1
   cases e
   rw[h1]
   refine fun a σ' H' F' r' s' n'=>q a H' F' (aO.Ks r'.pr s' r'.fr sF) r'.fr s' (KC s' r'.dj) n'.own n'.nF ?_
   rcases Ax n'.nP with z|⟨u,z⟩
   ·exact z
   ·have:=s' a u z
    rw[n'.nF] at this;cases this
  ·cases e
theorem Ho{K:Fg}{F H:Hp}{y:D}{a:Addr}{ds:List D}{vs:List V}{N:List Str}(s:aO F H)(hF:F a=none)(ho:mL K F H y a)(p:bN K F ds vs):Rel (C1 K a) (fun b=>if b=a then none else FJ H F b) F (xq N.length y ds) (start N (.ref a::vs)) H:=by
 have un:∀(j:Nat) (x:Bool×D),(xq N.length y ds)[j]? = some (some x)→(j=0∧x=(true,y))∨∃i d,j=i+1∧x=(false,d)∧ds[i]? = some d:=fun j x he=>by
  unfold xq at he
  cases j with
  | zero=>cases he;exact .inl ⟨rfl,rfl⟩
  | succ i=>
   rw[List.getElem?_cons_succ] at he
   by_cases hj:i<(ds.map fun d=>some (false,d)).length
   ·rw[List.getElem?_append_left hj,List.getElem?_map] at he
    obtain⟨d,h1,h2⟩:=Option.map_eq_some_iff.mp he
    cases h2
    exact .inr ⟨i,d,rfl,rfl,h1⟩
   ·rw[List.getElem?_append_right (by omega),List.getElem?_replicate] at he
    split at he<;>cases he
 have z0:(start N (.ref a::vs))[0]? = some (some (V.ref a)):=rfl
 refine⟨fun b o e=>?_,s,?_,fun j d he=>?_,fun j d he=>?_,fun j k d e b hj hk _ _=>?_,fun b o e=>?_,fun i b h=>?_⟩
 ·have e':(if b=a then none else FJ H F b)=some o:=e
  split at e'
  ·cases e'
  ·exact(HB e').1
 ·unfold xq L2.start
  simp only[List.length_cons,List.length_append,List.length_map,List.length_replicate,p.length,List.map_cons]
  omega
 ·rcases un j _ he with ⟨_,z⟩|⟨i,d',rfl,z,hd⟩
  ·cases z
  ·cases z
   obtain⟨v,h1,h2⟩:=p.get hd
   refine⟨v,?_,h2⟩
   unfold L2.start
   rw[List.map_cons,List.cons_append,List.getElem?_cons_succ,List.getElem?_append_left (by rw[List.length_map];exact(List.getElem?_eq_some_iff.mp h1).1),List.getElem?_map,h1]
   rfl
 ·rcases un j _ he with ⟨rfl,z⟩|⟨i,d',rfl,z,hd⟩
  ·cases z
   exact⟨a,z0,ho,hF,if_pos rfl⟩
  ·cases z
 ·rcases un j _ hj with ⟨rfl,_⟩|⟨i,d',rfl,z,_⟩
  ·rcases un k _ hk with ⟨rfl,_⟩|⟨i,d',rfl,z,_⟩
   ·rfl
   ·cases z
  ·cases z
 ·show(if b=a then none else FJ H F b)=none
  split
  ·rfl
  ·unfold FJ;rw[e];rfl
 ·have h':(if i=0 then some a else none)=some b:=h
  split at h'
  ·rename_i hi
   cases h'
   rw[hi];exact z0
  ·cases h'
theorem adZ{y:Str}{qs:List Str}(F:Vu K x qual st f fd)(S:bC N (y::qs) (aD st))
  (hb:∀(cdv:Value) (A:Around) (outer:List PySem.Env) (s:Shared) (H:Hp) (E:XK) (a:Addr),iZ k (A.deeper (envOfC qual (aD st) s.heap.objs.size f cdv))→uy (bx P w K mg base N qual st f cdv A outer s H E) (C1 K a) (bw st) ev) :
  rF P w K mg base GD (k+1) f fd (y::qs) (jn K (qs.length+1) (gV N.length ev)):=by
 refine F.ok S (fun vs H Q E h=>?_) (fun cdv A outer s H vs Q E hr h=>?_)
 ·obtain⟨F0,a,r,z,ds,d,z',rfl,hl,_,_,_,p,_⟩:=h
  rw[List.length_cons,List.length_cons,p.length]
  exact hl
 ·obtain⟨F0,a,r,z,ds,d,z',rfl,hl,sF,hFa,ho,p,e,q⟩:=h
  refine⟨_,hb cdv A outer s H E a hr,_,F0,xq N.length z ds,Ho sF hFa ho p,?_⟩
  have fin:∀(env':Env) (σ':L2.St) (H' F':Hp) (v:V) (d:D) (z':D),env'[0]? = some (some (true,z'))→Rel (C1 K a) (fun b=>if b=a then none else FJ H F0 b) F' env' σ' H'→aO F0 F'→Rep K F' d v→(∀v H' F',(∀b o,b≠a→H b=some o→H' b=some o)→aO F' H'→aO F0 F'→(∀b o,F' b=some o→F0 b=some o∨H b=none)→mL K F' H' z' a→Rep K F' d v→Q v H')→Q v H':=fun env' σ' H' F' v d z' h0 r' s' p' q=>by
   obtain⟨b,g1,g2,g3,g4⟩:=r'.own 0 z' h0
   have g5:=r'.fix 0 a rfl
   rw[g1] at g5;cases g5
   refine q v H' F' (fun c o hc e=>?_) r'.fr s' (fun c o e=>?_) g2 p'
   ·cases u:F0 c with
    | none=>exact r'.pr c o (by show(if c=a then none else FJ H F0 c)=some o;rw[if_neg hc];unfold FJ;rw[u];exact e)
    | some w=>
     have:=sF c w u
     rw[e] at this;cases this
     exact r'.fr c o (s' c o u)
   ·by_cases hc:c=a
    ·subst hc;rw[g3] at e;cases e
    ·have h1:=r'.dj c o e
     have h1':(if c=a then none else FJ H F0 c)=none:=h1
     rw[if_neg hc] at h1'
     rcases Ax h1' with u|⟨w,u⟩
     ·exact .inr u
     ·have:=s' c w u
      rw[e] at this;cases this
      exact .inl u
  unfold gV at e
  simp only at e
  split at e
  ·rename_i d' env' h1
   split at e
   ·rename_i z1 h0
    cases e
    rw[h1]
    exact fun v σ' H' F' r' s' p'=>fin env' σ' H' F' v _ _ h0 r' s' p' q
   ·cases e
  ·rename_i env' h1
   split at e
   ·rename_i z1 h0
    cases e
    rw[h1]
    exact fun σ' H' F' r' s'=>fin env' σ' H' F' .non .non _ h0 r' s' rfl q
   ·cases e
  ·cases e
end
end Ev
namespace Ev
open PySem PySem.Spec PyProof.Rows L2
structure Good(X:Cx)(C:Cfg):Prop where
 K:X.K=C.K
 calm:X.calm=true
 un:X.A.units+64<cLine
theorem Good.u1{X:Cx}{C:Cfg}(G:Good X C):X.A.units+1<cLine:=Nat.lt_of_le_of_lt (Nat.add_le_add_left (by decide:1≤64) _) G.un
theorem Good.u60{X:Cx}{C:Cfg}(G:Good X C):X.A.units+60<cLine:=Nat.lt_of_le_of_lt (Nat.add_le_add_left (by decide:60≤64) _) G.un
theorem Good.u61{X:Cx}{C:Cfg}(G:Good X C):X.A.units+61<cLine:=Nat.lt_of_le_of_lt (Nat.add_le_add_left (by decide:61≤64) _) G.un
theorem Good.at{X X':Cx}{C:Cfg}{scope:Scope}{N':List Str}(G:Good X C)(h:dH X scope N' X'):Good X' C:=by
 obtain⟨_,_,_,_,_,rfl⟩:=h
 exact⟨G.K,G.calm,G.un⟩
noncomputable def Own(P:Program)(w:World)(K:Fg)(mg:Str→Option Value)(base:Heap)(x:Str)(k:Nat)(ps:List Str)(sp:Sp):Prop:=
 ∃f fd,rF P w K mg base GD k f fd ps sp∧mg x=some (.ref f)∧PySem.W.keepIn K (.ref f)=true∧Binds K fd ps []
noncomputable def Glb(K:Fg)(mg:Str→Option Value)(x:Str)(d:D):Prop:=∃v u,mg x=some u∧RelV v u∧∀F,Rep K F d v
noncomputable def bD(K:Fg)(mg:Str→Option Value)(x:Str)(st:Stmt)(ps:List Str):Prop:=∃f fd,Vu K x x st f fd∧mg x=some (.ref f)∧Binds K fd ps []
noncomputable def jA:List Str→Bool
 | []=>true
 | x::r=>!(r.contains x)&&jA r
theorem jQ:∀{l:List Str},jA l=true→l.Nodup
 | [],_=>.nil
 | x::r,h=>by
  have h':(!(r.contains x)&&jA r)=true:=h
  rw[Bool.and_eq_true] at h'
  refine List.nodup_cons.mpr ⟨fun hm=>?_,jQ h'.2⟩
  have:r.contains x=true:=List.contains_iff_mem.mpr hm
  rw[this] at h';exact absurd h'.1 (by decide)
noncomputable def Nm(outer:List (Str×NameKind)):List (Str×NameKind)→Bool
 | []=>true
 | (n,k)::r=>(!decide (k = .free)||decide (outer.lookup n=some .cell)||decide (outer.lookup n=some .free))&&Nm outer r
theorem Io{outer:List (Str×NameKind)}:∀{l:List (Str×NameKind)},Nm outer l=true→∀x∈l,x.2 = .free→outer.lookup x.1=some .cell∨outer.lookup x.1=some .free
 | [],_,x,hx,_=>by simp at hx
 | (n,k)::r,h,x,hx,hf=>by
  have h':((!decide (k = .free)||decide (outer.lookup n=some .cell)||decide (outer.lookup n=some .free))&&Nm outer r)=true:=h
  rw[Bool.and_eq_true,Bool.or_eq_true,Bool.or_eq_true] at h'
  rcases List.mem_cons.mp hx with rfl|hx
  ·rcases h'.1 with (z|z)|z
   ·have hf':k = .free:=hf
    rw[decide_eq_true hf'] at z;exact absurd z (by decide)
   ·exact .inl (of_decide_eq_true z)
   ·exact .inr (of_decide_eq_true z)
  ·exact Io h'.2 x hx hf
theorem fH{X:Cx}{scope:Scope}{N':List Str}(h1:scope.kind = .function:=by rfl)(h2:jA (scope.names.map (·.1))=true:=by rfl)(h3:Nm X.env.scope.names scope.names=true:=by rfl)(h4:UG scope.names N' X.N=true:=by rfl)(h5:Nat.ble X.N.length N'.length=true:=by rfl):jG X scope N':=
 ⟨h1,jQ h2,Io h3,h4,Nat.le_of_ble_eq_true h5⟩
section
variable{X:Cx}{C:Cfg}{pos p px:Pos}{x y z:Expr}{a b c:Ev}{t u:dG}{i:Nat}{n:Str}
theorem aJ(i:Nat)(hN:X.N[i]? = some n:=by rfl)(hv:uw X.env.scope n:=by first|exact Or.inl rfl|exact Or.inr (Or.inl rfl)|exact Or.inr (Or.inr rfl))(hd:(n == ("__debug__" : Str))=false:=by decide)(hcd:(n == ("__classdict__" : Str))=false:=by decide):PX X C (.Name n pos) (aq i):=aaJ i hN hv hd hcd
theorem cO(i:Nat)(hN:X.N[i]? = some n:=by rfl)(hv:uw X.env.scope n:=by first|exact Or.inl rfl|exact Or.inr (Or.inl rfl)|exact Or.inr (Or.inr rfl))(hd:(n == ("__debug__" : Str))=false:=by decide)(hcd:(n == ("__classdict__" : Str))=false:=by decide):Cg X C (.Name n pos) (aY i):=Wl i hN hv hd hcd
structure Bi(X:Cx)(C:Cfg)(op:Operator)(g:D→D→Option D):Prop where
 ex:∃r,oK X (binaryOp op) r∧qu C r g
structure Cm(X:Cx)(C:Cfg)(op:CmpOp)(g:D→D→Option D):Prop where
 ex:∃r,oK X (compareOp op) r∧qu C r g
theorem fc(G:Good X C):Bi X C .Add bT:=⟨_,WR,by rw[G.K];exact aby⟩
theorem N6:Bi X C .Sub tQ:=⟨_,aa4,abm⟩
theorem U5:Bi X C .Mult vG:=⟨_,WN,abq⟩
theorem aj2:Bi X C .Mod ac1:=⟨_,aa9,abr⟩
theorem Z2:Bi X C .Pow Lk:=⟨_,aa7,abp⟩
theorem aj1:Bi X C .LShift Xx:=⟨_,aa6,abo⟩
theorem Z1:Bi X C .RShift Il:=⟨_,aa5,abn⟩
theorem Z4:Bi X C .BitAnd Im:=⟨_,abi,abx⟩
theorem rN(G:Good X C):Cm X C .Eq mJ:=⟨_,abg G.u60,by rw[G.K];exact agL⟩
theorem Jm(G:Good X C):Cm X C .NotEq xD:=⟨_,aa8 G.u60,by rw[G.K];exact agF⟩
theorem ajY(G:Good X C):Cm X C .In gIn:=⟨_,abf G.u61,by rw[G.K];exact agJ⟩
theorem zP(G:Good X C):Cm X C .NotIn pG:=⟨_,Pn G.u61,by rw[G.K];exact Sd⟩
theorem Yr:Cm X C .Is Vm:=⟨_,abd,agI⟩
theorem NQ:Cm X C .IsNot pH:=⟨_,Pu,Sg⟩
theorem ant:Cm X C .Lt gLt:=⟨_,aba,agG⟩
theorem anu:Cm X C .LtE gLe:=⟨_,af7,agH⟩
theorem anv:Cm X C .Gt gGt:=⟨_,af8,agK⟩
theorem iD{op:Operator}{g:D→D→Option D}(o:Bi X C op g)(ha:PX X C x a)(hb:Cg X C y b):PX X C (.BinOp x op y pos) (aK g a b):=let ⟨_,h1,h2⟩:=o.ex;afy h1 h2 ha hb
theorem dI{op:Operator}{g:D→D→Option D}(i:Nat)(o:Bi X C op g)(hb:Cg X C y b)(hN:X.N[i]? = some n:=by rfl)(hv:uw X.env.scope n:=by first|exact Or.inl rfl|exact Or.inr (Or.inl rfl)|exact Or.inr (Or.inr rfl))(hd:(n == ("__debug__" : Str))=false:=by decide)(hcd:(n == ("__classdict__" : Str))=false:=by decide):PX X C (.BinOp (.Name n px) op y pos) (au g i b):=let ⟨_,h1,h2⟩:=o.ex;aaL i hN hv h1 h2 hb hd hcd
theorem zW{op:CmpOp}{g:D→D→Option D}(o:Cm X C op g)(ha:PX X C x a)(hb:Cg X C y b)(hm:behindInMarks op y=false:=by rfl):PX X C (.Compare x [op] [y] pos) (aK g a b):=let ⟨_,h1,h2⟩:=o.ex;aaN h1 h2 ha hb hm
theorem xF{op:CmpOp}{g:D→D→Option D}(i:Nat)(o:Cm X C op g)(hb:Cg X C y b)(hN:X.N[i]? = some n:=by rfl)(hv:uw X.env.scope n:=by first|exact Or.inl rfl|exact Or.inr (Or.inl rfl)|exact Or.inr (Or.inr rfl))(hm:behindInMarks op y=false:=by rfl)(hd:(n == ("__debug__" : Str))=false:=by decide)(hcd:(n == ("__classdict__" : Str))=false:=by decide):PX X C (.Compare (.Name n px) [op] [y] pos) (au g i b):=by
 obtain⟨r,h1,h2⟩:=o.ex
 exact(M3 h1 (mO hN hv hd hcd) hb hm).imp (xx h2)
theorem nO{op:CmpOp}{g:D→D→Option D}(o:Cm X C op g)(ha:PX X C x a)(hb:Cg X C y b)(hm:behindInMarks op y=false:=by rfl):Oa X C (.Compare x [op] [y] pos) (cX (aK g a b)):=let ⟨_,h1,h2⟩:=o.ex;Wd h1 h2 ha hb hm
theorem eN{op:CmpOp}{g:D→D→Option D}(i:Nat)(o:Cm X C op g)(hb:Cg X C y b)(hN:X.N[i]? = some n:=by rfl)(hv:uw X.env.scope n:=by first|exact Or.inl rfl|exact Or.inr (Or.inl rfl)|exact Or.inr (Or.inr rfl))(hm:behindInMarks op y=false:=by rfl)(hd:(n == ("__debug__" : Str))=false:=by decide)(hcd:(n == ("__classdict__" : Str))=false:=by decide):Oa X C (.Compare (.Name n px) [op] [y] pos) (cX (au g i b)):=by
 obtain⟨r,h1,h2⟩:=o.ex
 exact(MK h1 (mO hN hv hd hcd) hb hm).imp fun σ H Q h=>xx h2 σ H _ (Q3 h)
theorem uK(G:Good X C)(ha:PX X C x a)(hb:Cg X C y b)(hs:rE y:=by intro _ _;rfl):PX X C (.Subscript x y pos) (aK cB a b):=afz G.K ha hb hs
theorem cM(i:Nat)(G:Good X C)(hb:Cg X C y b)(hN:X.N[i]? = some n:=by rfl)(hv:uw X.env.scope n:=by first|exact Or.inl rfl|exact Or.inr (Or.inl rfl)|exact Or.inr (Or.inr rfl))(hs:rE y:=by intro _ _;rfl)(hd:(n == ("__debug__" : Str))=false:=by decide)(hcd:(n == ("__classdict__" : Str))=false:=by decide):PX X C (.Subscript (.Name n px) y pos) (au cB i b):=aaM i G.K hN hv hb hs hd hcd
theorem wM(i:Nat)(G:Good X C)(hb:Cg X C y b)(hN:X.N[i]? = some n:=by rfl)(hv:uw X.env.scope n:=by first|exact Or.inl rfl|exact Or.inr (Or.inl rfl)|exact Or.inr (Or.inr rfl))(hs:Vh y:=by intro _ _;rfl)(hd:(n == ("__debug__" : Str))=false:=by decide)(hcd:(n == ("__classdict__" : Str))=false:=by decide):PX X C (.Subscript (.Name n px) y pos) (au iY i b):=Rr i G.u1 hN hv hb hs hd hcd
theorem QM{lo hi:Option Expr}{el eh:zf}{p2:Pos}(G:Good X C)(ha:PX X C x a)(hl:Qy X C lo el)(hh:Qy X C hi eh):PX X C (.Subscript x (.Slice lo hi none p2) pos) (vJ a el eh):=afx G.K ha hl hh
variable{e:Expr}{es:List Expr}{ea:cL}
theorem jj(G:Good X C)(hm:X.mg "len" = none)(ha:wG X C [e] ea)(hg:Gl X "len":=by rfl)(he:starEach [e] X.env=(false,eval e X.env)::starEach [] X.env:=by rfl):PX X C (.Call (.Name "len" p) [e] [] pos) (az dM ea):=
 rT (by rw[←G.K];exact UW) ad3 hg hm PySem.boot_len ha (by decide) (by decide) he rfl
theorem GK(G:Good X C)(hm:X.mg "all" = none)(ha:wG X C [e] ea)(hg:Gl X "all":=by rfl)(he:starEach [e] X.env=(false,eval e X.env)::starEach [] X.env:=by rfl):PX X C (.Call (.Name "all" p) [e] [] pos) (az Bl ea):=
 rT (by rw[←G.K];exact Qw G.calm) ad5 hg hm (by decide +kernel) ha (by decide) (by decide) he rfl
theorem QS(G:Good X C)(hm:X.mg "any" = none)(ha:wG X C [e] ea)(hg:Gl X "any":=by rfl)(he:starEach [e] X.env=(false,eval e X.env)::starEach [] X.env:=by rfl):PX X C (.Call (.Name "any" p) [e] [] pos) (az Qe ea):=
 rT (by rw[←G.K];exact Qv G.calm) ad4 hg hm (by decide +kernel) ha (by decide) (by decide) he rfl
theorem wK(G:Good X C)(hm:X.mg "sorted" = none)(ha:wG X C [e] ea)(hg:Gl X "sorted":=by rfl)(he:starEach [e] X.env=(false,eval e X.env)::starEach [] X.env:=by rfl):PX X C (.Call (.Name "sorted" p) [e] [] pos) (az iH ea):=
 O7 G.K G.calm hg hm ha he rfl
theorem zV{e2:Expr}(G:Good X C)(hm:X.mg "divmod" = none)(ha:wG X C [e,e2] ea)(hg:Gl X "divmod":=by rfl)(he:starEach [e,e2] X.env=(false,eval e X.env)::starEach [e2] X.env:=by rfl)(hpl:(backTo pos (starEach [e2] X.env)).any (·.1)=false:=by rfl):PX X C (.Call (.Name "divmod" p) [e,e2] [] pos) (az nu ea):=
 rT Jl Qt hg hm (by decide +kernel) ha (by decide) (by decide) he hpl
theorem iC(G:Good X C)(hm:X.mg "tuple" = none)(ha:wG X C [e] ea)(hg:Gl X "tuple":=by rfl)(he:starEach [e] X.env=(false,eval e X.env)::starEach [] X.env:=by rfl):PX X C (.Call (.Name "tuple" p) [e] [] pos) (az du ea):=
 xY (T:="tuple") (r:=Rh C.K) (by rw[←G.K];exact CV) UL hg hm (by decide +kernel) ha (by decide) (by decide) he rfl
theorem JF(G:Good X C)(hm:X.mg "list" = none)(ha:wG X C [e] ea)(hg:Gl X "list":=by rfl)(he:starEach [e] X.env=(false,eval e X.env)::starEach [] X.env:=by rfl):PX X C (.Call (.Name "list" p) [e] [] pos) (az uH ea):=
 xY (T:="list") (r:=Rk C.K) (by rw[←G.K];exact LC G.calm) Yo hg hm (by decide +kernel) ha (by decide) (by decide) he rfl
theorem xE{o:Expr}{apos cpos:Pos}(G:Good X C)(ho:PX X C o a)(he:Cg X C e b)(hbase:attributeBase o "join" X.env (eval o X.env)=eval o X.env:=by rfl)
  (hs:starEach [e] X.env=(false,eval e X.env)::starEach [] X.env:=by rfl)
  (hfew:((backTo cpos (starEach [e] X.env)).all (fun x=>!x.1)&&(backToKw cpos (keywordEach [] X.env)).all (fun x=>x.1.isSome)
   && decide ([e].length+([]:List Keyword).length+(if ([]:List Keyword).isEmpty then 0 else 1)<30))=true:=by rfl)
  (hline:(apos.endLine == cpos.line)=true:=by rfl) (hplain:(backTo cpos (starEach [] X.env)).any (·.1)=false:=by rfl) :
  PX X C (.Call (.Attribute o "join" apos) [e] [] cpos) (aK oh a b):=Wm G.K ho he hbase hs hfew hline hplain
theorem cC{k k':Nat}{m:Nat}{ps:List Str}{g:List D→Option D}(O:Own X.prog X.w X.K X.mg X.base n k ps (iJ X.K m g))(G:Good X C)(hr:iZ k' X.A)(hk:Nat.ble k k'=true)(ha:Dg X C (e::es) ea)(hn:∀env ds env',ea env = .ok ds env'→ds.length=m)
  (hg:Gl X n:=by rfl) (hdb:(n == ("__debug__" : Str))=false:=by decide) (he:starEach (e::es) X.env=(false,eval e X.env)::starEach es X.env:=by rfl) (hpl:(backTo pos (starEach es X.env)).any (·.1)=false:=by rfl):PX X C (.Call (.Name n p) (e::es) [] pos) (az g ea):=by
 obtain⟨f,fd,h1,h2,h3,h4⟩:=O
 rw[G.K] at h1
 have h1':rF X.prog X.w X.K X.mg X.base GD k f fd ps (iJ C.K m g):=by rw[G.K];exact h1
 exact aaK h1' (hr.mono (Nat.le_of_ble_eq_true hk)) hg h2 h3 h4 ha hn hdb he hpl
theorem Dy{k k':Nat}{m:Nat}{ps:List Str}{g:List D→Option D}(O:Own X.prog X.w X.K X.mg X.base n k ps (Vk X.K m g))(G:Good X C)(hr:iZ k' X.A)(hk:Nat.ble k k'=true)(ha:Dg X C (e::es) ea)(hn:∀env ds env',ea env = .ok ds env'→ds.length=m)
  (hg:Gl X n:=by rfl) (hdb:(n == ("__debug__" : Str))=false:=by decide) (he:starEach (e::es) X.env=(false,eval e X.env)::starEach es X.env:=by rfl) (hpl:(backTo pos (starEach es X.env)).any (·.1)=false:=by rfl):Jy X C (.Call (.Name n p) (e::es) [] pos) (az g ea):=by
 obtain⟨f,fd,h1,h2,h3,h4⟩:=O
 rw[G.K] at h1
 have h1':rF X.prog X.w X.K X.mg X.base GD k f fd ps (Vk C.K m g):=by rw[G.K];exact h1
 exact Wi h1' (hr.mono (Nat.le_of_ble_eq_true hk)) hg h2 h3 h4 ha hn hdb he hpl
theorem j0{k k':Nat}{m:Nat}{ps:List Str}{g:List D→Option (D×D)}{v:Str}{pv:Pos}(i:Nat)(O:Own X.prog X.w X.K X.mg X.base n k ps (jn X.K m g))(G:Good X C)(hr:iZ k' X.A)(hk:Nat.ble k k'=true)(ha:Dg X C es ea)(hn:∀env ds env',ea env = .ok ds env'→ds.length+1=m)
  (hN:X.N[i]? = some v:=by rfl) (hv:uw X.env.scope v:=by first|exact Or.inl rfl|exact Or.inr (Or.inl rfl)|exact Or.inr (Or.inr rfl))
  (hg:Gl X n:=by rfl) (hdb:(n == ("__debug__" : Str))=false:=by decide) (he:starEach (.Name v pv::es) X.env=(false,eval (.Name v pv) X.env)::starEach es X.env:=by rfl) (hpl:(backTo pos (starEach es X.env)).any (·.1)=false:=by rfl)
  (hd:(v == ("__debug__" : Str))=false:=by decide) (hcd:(v == ("__classdict__" : Str))=false:=by decide):PX X C (.Call (.Name n p) (.Name v pv::es) [] pos) (cJ g i ea):=by
 obtain⟨f,fd,h1,h2,h3,h4⟩:=O
 rw[G.K] at h1
 have h1':rF X.prog X.w X.K X.mg X.base GD k f fd ps (jn C.K m g):=by rw[G.K];exact h1
 exact afA hN hv h1' (hr.mono (Nat.le_of_ble_eq_true hk)) hg h2 h3 h4 ha hn hdb he hpl hd hcd
theorem len0:∀(env:Env) (ds:List D) (env':Env),ao env = .ok ds env'→ds.length=0:=Qi
theorem bf{a:Ev}{r:cL}{m:Nat}(hr:∀env ds env',r env = .ok ds env'→ds.length=m):∀(env:Env) (ds:List D) (env':Env),aa a r env = .ok ds env'→ds.length=m+1:=Lq hr
theorem fO{r:cL}{m:Nat}(hr:∀env ds env',r env = .ok ds env'→ds.length=m):∀(env:Env) (ds:List D) (env':Env),r env = .ok ds env'→ds.length+1=m+1:=fun env ds env' h=>by rw[hr env ds env' h]
theorem aZ{lo:Nat}(i:Nat)(hnd:jA X.N=true:=by rfl)(hlo:Nat.ble lo i=true:=by rfl)(hfx:C.fx i=none:=by rfl)(hi:X.N[i]? = some n:=by rfl)(hx:Loc X.env.scope n:=by first|exact Or.inl rfl|exact Or.inr rfl)(hf:X.fn n=true∨X.env.scope.names.lookup n=some .local:=by first|exact .inl rfl|exact .inr rfl):Jr X C lo (.Name n pos) (ak i):=
 Rq (jQ hnd) hi hx (Nat.le_of_ble_eq_true hlo) hfx hf
theorem jT{lo:Nat}{k:Nat}{gs:Oc}{m:Nat}(G:Good X C)(h:Qz X C lo es gs)(hn:(assignEach es X.env).length=m:=by rfl)(hst:(assignEach es X.env).findIdx? (·.1)=none:=by rfl):Jr X C lo (.Tuple es k pos) (cV m gs):=Wk G.calm G.K h hn hst
theorem acP{lo:Nat}{ix:Expr}{ev:Ev}(i:Nat)(h:PX X C ix ev)(hN:X.N[i]? = some n:=by rfl)(hv:uw X.env.scope n:=by first|exact Or.inl rfl|exact Or.inr (Or.inl rfl)|exact Or.inr (Or.inr rfl))
  (ha:∀v,assign (.Subscript (.Name n px) ix pos) X.env v=(do
   let ov ←holding [v] (eval (.Name n px) X.env)
   let iv ←holding [v,ov] (eval ix X.env)
   standAt pos
   holding [v,ov,iv] (setItem ov iv v)
   release [v,ov,iv] []):=by intro _;rfl)
  (hd:(n == ("__debug__" : Str))=false:=by decide) (hcd:(n == ("__classdict__" : Str))=false:=by decide):Jr X C lo (.Subscript (.Name n px) ix pos) (Li i ev):=aaI hN hv h ha hd hcd
theorem bV{pos':Pos}(i:Nat)(he:PX X C e a)(hnd:jA X.N=true:=by rfl)(hfx:C.fx i=none:=by rfl)(hi:X.N[i]? = some n:=by rfl)(hx:Loc X.env.scope n:=by first|exact Or.inl rfl|exact Or.inr rfl)(hs:swapsWith e (some (.Name n pos')) pos.line X.env=pure false:=by rfl)(hf:X.fn n=true∨X.env.scope.names.lookup n=some .local:=by first|exact .inl rfl|exact .inr rfl) :
  Ce X C (.Assign [.Name n pos'] e pos) (aL a (ak i)):=We (jQ hnd) hi hx hfx he hs hf
theorem p8{pos':Pos}(i:Nat)(he:Jy X C e a)(hnd:jA X.N=true:=by rfl)(hfx:C.fx i=none:=by rfl)(hi:X.N[i]? = some n:=by rfl)(hx:Loc X.env.scope n:=by first|exact Or.inl rfl|exact Or.inr rfl)(hs:swapsWith e (some (.Name n pos')) pos.line X.env=pure false:=by rfl)(hf:X.fn n=true∨X.env.scope.names.lookup n=some .local:=by first|exact .inl rfl|exact .inr rfl) :
  Ce X C (.Assign [.Name n pos'] e pos) (dB i a):=Wf (jQ hnd) hi hx hfx he hs hf
theorem wW{apos cpos:Pos}(i:Nat)(G:Good X C)(he:PX X C e a)(hN:X.N[i]? = some n:=by rfl)(hv:uw X.env.scope n:=by first|exact Or.inl rfl|exact Or.inr (Or.inl rfl)|exact Or.inr (Or.inr rfl))
  (hs:swapsWith (.Call (.Attribute (.Name n px) "append" apos) [e] [] cpos) none pos.line X.env=pure false:=by rfl)
  (hfew:((backTo cpos (starEach [e] X.env)).all (fun x=>!x.1)&&(backToKw cpos (keywordEach [] X.env)).all (fun x=>x.1.isSome)
   && decide (([e]:List Expr).length+([]:List Keyword).length+(if ([]:List Keyword).isEmpty then 0 else 1)<30))=true:=by rfl)
  (hbase:attributeBase (.Name n px) "append" X.env (eval (.Name n px) X.env)=eval (.Name n px) X.env:=by rfl)
  (hline:(apos.endLine == cpos.line)=true:=by rfl) (hst:starEach [e] X.env=(false,eval e X.env)::starEach [] X.env:=by rfl) (hplain:(backTo cpos (starEach [] X.env)).any (·.1)=false:=by rfl)
  (hd:(n == ("__debug__" : Str))=false:=by decide) (hcd:(n == ("__classdict__" : Str))=false:=by decide):Ce X C (.Expr (.Call (.Attribute (.Name n px) "append" apos) [e] [] cpos) pos) (gq i a):=
 Wh hN hv he G.K hs hfew hbase hline hst hplain hd hcd
theorem Ke{k:Expr}{ek:Ev}{pos':Pos}(i:Nat)(G:Good X C)(hk:PX X C k ek)(he:PX X C e a)(hN:X.N[i]? = some n:=by rfl)(hv:uw X.env.scope n:=by first|exact Or.inl rfl|exact Or.inr (Or.inl rfl)|exact Or.inr (Or.inr rfl))
  (hs:swapsWith e (some (.Subscript (.Name n px) k pos')) pos.line X.env=pure false:=by rfl)
  (hd:(n == ("__debug__" : Str))=false:=by decide) (hcd:(n == ("__classdict__" : Str))=false:=by decide):Ce X C (.Assign [.Subscript (.Name n px) k pos'] e pos) (o5 i ek a):=Rp G.u1 hN hv hk he hs hd hcd
theorem gZ{tg:Expr}(G:Good X C)(h:PX X C x a):GC X C tg x (fG a):=Wj G.K h
theorem lG{tg:Expr}(hm:X.mg "range" = none)(ha:Dg X C [e] ea)(hl:∀env ds env',ea env = .ok ds env'→ds.length=1)(hg:Gl X "range":=by rfl)(hs:starEach [e] X.env=[(false,eval e X.env)]:=by rfl):GC X C tg (.Call (.Name "range" p) [e] [] pos) (d9 ea):=Kl hg hm ha hl hs
theorem FZ{tg e2:Expr}(hm:X.mg "range" = none)(ha:Dg X C [e,e2] ea)(hl:∀env ds env',ea env = .ok ds env'→ds.length=2)(hg:Gl X "range":=by rfl)(hs:starEach [e,e2] X.env=[(false,eval e X.env),(false,eval e2 X.env)]:=by rfl)(hs2:starEach [e2] X.env=[(false,eval e2 X.env)]:=by rfl):GC X C tg (.Call (.Name "range" p) [e,e2] [] pos) (d9 ea):=Kh hg hm ha hl hs hs2
theorem my{tg iter:Expr}{body:List Stmt}{it:cL}{g:GV}{bs:bQ}(G:Good X C)(hi:GC X C tg iter it)(hg:Jr X C 0 tg g)(hb:uy X C body bs)(hp:PassesOwn (model X.prog X.w) X.A X.env X.xe:=by exact PassesOwn.never)
  (hs:∀x,foldedSetIterable iter X.env x=pure x:=by intro _;rfl):Ce X C (.For tg iter body [] pos) (eO it g bs):=Wg hp G.calm hi hg hb hs
theorem Fi{cd:Expr}{body:List Stmt}{bs:bQ}(m:Nat)(G:Good X C)(hc:Oa X C cd t)(hb:uy X C body bs)(hp:PassesOwn (model X.prog X.w) X.A X.env X.xe:=by exact PassesOwn.never):Ce X C (.While cd body [] pos) (j5 t bs m):=O5 m hp hc hb
theorem sE{elt tg iter:Expr}{ifs:List Expr}{scope:Scope}(N':List Str){it:cL}{g:GV}{cc:dG}{ee:Ev}(lo:Nat)(ok:jG X scope N')(G:Good X C)(hi:GC X C tg iter it)
  (bg:∀X',dH X scope N' X'→Jr X' C lo tg g) (bc:∀X',dH X scope N' X'→Jq X' C ifs cc) (be:∀X',dH X scope N' X'→PX X' C elt ee)
  (hs:∀x,foldedSetIterable iter X.env x=pure x:=by intro _;rfl):Jy X C (.ListComp elt [⟨tg,iter,ifs,0⟩] scope pos) (fD lo N'.length it g cc ee):=aaH N' lo ok G.calm hi bg bc be hs
theorem Kd{elt tg iter:Expr}{ifs:List Expr}{scope:Scope}(N':List Str){spos py:Pos}{it:cL}{g:GV}{cc:dG}{ee:Ev}(lo:Nat)(i:Nat)(ok:jG X scope N')(G:Good X C)(hi:GC X C tg iter it)
  (bg:∀X',dH X scope N' X'→Jr X' C lo tg g) (bc:∀X',dH X scope N' X'→Jq X' C ifs cc) (be:∀X',dH X scope N' X'→PX X' C elt ee)
  (hnd:jA X.N=true:=by rfl) (hfx:C.fx i=none:=by rfl) (hy:X.N[i]? = some n:=by rfl) (hx:Loc X.env.scope n:=by first|exact Or.inl rfl|exact Or.inr rfl)
  (hsw:swapsWith (.ListComp elt [⟨tg,iter,ifs,0⟩] scope pos) (some (.Name n py)) spos.line X.env=pure true:=by rfl)
  (hf:X.fn n=true∨X.env.scope.names.lookup n=some .local:=by first|exact .inl rfl|exact .inr rfl)
  (hs:∀x,foldedSetIterable iter X.env x=pure x:=by intro _;rfl):Ce X C (.Assign [.Name n py] (.ListComp elt [⟨tg,iter,ifs,0⟩] scope pos) spos) (dB i (fD lo N'.length it g cc ee)):=O6 N' lo ok G.calm hi bg bc be (jQ hnd) hy hx hfx hsw hf hs
end
section
variable{P:Program}{w:World}{K:Fg}{mg:Str→Option Value}{base:Heap}{x:Str}{st:Stmt}{N ps:List Str}{k:Nat}{ev:bQ}
theorem zJ{x:Str}{f:Addr}{cdv:Value}{A:Around}{outer:List PySem.Env}{s:Shared}{H:Hp}{E:XK}{C:Cfg}(hC:C.K=K)(hr:iZ k (A.deeper (envOfC x (aD st) s.heap.objs.size f cdv))):Good (bx P w K mg base N x st f cdv A outer s H E) C:=⟨hC.symm,rfl,hr.units⟩
theorem bU(F:bD K mg x st ps)(S:bC N ps (aD st))
  (hb:∀(f:Addr) (cdv:Value) (A:Around) (outer:List PySem.Env) (s:Shared) (H:Hp) (E:XK),iZ k (A.deeper (envOfC x (aD st) s.heap.objs.size f cdv))→Good (bx P w K mg base N x st f cdv A outer s H E) (C0 K)→uy (bx P w K mg base N x st f cdv A outer s H E) (C0 K) (bw st) ev) :
  Own P w K mg base x (k+1) ps (iJ K ps.length (cP N.length ev)):=by
 obtain⟨f,fd,h1,h2,h3⟩:=F
 exact⟨f,fd,Jd h1 S fun cdv A outer s H E hr=>hb f cdv A outer s H E hr (zJ rfl hr),h2,h1.kp,h3⟩
theorem WK(F:bD K mg x st ps)(S:bC N ps (aD st))
  (hb:∀(f:Addr) (cdv:Value) (A:Around) (outer:List PySem.Env) (s:Shared) (H:Hp) (E:XK),iZ k (A.deeper (envOfC x (aD st) s.heap.objs.size f cdv))→Good (bx P w K mg base N x st f cdv A outer s H E) (C0 K)→uy (bx P w K mg base N x st f cdv A outer s H E) (C0 K) (bw st) ev) :
  Own P w K mg base x (k+1) ps (Vk K ps.length (runN N.length ev)):=by
 obtain⟨f,fd,h1,h2,h3⟩:=F
 exact⟨f,fd,Yl h1 S fun cdv A outer s H E hr=>hb f cdv A outer s H E hr (zJ rfl hr),h2,h1.kp,h3⟩
theorem uQ{y:Str}{qs:List Str}(F:bD K mg x st (y::qs))(S:bC N (y::qs) (aD st))
  (hb:∀(f:Addr) (cdv:Value) (A:Around) (outer:List PySem.Env) (s:Shared) (H:Hp) (E:XK) (a:Addr),iZ k (A.deeper (envOfC x (aD st) s.heap.objs.size f cdv))→Good (bx P w K mg base N x st f cdv A outer s H E) (C1 K a)→uy (bx P w K mg base N x st f cdv A outer s H E) (C1 K a) (bw st) ev) :
  Own P w K mg base x (k+1) (y::qs) (jn K (qs.length+1) (gV N.length ev)):=by
 obtain⟨f,fd,h1,h2,h3⟩:=F
 exact⟨f,fd,adZ h1 S fun cdv A outer s H E a hr=>hb f cdv A outer s H E a hr (zJ rfl hr),h2,h1.kp,h3⟩
theorem gU{sc:Scope}(h1:sc.kind = .function:=by rfl)(h2:sc.isCoroutine=false:=by rfl)(h3:sc.isGenerator=false:=by rfl)(h4:jA N=true:=by rfl)(h5:N.take ps.length=ps:=by rfl)
  (h6:(ps.all fun x=>decide (sc.names.lookup x=some .local)||decide (sc.names.lookup x=some .cell))=true:=by rfl) (h7:(sc.names.all fun y=>!decide (y.2 = .free))=true:=by rfl):bC N ps sc:=by
 refine⟨h1,h2,h3,jQ h4,h5,fun x hx=>?_,fun y hy z=>?_⟩
 ·have:=List.all_eq_true.mp h6 x hx
  rw[Bool.or_eq_true] at this
  rcases this with z|z
  ·exact .inl (of_decide_eq_true z)
  ·exact .inr (of_decide_eq_true z)
 ·have:=List.all_eq_true.mp h7 y hy
  rw[decide_eq_true z] at this
  exact absurd this (by decide)
end
end Ev
namespace Ev
open PySem PySem.Spec PySem.W PySem.Calls PyProof.Rows L2
theorem yS:∀(ns:List Int) (i:Int),i∈ns→Builtin.Int.intBits i≤WData.weightAll (ns.map WData.int)
 | [],_,h=>by simp at h
 | n::ns,i,h=>by
  rw[List.map_cons,WData.weightAll]
  rcases List.mem_cons.mp h with rfl|h
  ·have e:WData.weight (.int i)=Builtin.Int.intBits i:=by rw[WData.weight];rfl
   rw[e];omega
  ·have:=yS ns i h
   omega
noncomputable def Ju(ns:List Int):Prop:=∀i∈ns,Builtin.Int.intBits i≤2^20
theorem Gs{l:OpenLaw}{n:Nat}{q:Program}{loose:List Str}{XP:(Str→Option Value)→Heap→Prop}{YP:World→Heap→Prop}{d:DefRec}
  (hn:l.most=some n) (hdf:d.params.defaults=[])
  (call:∀(w:World) (s₀ s₁:Shared) (mg mb:Str→Option Value) (fa:Addr) (o:Obj) (pm cd doc:Value) (a:Addr) (vs:List Value) (ns:List Int),
   Ground q loose [] XP w s₀ mg mb s₁.heap→YP w s₁.heap→
   s₁.heap.get? fa=some o→o.data = .func (docDef d.name d.params d.body d.scope pm cd doc)→s₁.heap.CodeRec cd d.name→mg d.name=some (.ref fa)→
   s₁.heap.get? a=some { cls:=.type "list",data:=.seq vs.toArray }→IntsAre vs ns→ns.length≤n→Ju ns→s₁.gens = #[]→
   codeAny (model l.prog w) callerA (.call (.ref fa) ⟨[.ref a],[]⟩) (fun r s'=>r = .ok (.ret (.bool true))∧OldK s₁.heap s'.heap∧s'.os=s₁.os∧AllBare s'.gens) s₁) :
  WalkO q loose XP YP l.row.toRowW d [] (fun f vs=>PySem.call f vs):=by
 intro w s₀ s₁ mg mb G Y fa o pm cd doc dV kV ho hd hcd hD hmg hg args vals as hpre hlay hrd hwl hlo
 obtain rfl:dV = .none:=Dflts.none hD hdf
 obtain rfl:kV = .none:=Dflts.noKw hD
 obtain⟨a,vs,ns,rfl,rfl,hobj,hints,hlen⟩:=Att.Ow hn hpre hwl
 have Ni:Ju ns:=fun i hi=>by
  have h1:=(layableW_iff.mp (layableW_arg hlay _ (List.mem_singleton.mpr rfl))).2.2
  rw[WData.weight] at h1
  exact Nat.le_trans (yS ns i hi) h1
 refine enter_call (codeAny_mono (call w s₀ s₁ mg mb fa o pm cd doc a vs ns G Y ho (fd_plain hd) hcd hmg hobj hints hlen Ni hg) fun r s' hq=>?_)
 obtain⟨rfl,h2,h3,h4⟩:=hq
 exact⟨.inl ⟨.bool true,.bool true,[],rfl,fun _=>rfl,.bool true,Att.O9 l _,fun _=>⟨List.Pairwise.nil,fun _ hm=>(nomatch hm)⟩⟩,h2,h3,h4⟩
theorem aer{l:PySem.W.OpenLaw}{n k:Nat}{q:Program}{loose:List Str}{XP:(Str→Option Value)→Heap→Prop}{YP:World→Heap→Prop}{d:DefRec}{K:Params→PySem.W.Frag}{x:Str}{f:List D→Option D}
  (hn:l.most=some n) (hn2:n≤sizeLine) (hdf:d.params.defaults=[]) (hr:iZ k callerA)
  (hY:∀(w:World) (h:Heap),YP w h→(K w.params).In h)
  (hf:∀ns:List Int,ns.length≤n→Ju ns→f [.arr (ns.map .int)]=some (.bl true))
  (F:∀(w:World) (mg:Str→Option Value) (fa:Addr) (h:Heap),(K w.params).In h→h.Ns mainGlobals mg→mg d.name=some (.ref fa)→
   ∃fd:FuncData,(∀(s:Shared) (u:Value),BindsTo s fd ⟨[u],[]⟩ [(x,u)])∧
    ∀base:Heap,(K w.params).In base→base.Ns mainGlobals mg→rF l.prog w (K w.params) mg base GD k fa fd [x] (iJ (K w.params) 1 f)) :
  PySem.W.WalkO q loose XP YP l.row.toRowW d [] (fun f vs=>PySem.call f vs):=by
 refine Gs hn hdf fun w s₀ s₁ mg mb fa o pm cd doc a vs ns G Y ho hd hcd hmg hobj hints hlen Ni hg=>?_
 have KX:=hY w _ Y
 obtain⟨fd,hb,hF⟩:=F w mg fa _ KX G.T.g hmg
 refine S6 KX G.T.g G.T.b G.T.builtins G.T.nolimit hg hobj hints (Nat.le_trans hlen hn2) hr hF hb (fun H hO hS=>?_) fun H e s' z=>z
 refine⟨H,[.arr (ns.map .int)],.bl true,rfl,aO.refl H,⟨_,_,rfl,⟨by rw[List.length_map];exact Nat.le_trans hlen hn2,a,_,rfl,hS,?_⟩,rfl⟩,hf ns hlen Ni,fun v H' F' _ _ _ _ p=>p⟩
 clear hints hlen Ni hS
 induction ns with
 | nil=>exact rfl
 | cons m ns ih=>exact⟨_,_,rfl,rfl,ih⟩
section
variable{K:Fg}{h:Heap}{mg:Str→Option Value}
theorem funAt{x:Str}{st:Stmt}{ps:List Str}{f:Addr}{oc:Value}{od an:Option Addr}{osl:Array (Option Value)}{kV doc pm cdv ct:Value}(X:K.In h)(G:h.Ns mainGlobals mg)
  (a:PySem.W.nsIn K mainGlobals x=some (some (.ref f))) (l:K.lookup f=some ⟨oc,od,.func (PySem.W.fnOf x x (bF st) (bw st) (aD st) .none kV doc pm an cdv ct),osl⟩)
  (c:PySem.W.codeIn K cdv x=true) (k:PySem.W.keepIn K (.ref f)=true)
  (b:∀(kV doc pm:Value) (an:Option Addr) (cdv ct:Value) (us:List Value),us.length=ps.length→bindArgs (PySem.W.fnOf x x (bF st) (bw st) (aD st) .none kV doc pm an cdv ct) ⟨us,[]⟩=pure (ps.zip us)):bD K mg x st ps:=
 ⟨f,_,Ln l c k,PySem.W.mg_of X G a,(Ln (st:=st) l c k).binds b⟩
theorem Xw{x s:Str}{z:List Nat}{t:Tok}(X:K.In h)(G:h.Ns mainGlobals mg)(a:PySem.W.nsIn K mainGlobals x=some (some (.str s t)))(hs:s=strOf z)(hz:z.length≤sizeLine):Glb K mg x (.str z):=
 ⟨.str s,_,PySem.W.mg_of X G a,⟨t,rfl⟩,fun F=>⟨by rw[hs],hz⟩⟩
theorem Aw{x:Str}(X:K.In h)(G:h.Ns mainGlobals mg)(e:PySem.W.nsIn K mainGlobals x=some none):mg x=none:=PySem.W.mg_none_of X G e
end
end Ev
namespace Ev
open PySem L2
theorem Np{g:GV}{b:bQ}{all:List D}(P:List D→Env→Prop)(h:∀done d rest,all=done++d::rest→∀env,P done env→∃e1 e2,g d env=some e1∧b e1 = .nx e2∧P (done++[d]) e2):∀(ds done:List D),all=done++ds→∀env,P done env→∃e',j4 g b ds env = .nx e'∧P all e'
 | [],done,ha,env,hp=>⟨env,rfl,by rw[ha,List.append_nil];exact hp⟩
 | d::ds,done,ha,env,hp=>by
  obtain⟨e1,e2,h1,h2,h3⟩:=h done d ds ha env hp
  obtain⟨e',h4,h5⟩:=Np P h ds (done++[d]) (by rw[List.append_assoc];exact ha) e2 h3
  refine⟨e',?_,h5⟩
  unfold j4
  rw[h1]
  simp only
  rw[h2]
  exact h4
theorem jU{g:GV}{b:bQ}(all:List D)(P:List D→Env→Prop)(h:∀done d rest,all=done++d::rest→∀env,P done env→∃e1 e2,g d env=some e1∧b e1 = .nx e2∧P (done++[d]) e2)(env:Env)(h0:P [] env):∃e',j4 g b all env = .nx e'∧P all e':=Np P h all [] rfl env h0
theorem aP{a b:bQ}{env e:Env}(h:a env = .nx e):aC a b env=b e:=by unfold aC;rw[h]
theorem pY{a b:bQ}{env e:Env}{o:Bool}{d:D}(h:a env = .rt o d e):aC a b env = .rt o d e:=by unfold aC;rw[h]
theorem jm{it:cL}{g:GV}{b:bQ}{env e:Env}{ds:List D}(h:it env = .ok ds e):eO it g b env=j4 g b ds e:=by unfold eO;rw[h];rfl
theorem dg{a:Ev}{g:GV}{env e e':Env}{d:D}(h:a env = .ok d e)(h':g d e=some e'):aL a g env = .nx e':=by unfold aL;rw[h];show Dz (g d e)=_;rw[h'];rfl
theorem kY{t:dG}{a b:bQ}{env e:Env}(h:t env = .ok true e):cT t a b env=a e:=by unfold cT;rw[h];rfl
theorem kZ{t:dG}{a b:bQ}{env e:Env}(h:t env = .ok false e):cT t a b env=b e:=by unfold cT;rw[h];rfl
theorem cR{a:Ev}{env e:Env}{d:D}(h:a env = .ok d e):bh a env = .rt false d e:=by unfold bh;rw[h];rfl
theorem bG{g:List D→Option D}{a:cL}{env e:Env}{ds:List D}{d:D}(h:a env = .ok ds e)(h':g ds=some d):az g a env = .ok d e:=by unfold az;rw[h];show dY (g ds) e=_;rw[h'];rfl
theorem cH{g:D→D→Option D}{a b:Ev}{env e1 e2:Env}{x y d:D}(h1:a env = .ok x e1)(h2:b e1 = .ok y e2)(h3:g x y=some d):aK g a b env = .ok d e2:=by
 unfold aK
 rw[h1]
 show bindR (b e1) _=_
 rw[h2]
 show dY (g x y) e2=_
 rw[h3]
 rfl
theorem bM{g:D→D→Option D}{i:Nat}{b:Ev}{env e2:Env}{x y d:D}{o o':Bool}{x0:D}(h1:env[i]? = some (some (o',x0)))(h2:b env = .ok y e2)(h4:e2[i]? = some (some (o,x)))(h3:g x y=some d):au g i b env = .ok d e2:=by
 unfold au
 rw[h1]
 show bindR (b env) _=_
 rw[h2]
 show(match e2[i]? with|some (some (_,x))=>dY (g x y) e2|_=>.stuck)=_
 rw[h4]
 show dY (g x y) e2=_
 rw[h3]
 rfl
theorem bA{a:Ev}{r:cL}{env e1 e2:Env}{d:D}{ds:List D}(h1:a env = .ok d e1)(h2:r e1 = .ok ds e2):aa a r env = .ok (d::ds) e2:=by
 unfold aa
 rw[h1]
 show bindR (r e1) _=_
 rw[h2]
 rfl
theorem cW{env:Env}:ao env = .ok [] env:=rfl
theorem Ur{r:cL}{env e:Env}{ds:List D}(h:r env = .ok ds e)(hz:ds.length≤sizeLine):cG r env = .ok (.lst ds) e:=by
 unfold cG
 rw[h]
 show(if ds.length≤sizeLine then _ else _)=_
 rw[if_pos hz]
theorem tU{r:cL}{env e:Env}{ds:List D}(h:r env = .ok ds e)(hz:ds.length≤sizeLine):dm r env = .ok (.tup ds) e:=by
 unfold dm
 rw[h]
 show(if ds.length≤sizeLine then _ else _)=_
 rw[if_pos hz]
theorem lZ{f:List D→Option (D×D)}{i:Nat}{a:cL}{env e1:Env}{ds:List D}{x0 x d x':D}(h0:env[i]? = some (some (true,x0)))(h1:a env = .ok ds e1)(h2:e1[i]? = some (some (true,x)))(h3:f (x::ds)=some (d,x')):cJ f i a env = .ok d (e1.set i (some (true,x'))):=by
 unfold cJ
 rw[h0]
 show bindR (a env) _=_
 rw[h1]
 show(match e1[i]? with|some (some (true,x))=>(match f (x::ds) with|some (d,x')=>R.ok d (e1.set i (some (true,x')))|none=>R.stuck)|_=>R.stuck)=_
 rw[h2]
 show(match f (x::ds) with|some (d,x')=>R.ok d (e1.set i (some (true,x')))|none=>.stuck)=_
 rw[h3]
theorem Nk{i j:Int}(h:lX i j=true):vG (.int i) (.int j)=some (.int (i*j)):=by
 show gI lX (fun i j=>D.int (i*j)) (.int i) (.int j)=_
 unfold gI
 simp only
 rw[if_pos h]
theorem Uc{a b:List D}(h:a.length+b.length≤sizeLine):bT (.lst a) (.lst b)=some (.lst (a++b)):=by
 show(if a.length+b.length≤sizeLine then _ else _)=_
 rw[if_pos h]
theorem lL{a:Ev}{env e:Env}{b:Bool}(h:a env = .ok (.bl b) e):cX a env = .ok b e:=by unfold cX;rw[h];rfl
theorem Nt{a:Ev}{env e:Env}{d:D}{ds:List D}(h:a env = .ok d e)(h':Zf d=some ds):fG a env = .ok ds e:=by unfold fG;rw[h];show dY (Zf d) e=_;rw[h'];rfl
theorem jq{n:Nat}{ev:bQ}{x d x':D}{r:List D}{env:Env}(h:ev (xq n x r) = .rt false d env)(h0:env[0]? = some (some (true,x'))):gV n ev (x::r)=some (d,x'):=by
 unfold gV
 simp only
 rw[h]
 simp only
 rw[h0]
theorem gA{n:Nat}{ev:bQ}{d:D}{ds:List D}{env:Env}(h:ev (envOf n ds) = .rt false d env):cP n ev ds=some d:=by
 unfold cP
 rw[h]
theorem M7{g:GV}{e:Ev}(P:Env→Prop)(f:D→D):∀(ds:List D) (env:Env),P env→(∀d∈ds,∀env,P env→∃e1 e2,g d env=some e1∧e e1 = .ok (f d) e2∧P e2)→∃env',wH g cD e ds env = .ok (ds.map f) env'∧P env'
 | [],env,hp,_=>⟨env,rfl,hp⟩
 | d::ds,env,hp,h=>by
  obtain⟨e1,e2,h1,h2,h3⟩:=h d (List.mem_cons_self ..) env hp
  obtain⟨e3,h4,h5⟩:=M7 P f ds e2 h3 fun d' hd=>h d' (List.mem_cons_of_mem _ hd)
  refine⟨e3,?_,h5⟩
  unfold wH
  rw[h1]
  show bindR (e e1) _=_
  rw[h2]
  show bindR (wH g cD e ds e2) _=_
  rw[h4]
  rfl
theorem xn{lo n:Nat}{it:cL}{g:GV}{c:dG}{e:Ev}{env aG cQ:Env}{ds ys:List D}(h1:it env = .ok ds aG)(hl:aG.length=lo)(h2:wH g c e ds (aG++List.replicate (n - lo) none) = .ok ys cQ)(hz:ys.length≤sizeLine):fD lo n it g c e env = .ok (.lst ys) (cQ.take lo):=by
 unfold fD
 rw[h1]
 show(if aG.length=lo then _ else _)=_
 rw[if_pos hl,h2]
 show(if ys.length≤sizeLine then _ else _)=_
 rw[if_pos hz]
theorem dig(n:Int)(m:Nat)(hm:0<m):∃d:Nat,d<m∧n % (m:Int)=(d:Int):=by
 have h1:0≤n % (m:Int):=Int.emod_nonneg n (by omega)
 have h2:n % (m:Int)<m:=Int.emod_lt_of_pos n (by omega)
 exact⟨(n % (m:Int)).toNat,by omega,by omega⟩
theorem Gv{α:Type}{xs:List α}{d:Nat}(h:d<xs.length):pN xs (d:Int)=some xs[d]:=mj (List.getElem?_eq_getElem h)
end Ev
namespace L2
open PySem PySem.Spec PyProof.Rows
section
variable{X:Cx}{pins:List (Addr×Obj)}{σ:St}{H:Hp}{s:Shared}{h':Heap}
theorem Inv.drawn{t':Nat}{ch:List Addr}{T:Addr}{o:HO}(I:Inv X pins σ H s)(hch:∀b∈ch,qp X pins H b)(k:∀b u,b ∉ ch→s.heap.get? b=some u→h'.get? b=some u)(hT:s.heap.objs.size≤T)
  (new:ik X.prog X.w (upd H T o) h' T o):Inv X pins σ (upd H T o) { s with heap:=h',toks:=t' }:=by
 have nT:H T=none:=I.hok.fresh hT
 have Y0:∀b u,H b=some u→b ∉ ch:=fun b u e z=>by rw[(hch b z).1] at e;cases e
 have up:∀b u,H b=some u→upd H T o b=some u:=fun b u e=>by rw[bK (fZ e nT)];exact e
 refine I.step (g':=s.gens) (d':=s.drawn) (ch:=ch) (fun b hb=>?_) (fun b u _ _ hc e _=>k b u hc e) (fun b u _ _ hc e _=>⟨u.slots,k b u hc e⟩) (fun b u hc e n=>?_)
  (fun b u hc e=>⟨u,k b u hc e⟩) (fun b xs e=>up b _ e) (fun b u v e=>up b _ e) (fun b ps e=>⟨#[],by rw[up b _ e];simp⟩) (fun m hm=>?_) (fun b u e=>?_) I.bare
 ·obtain⟨h0,h1,h2,h3,h4,h5⟩:=hch b hb
  exact⟨h3,h1,h4,h5⟩
 ·have hb:b≠T:=fun z=>by
   subst z
   exact absurd (Heap.lt_size e) (Nat.not_lt.mpr hT)
  rw[bK hb];exact n
 ·obtain⟨u,es,ep,ho,r⟩:=hm
  have hL:X.env.locals ∉ ch:=fun z=>(hch _ z).2.1 rfl
  exact⟨u,es,ep,k _ u hL ho,r⟩
 ·by_cases hb:b=T
  ·subst hb
   rw[aW] at e
   cases e
   exact new
  ·rw[bK hb] at e
   refine(I.hok b u e).stay (fun c v hc q=>k c v ?_ q) (fun c q=>up _ _ q) fun c xs q=>up _ _ q
   rcases hc with z|z
   ·rw[z];exact Y0 b u e
   ·exact Y0 c _ z
theorem Inv.En{t':Nat}{ch:List Addr}(I:Inv X pins σ H s)(hch:∀b∈ch,qp X pins H b)(k:∀b u,b ∉ ch→s.heap.get? b=some u→h'.get? b=some u):Inv X pins σ H { s with heap:=h',toks:=t' }:=by
 have Y0:∀b u,H b=some u→b ∉ ch:=fun b u e z=>by rw[(hch b z).1] at e;cases e
 refine I.step (g':=s.gens) (d':=s.drawn) (ch:=ch) (fun b hb=>?_) (fun b u _ _ hc e _=>k b u hc e) (fun b u _ _ hc e _=>⟨u.slots,k b u hc e⟩) (fun b u hc e n=>n)
  (fun b u hc e=>⟨u,k b u hc e⟩) (fun b xs e=>e) (fun b u v e=>e) (fun b ps e=>⟨#[],by rw[e];simp⟩) (fun m hm=>?_) (fun b u e=>?_) I.bare
 ·obtain⟨h0,h1,h2,h3,h4,h5⟩:=hch b hb
  exact⟨h3,h1,h4,h5⟩
 ·obtain⟨u,es,ep,ho,r⟩:=hm
  have hL:X.env.locals ∉ ch:=fun z=>(hch _ z).2.1 rfl
  exact⟨u,es,ep,k _ u hL ho,r⟩
 ·refine(I.hok b u e).stay (fun c v hc q=>k c v ?_ q) (fun _ q=>q) fun _ _ q=>q
  rcases hc with z|z
  ·rw[z];exact Y0 b u e
  ·exact Y0 c _ z
end
noncomputable def Ite(z:Str):It:=⟨fun i _=>i<z.cps.size,fun i H x H'=>∃p c,z.cps[i]? = some c∧H p=none∧H'=upd H p (.tup [.int i,.str ⟨#[c]⟩])∧x = .ref p,fun i _=>i=z.cps.size⟩
theorem uz{P:Program}{w:World}{K:PySem.W.Frag}{elts:List Expr}{k:Nat}{pos:Pos}(e it:Addr)(z:Str)(t:Tok)(ty:String)(hei:e≠it)
  (D:∀A:Around,A.handled=none→Draws P w A it [it] z.cps.size (fun i v=>∃c u,z.cps[i]? = some c∧v = .str ⟨#[c]⟩ u) (fun i h=>h.IsStrIter it ty z t i)) :
  Turn P w K (.Tuple elts k pos) (Ite z) [e,it] e (fun i h=>(∃old,IsEnum h e it i old)∧h.IsStrIter it ty z t i) where
 mem:=by simp
 obj:=fun i h st b hb=>by
  obtain⟨⟨old,he⟩,o,ho,hc,hd⟩:=st
  rcases List.mem_cons.mp hb with rfl|hb
  ·exact⟨_,he,fun v z=>by cases z⟩
  ·rw[List.mem_singleton.mp hb]
   exact⟨o,ho,fun v z=>by rw[hd] at z;cases z⟩
 keep:=fun i h h' st kk=>by
  obtain⟨⟨old,he⟩,o,ho,r⟩:=st
  exact⟨⟨old,kk e (by simp) _ he⟩,o,kk it (by simp) o ho,r⟩
 item:=by
  intro X hP hw hK hc i pins s σ H E I hf st hg
  subst hP hw hK
  obtain⟨⟨old,he⟩,hit⟩:=st
  refine wpAny_pyNext_enum_itemD (A:=X.A) (D X.A.in1 (I.ok.hd hc)) he hit hg hei (by simp[hei]) fun x h' tk hv ho hSt acN hsz hk=>?_
  obtain⟨c,u,hcz,rfl⟩:=hv
  have hT:s.heap.objs.size≤s.heap.objs.size:=Nat.le_refl _
  have helt:e<s.heap.objs.size:=Heap.lt_size he
  have hilt:it<s.heap.objs.size:=by obtain⟨_,x,_⟩:=hit;exact Heap.lt_size x
  have nT:H s.heap.objs.size=none:=I.hok.fresh hT
  refine⟨_,rfl,?_⟩
  refine wpAny_letOwnedTupleGo_enum (s:={ s with heap:=h',toks:=tk+1 }) ho fun h'' acL hs''=>?_
  have oU:∀b o,b≠e→h'.get? b=some o→h''.get? b=some o:=fun b o hb q=>(hs''.2 b hb).trans q
  have hnT:s.heap.objs.size ∉ [e,it]:=fun hb=>by
   rcases List.mem_cons.mp hb with z|hb
   ·exact Nat.ne_of_gt helt z
   ·exact Nat.ne_of_gt hilt (List.mem_singleton.mp hb)
  refine⟨.ref s.heap.objs.size,upd H s.heap.objs.size (.tup [.int i,.str ⟨#[c]⟩]),I.drawn (t':=tk+1) (ch:=[e,it]) hf (fun b o hb q=>oU b o (fun z=>hb (by simp[z])) (hk b o (fun z=>hb (by simp[z])) (fun z=>hb (by simp[z])) q)) hT ?_,rfl,⟨_,c,hcz,nT,rfl,rfl⟩,⟨⟨_,by simpa using acL⟩,?_⟩,fun b hb=>?_⟩
  ·exact⟨by show 2≤sizeLine;decide,[.int i tk,.str ⟨#[c]⟩ u],.cons ⟨_,rfl⟩ (.cons ⟨_,rfl⟩ .nil),_,oU _ _ (Nat.ne_of_gt helt) acN,rfl,⟨_,rfl⟩,rfl⟩
  ·obtain⟨o,q,r⟩:=hSt
   exact⟨o,oU it o hei.symm q,r⟩
  ·have hne:b≠s.heap.objs.size:=fun z=>by
    subst z
    exact hnT hb
   rw[bK hne];exact(hf b hb).1
 done:=by
  intro X hP hw hK hc i pins s σ H E I hf st hg
  subst hP hw hK
  have W:=WalksT.enumerateD (A:=X.A) (D X.A.in1 (I.ok.hd hc)) e hei (by simp[hei]) (by simp)
  have hg':i=z.cps.size:=hg
  subst hg'
  exact W.done s _ _ st fun h' tk hk=>⟨rfl,I.En (t':=tk) (ch:=[e,it]) hf fun b o hb e=>hk b o hb e⟩
 self:=fun A i s Q E st h=>by
  obtain⟨⟨old,he⟩,_⟩:=st
  exact wpAny_pyIter_enum he h
section
variable{X:Cx}{tg:Expr}
noncomputable def ain(ta:TA):TI:=fun σ H R=>ta σ H fun vs H1=>∃z,vs=[.str z]∧R (Ite z) H1
theorem Ww{elts:List Expr}{k:Nat}{tp:Pos}{a:Expr}{ta:TA}{p pos:Pos}(hg:Gl X "enumerate")(hm:X.mg "enumerate" = none)(ha:PA X [a] ta)(hs:starEach [a] X.env=[(false,eval a X.env)]:=by rfl):PI X (.Tuple elts k tp) (.Call (.Name "enumerate" p) [a] [] pos) (ain ta):=by
 intro pins s σ H R I h
 refine Call_ (uT I hg hm PyProof.Rows.boot_enumerate (PyProof.Rows.callWith_type1 (gw (ha pos pins s σ H _ I h) fun us s1 ⟨vs,H1,I1,r1,q1⟩=>?_) hs rfl))
 obtain⟨z,e,q⟩:=q1
 subst e
 cases r1 with
 | cons r rr=>
  cases rr
  obtain⟨t,rfl⟩:=r
  refine call_enumerate_str fun h' he hit hsz hk=>?_
  refine wpAny_pyIter_enum he ?_
  have I2:Inv X pins σ H1 { s1 with heap:=h' }:=I1.kept (t':=s1.toks) hk
  have own:∀b ∈ [s1.heap.objs.size+1,s1.heap.objs.size],qp X pins H1 b:=fun b hb=>by
   rcases List.mem_cons.mp hb with rfl|hb
   ·exact I1.Lp (Nat.le_succ _) (I1.hok.fresh (Nat.le_succ _))
   ·rw[List.mem_singleton.mp hb];exact I1.Lp (Nat.le_refl _) (I1.hok.fresh (Nat.le_refl _))
  cases hz:z.cps.all (·< 128)
  ·have hit':h'.IsStrIter s1.heap.objs.size "str_iterator" z t 0:=by simpa[strIterType,hz] using hit
   exact⟨s1.heap.objs.size+1,[s1.heap.objs.size+1,s1.heap.objs.size],_,_,H1,rfl,I2,uz _ _ z t "str_iterator" (Nat.succ_ne_self _) (fun A hA=>Draws.strWide hA _ z t),⟨⟨_,he⟩,hit'⟩,own,q⟩
  ·have hit':h'.IsStrIter s1.heap.objs.size "str_ascii_iterator" z t 0:=by simpa[strIterType,hz] using hit
   exact⟨s1.heap.objs.size+1,[s1.heap.objs.size+1,s1.heap.objs.size],_,_,H1,rfl,I2,uz _ _ z t "str_ascii_iterator" (Nat.succ_ne_self _) (fun A hA=>Draws.strAscii hA _ z t),⟨⟨_,he⟩,hit'⟩,own,q⟩
end
end L2
namespace L2
open PySem PySem.Spec PyProof.Rows PySem.Builtin PySem.Builtin.Str
section
variable{X:Cx}{pins:List (Addr×Obj)}{σ:St}{H:Hp}{s:Shared}{a:Addr}{xs:List V}
theorem Inv.aag(I:Inv X pins σ H s)(h:oM X.K H a xs):∃its:List Value,Vals xs its∧De s.heap a its.toArray:=by
 rcases h with h|⟨o,its,n,hk,hc,hdn,hs,hz,r⟩
 ·obtain⟨z,its,r,p⟩:=h.ok I.hok
  exact⟨its,r,p⟩
 ·exact⟨its.toList,r,⟨o,I.kIn a o hk,hc,⟨n,by simpa using hs⟩,hdn⟩⟩
end
section
variable{X:Cx}{o e:Expr}{to te:TE}{name:Str}{apos cpos:Pos}{id:String}{r:V→List V→Hp→VK→Prop}{t:TA}
noncomputable def ak4(te ts:TE):TE:=fun σ H Q=>te σ H fun x H1=>ts σ H1 fun y H2=>∃z,x = .str z∧z.length≤sizeLine∧y = .int (-1)∧Q (.str ⟨z.cps.toList.reverse.toArray⟩) H2
theorem Kf(z:Str)(u:Tok):(⟨((slicePicked z none none (some (-1,u))).filterMap (z.cps[·]?)).toArray⟩:Str)=⟨z.cps.toList.reverse.toArray⟩:=by
 have h:=PyProof.Rows.step_rev_list z u
 unfold Txt.sliceBy at h
 have h1:¬(((((some ((-1:Int),u)).map (·.1)).getD 1 == 1)&&((slicePicked z none none (some (-1,u))).length == z.length))=true):=by
  have:((((some ((-1:Int),u)).map (·.1)).getD 1 == 1))=false:=rfl
  rw[this];simp
 rw[if_neg h1] at h
 have h2:((slicePicked z none none (some (-1,u))).filterMap (z.cps[·]?))=z.cps.toList.reverse:=by
  have h3:((slicePicked z none none (some (-1,u))).filterMap (z.cps[·]?))=(List.range z.length).map fun k=>z.cps.getD (z.length - 1 - k) 0:=by simpa using h
  rw[h3]
  apply List.ext_getElem
  ·simp[Str.length]
  ·intro i h4 h5
   have hi:i<z.cps.size:=by simpa[Str.length] using h4
   simp[Str.length,Array.getD,List.getElem_reverse]
   rw[dif_pos (by omega)]
 rw[h2]
theorem aaX{st:Expr}{ts:TE}{p2 pos:Pos}(he:PE X e te)(hst:PE X st ts):PE X (.Subscript e (.Slice none none (some st) p2) pos) (ak4 te ts):=by
 intro pins s σ H Q I h
 refine Subscript_ (gw (he pins s σ H _ I h) fun v s1 ⟨x,H1,I1,r1,q1⟩=>?_)
 refine wpAny_Slice ?_
 rw[evalPart_none,evalPart_some]
 refine wpAny_pure (wpAny_pure (gw (hst pins s1 σ H1 _ I1 q1) fun w s2 ⟨y,H2,I2,r2,q2⟩=>?_))
 obtain⟨z,ex,hz,ey,q⟩:=q2
 subst ex;subst ey
 obtain⟨t,rfl⟩:=r1
 obtain⟨t',rfl⟩:=r2
 have I4:Inv X pins σ H2 { s2 with heap:=s2.heap.push { cls:=.type "slice",data:=.fields #[.none,.none,.int (-1) t'] } }:=I2.kept (t':=s2.toks) fun b ob q=>Heap.get?_push_of_some _ q
 show wpAny (model X.prog X.w) X.A (subscriptTail e (.Slice none none (some st) p2) (.str z t) (.ref s2.heap.objs.size)) (EP X pins σ Q) X.xe { s2 with heap:=s2.heap.push { cls:=.type "slice",data:=.fields #[.none,.none,.int (-1) t'] } }
 refine tail_any (ops:=[.ref s2.heap.objs.size,.str z t]) (typeIs_str _ z t) PySem.F.slot_str_getitem.lookup ?_ (by with_unfolding_all rfl)
 refine wpAny_getItem_str_slice (l:=none) (u:=none) (st:=some (-1,t')) ⟨_,Heap.get?_push_size _ rfl,rfl,rfl⟩ rfl ?_
 unfold sliceMade
 have h1:¬(((((some ((-1:Int),t')).map (·.1)).getD 1 == 1)&&((slicePicked z none none (some (-1,t'))).length == z.length))=true):=by
  have:((((some ((-1:Int),t')).map (·.1)).getD 1 == 1))=false:=rfl
  rw[this];simp
 rw[if_neg h1,Kf]
 refine⟨?_,⟨.str ⟨z.cps.toList.reverse.toArray⟩,H2,I4.tok _,⟨_,rfl⟩,q⟩⟩
 show z.cps.toList.reverse.toArray.size≤sizeLine
 simpa[Str.length] using hz
end
end L2
namespace Ev
open PySem PySem.Spec PyProof.Rows L2 PySem.Builtin
section
variable{X:Cx}{C:Cfg}{pos:Pos}{e x y:Expr}{a b:Ev}
noncomputable def qi:D→Option D
 | .int i=>some (.int (-i))
 | _=>none
theorem aad:UnD C (rU fun i=>.int (-i)) qi:=by
 intro Pr F env σ H x d vx Q r px e q
 cases x with
 | int i=>cases e;exact⟨i,px.int,q _ H F r (aO.refl F) rfl⟩
 | _=>cases e
theorem wL(ha:PX X C x a):PX X C (.UnaryOp .USub x pos) (oA qi a):=afw QW aad ha
noncomputable def acY:D→Option D
 | .str z=>some (.str z.reverse)
 | _=>none
noncomputable def ql(a:Ev):Ev:=fun env=>bindR (a env) fun d aG=>dY (acY d) aG
theorem Dh{p2 p3 p4:Pos}{k:Nat}(ha:PX X C x a):PX X C (.Subscript x (.Slice none none (some (.UnaryOp .USub (.Constant (.int 1) k p4) p3)) p2) pos) (ql a):=by
 refine(aaX (p2:=p2) (pos:=pos) ha (YS (pos:=p3) QW (RP (i:=1) (j:=k) (pos:=p4)))).imp fun σ H Q hq=>?_
 obtain⟨Pr,F,env,env',d,r,e,q⟩:=hq
 obtain⟨z,aG,e1,e2⟩:=aR e
 obtain⟨e3,rfl⟩:=eQ e2
 cases z with
 | str z=>
  cases e3
  refine⟨Pr,F,env,env',.str z,r,e1,fun v H1 F1 r1 s1 p1=>?_⟩
  obtain⟨rfl,hz⟩:=p1
  refine⟨1,rfl,strOf z,rfl,by rw[fL];exact hz,rfl,q _ H1 F1 r1 s1 ⟨by simp[strOf],by rw[List.length_reverse];exact hz⟩⟩
 | _=>cases e3
noncomputable def qm(x:List Nat):List D:=x.zipIdx.map fun p=>.tup [.int (p.2:Nat),.str [p.1]]
noncomputable def Gh(a:cL):cL:=fun env=>bindR (a env) fun ds aG=>match ds with
 | [.str x]=>.ok (qm x) aG
 | _=>.stuck
theorem Lg{elts:List Expr}{k:Nat}{tp p:Pos}{ea:cL}(hm:X.mg "enumerate" = none)(ha:Dg X C [e] ea)(hg:Gl X "enumerate":=by rfl)(hs:starEach [e] X.env=[(false,eval e X.env)]:=by rfl):GC X C (.Tuple elts k tp) (.Call (.Name "enumerate" p) [e] [] pos) (Gh ea):=
 (Ww hg hm ha hs).imp fun σ H R hq=>by
  obtain⟨Pr,F,env,env',ds,r,e,q⟩:=hq
  obtain⟨as,aG,e1,e2⟩:=aR e
  refine⟨Pr,F,env,aG,as,r,e1,fun vs H1 F1 r1 s1 p1=>?_⟩
  split at e2
  ·rename_i x
   cases e2
   obtain⟨v,w,rfl,⟨rfl,hz⟩,p2⟩:=p1
   cases p2
   refine⟨strOf x,rfl,q _ H1 F1 r1 s1 fun i H2 s2=>⟨fun _ ei=>?_,fun d hd=>?_⟩⟩
   ·show i=x.toArray.size
    rw[ei];simp[qm]
   ·unfold qm at hd
    rw[List.getElem?_map] at hd
    obtain⟨⟨c,j⟩,hc,rfl⟩:=Option.map_eq_some_iff.mp hd
    rw[List.getElem?_zipIdx] at hc
    obtain⟨c',hc',h2⟩:=Option.map_eq_some_iff.mp hc
    cases h2
    refine⟨?_,fun y H3 hy=>.inr ?_⟩
    ·show i<x.toArray.size
     have:=(List.getElem?_eq_some_iff.mp hc').1
     simpa using this
    ·obtain⟨p,c2,h3,h4,rfl,rfl⟩:=hy
     have h5:x[i]? = some c2:=by simpa[strOf] using h3
     rw[hc'] at h5;cases h5
     exact⟨p,_,_,h4,rfl,rfl,rfl,by show 2≤sizeLine;decide,_,_,rfl,by simp[Rep],_,_,rfl,⟨rfl,by show 1≤sizeLine;decide⟩,rfl⟩
  ·cases e2
end
end Ev
namespace Ev
open PySem PySem.Spec PyProof.Rows L2 PySem.Builtin
theorem PL{prog:Program}{w:World}{A:Around}{E:Value→Shared→Prop}{s:Shared}{a:Addr}{o:Obj}{xs:Array Value}{k:Nat}{Q:Option Value→Shared→Prop}
  (hx:s.heap.get? a=some o) (hc:o.cls = .type "tuple") (hdat:o.data = .seq xs k) (hd:o.dict=none) (hA:A.handled=none)
  (h:∀h' tk,(∀b u,s.heap.get? b=some u→h'.get? b=some u)→Q none { s with heap:=h',toks:=tk }):wpAny (model prog w) A (getAttr? (.ref a) "keys") Q E s:=by
 obtain⟨hp,g,d,tk,os⟩:=s
 obtain⟨oc,od,dt,sl⟩:=o
 cases hc;cases hdat;cases hd
 have hT:∀tk',(⟨hp,g,d,tk',os⟩:Shared).TypeIs (.ref a) "tuple":=fun _=>⟨_,hx,rfl⟩
 have f1:=sub_AttributeError
 have f3:=F.slot_tuple_getattribute.lookup
 have f4:=F.slot_tuple_getattribute.bind (.ref a)
 have f5:=am_tuple_getattr_none
 have hmiss:typeLookup (.type "tuple") "keys" = pure none:=by rw[typeLookup_type,builtinLookup_eq_fast];kernel_rfl
 unfold getAttr? getAttrBy? getAttrBy
 repeat (any_goals (first|assumption|exact hT _|((with_reducible show wpAny _ _ (call (Value.builtin "tuple.__getattribute__") _ _) _ _ _);refine call_meets F.slot_tuple_getattribute (hT _) am_entry_tuple_getattribute (F.args_tuple_getattribute_2 _ _) (meets_getattribute_miss_tuple a xs k sl "keys" _ hmiss (by decide +kernel) (by decide +kernel)) ⟨hx,hA,fun h' tk' e hx'=>?_⟩)|wp_step))
 obtain⟨t',u',he⟩:=hx'.there
 show wpAny _ _ (getattributeRaised _ _ _ _ _ _ _) _ _ _
 unfold getattributeRaised
 repeat (any_goals (first|assumption|wp_step))
 exact h _ _ hx'.keeps
structure Pr where
 p:Addr
 k:Key
 kv:Value
 v:Value
noncomputable def Vg(h:Heap)(r:Pr):Prop:=h.IsTuple r.p #[r.kv,r.v]∧Bg r.k r.kv=true
theorem Vg.keep{h h':Heap}{r:Pr}{c d:Addr}(x:Vg h r)(n1:r.p≠c)(n2:r.p≠d)(k:∀b o,b≠c→b≠d→h.get? b=some o→h'.get? b=some o):Vg h' r:=
 let ⟨⟨o,ho,q⟩,y⟩:=x;⟨⟨o,k _ o n1 n2 ho,q⟩,y⟩
noncomputable def putAll(kvs:List (Key×Value))(rs:List Pr):List (Key×Value):=rs.foldl (fun acc r=>stored acc r.k r.v) kvs
theorem j7:plainId "dict.update.loop" = true:=by decide +kernel
theorem tW:entryFor table "dict.update.loop" = some Builtin.«dict.update.loop»:=entryFor_of_tree (by kernel_rfl)
theorem GP{prog:Program}{w:World}{d it a:Addr}{its:List Value}(hdi:d≠it)(hda:d≠a)(hia:it≠a):∀(rs:List Pr) (i:Nat) (kvs:List (Key×Value)) (A:Around) (R:Result→Shared→Prop) (s:Shared),
  A.handled=none→its.drop i=rs.map (fun r=>Value.ref r.p)→s.heap.IsTuple a its.toArray→s.heap.IsTupleIter it a i→s.heap.DictOf (d7 prog w) d kvs→(∀r∈rs,Vg s.heap r∧r.p≠d∧r.p≠it)→kvs.length+rs.length≤sizeLine→
  (∀h' tk,h'.DictOf (d7 prog w) d (putAll kvs rs)→(∀b o,b≠d→b≠it→s.heap.get? b=some o→h'.get? b=some o)→R (.ok (.ret .none)) { s with heap:=h',toks:=tk })→
  wpAny (model prog w) A.in1 (Builtin.«dict.update.loop» ⟨[.ref d,.ref it,rawInt i,.none],[]⟩) (fun fin s'=>match fin with|.done f=>R (.ok f) s'|.again c'=>c'.quiet=true∧codeAny (model prog w) A c' R s') (fun e s'=>R (.error e) s') s
 | [],i,kvs,A,R,s,hh,hdr,ht,hit,hD,_,_,h=>by
  unfold Builtin.«dict.update.loop»
  have hx:its.toArray[i]? = none:=by
   have:its.length≤i:=by
    have:=congrArg List.length hdr
    rw[List.length_drop] at this
    simp at this
    omega
   simp;omega
  refine wpAny_bind (wpAny_pyNext_tuple_end hh hit ht hx fun h' hex=>?_)
  show wpAny _ _ (Builtin.Dict.addKeywords d [] >>= _) _ _ _
  refine wpAny_bind (wpAny_pure (wpAny_pure ?_))
  exact h h' s.toks (hD.extBut hex hdi) fun b o _ h2 e=>hex b o h2 e
 | r::rs,i,kvs,A,R,s,hh,hdr,ht,hit,hD,hrs,hz,h=>by
  unfold Builtin.«dict.update.loop»
  obtain⟨⟨hpt,hkey⟩,n1,n2⟩:=hrs r (List.mem_cons_self ..)
  have hlt:i<its.length:=by
   have:=congrArg List.length hdr
   rw[List.length_drop,List.map_cons,List.length_cons] at this
   omega
  have hx0:its[i]? = some (.ref r.p):=by
   have:=congrArg (fun l=>l[0]?) hdr
   simpa using this
  have hx:its.toArray[i]? = some (.ref r.p):=by simpa using hx0
  have amC:its.drop (i+1)=rs.map (fun r=>Value.ref r.p):=by
   have:=congrArg List.tail hdr
   rw[List.tail_drop] at this
   simpa using this
  refine wpAny_bind (wpAny_pyNext_tuple_item hit ht hx fun h' hit' hs'=>?_)
  have k1:∀b o,b≠it→s.heap.get? b=some o→h'.get? b=some o:=fun b o hb e=>(hs'.2 b hb).trans e
  obtain⟨op,hop,hcp,np,hdp⟩:=hpt
  have hop':h'.get? r.p=some op:=k1 _ _ n2 hop
  dsimp only
  refine wpAny_bind (wpAny_holding (wpAny_bind (wpAny_tryCatch ?_)))
  unfold Builtin.Dict.pairItems
  refine wpAny_bind (wpAny_typeOf (T:="tuple") ⟨op,hop',hcp⟩ ?_)
  rw[if_pos (by decide)]
  unfold seqItems?
  refine wpAny_bind (wpAny_bind (wpAny_load hop' ?_))
  rw[hdp]
  refine wpAny_pure (wpAny_pure ?_)
  show wpAny _ _ (holding [r.kv,r.v] (dictSet d r.kv r.v)) _ _ _
  have hzk:kvs.length≤sizeLine:=by rw[List.length_cons] at hz;omega
  refine wpAny_holding (wpAny_dictSet_pairs (knd:=d7 prog w) (kvs:=kvs) (k:=r.k) (hsz:=hzk) hkey (hD.sameBut hs' hdi) fun h'' amI hs''=>?_)
  have k2:∀b o,b≠d→b≠it→s.heap.get? b=some o→h''.get? b=some o:=fun b o hb1 hb2 e=>(hs''.2 b hb1).trans (k1 b o hb2 e)
  have hc:((i:Int)+1)=((i+1:Nat):Int):=by push_cast;rfl
  rw[hc]
  refine wpAny_pure ⟨plainId_quiet j7 _,codeAny_builtin tW ?_⟩
  rw[Around.under_plainId j7 _]
  have hln:(stored kvs r.k r.v).length≤kvs.length+1:=by
   have:=stored_length_le kvs r.k r.v
   exact this
  refine GP hdi hda hia rs (i+1) (stored kvs r.k r.v) A R _ hh amC ?_ ?_ amI (fun q hq=>?_) (by rw[List.length_cons] at hz;omega) fun h3 tk hD3 k3=>?_
  ·obtain⟨o,ho,q⟩:=ht
   exact⟨o,k2 a o hda.symm hia.symm ho,q⟩
  ·obtain⟨o,ho,q⟩:=hit'
   exact⟨o,(hs''.2 it hdi.symm).trans ho,q⟩
  ·obtain⟨p1,p2,p3⟩:=hrs q (List.mem_cons_of_mem _ hq)
   exact⟨p1.keep p2 p3 k2,p2,p3⟩
  ·exact h h3 tk hD3 fun b o hb1 hb2 e=>k3 b o hb1 hb2 (k2 b o hb1 hb2 e)
section
variable{X:Cx}{C:Cfg}{pos:Pos}
noncomputable abbrev Pv:=Addr×Key×V
noncomputable def oO(kvs:List (Key×V))(rs:List Pv):List (Key×V):=rs.foldl (fun acc r=>putK acc r.2.1 r.2.2) kvs
noncomputable def Rn(K:Fg):List V→Hp→VK→Prop:=fun xs H Q=>∃(a:Addr) (rs:List Pv),xs=[.ref a]∧oM K H a (rs.map fun r=>V.ref r.1)∧(∀r∈rs,oM K H r.1 [kV r.2.1,r.2.2])∧rs.length≤sizeLine∧∀l,H l=none→Q (.ref l) (upd H l (.dK (oO [] rs)))
theorem Hu{pins:List (Addr×Obj)}{σ:L2.St}{H:Hp}{s:Shared}(I:L2.Inv X pins σ H s):∀(rs:List Pv) (us:List Value),Vals (rs.map fun r=>V.ref r.1) us→(∀r∈rs,oM X.K H r.1 [kV r.2.1,r.2.2])→∃ps:List Pr,us=ps.map (fun r=>Value.ref r.p)∧(∀r∈ps,Vg s.heap r)∧Paired (fun(r:Pv) (q:Pr)=>r.2.1=q.k∧RelV r.2.2 q.v) rs ps
 | [],us,h,_=>by cases h;exact⟨[],rfl,fun r hr=>by simp at hr,.nil⟩
 | r::rs,us,h,hp=>by
  cases h with
  | cons h1 h2=>
   cases h1
   obtain⟨ps,rfl,q1,q2⟩:=Hu I rs _ h2 fun r' hr=>hp r' (List.mem_cons_of_mem _ hr)
   obtain⟨its,rv,ht,_⟩:=I.tuple (hp r (List.mem_cons_self ..))
   obtain⟨u1,u2,rfl,r1,r2⟩:=rv.two
   refine⟨⟨r.1,r.2.1,u1,u2⟩::ps,rfl,fun q hq=>?_,.cons ⟨rfl,r2⟩ q2⟩
   rcases List.mem_cons.mp hq with rfl|hq
   ·exact⟨ht,HS (P:=X.prog) (w:=X.w) r1⟩
   ·exact q1 q hq
theorem Dr:∀{rs:List Pv} {ps:List Pr} {kvs:List (Key×V)} {vs:List (Key×Value)},Paired (fun(r:Pv) (q:Pr)=>r.2.1=q.k∧RelV r.2.2 q.v) rs ps→KV kvs vs→KV (oO kvs rs) (putAll vs ps)
 | _,_,_,_,.nil,h=>h
 | _,_,kvs,vs,.cons (a:=r) (b:=q) ⟨h1,h2⟩ hr,h=>by
  show KV (oO (putK kvs r.2.1 r.2.2) _) (putAll (stored vs q.k q.v) _)
  refine Dr hr ?_
  rw[h1]
  exact h.put q.k h2
theorem yV:∀(rs:List Pv) (kvs:List (Key×V)),(oO kvs rs).length≤kvs.length+rs.length
 | [],kvs=>Nat.le_refl _
 | r::rs,kvs=>by
  have h1:=yV rs (putK kvs r.2.1 r.2.2)
  have h2:=sO kvs r.2.1 r.2.2
  show(oO (putK kvs r.2.1 r.2.2) rs).length≤_
  rw[List.length_cons]
  omega
theorem Qu(hc:X.calm=true):jZ X (.type "dict") (Rn X.K):=by
 intro pins s σ H xs us Q I r h
 obtain⟨a,rs,rfl,hq,hp,hz,q⟩:=h
 obtain⟨u,rfl,rx⟩:=vals1 r
 cases rx
 obtain⟨its,rv,ob,h1,h2,⟨n,h3⟩,h4⟩:=I.aag hq
 obtain⟨ps,rfl,hps,hpr⟩:=Hu I rs its rv hp
 have hA:=I.ok.hd hc
 have hlt:a<s.heap.objs.size:=Heap.lt_size h1
 refine callType_codes (Q₁:=fun obj s₁=>obj = .ref s.heap.objs.size∧s₁ = { s with heap:=s.heap.push { cls:=.type "dict",data:=.dict #[] } }) F.kt_called_dict (F.kt_typeCall_dict_1 _) F.entry_dict_init (kt_code_dict_new _ ⟨rfl,rfl⟩) ?_
 rintro obj s₁ ⟨rfl,rfl⟩
 have hnew:(s.heap.push { cls:=.type "dict",data:=.dict #[] }).DictOf (d7 X.prog X.w) s.heap.objs.size []:=Heap.DictOf.new s.heap
 have k0:∀b o,s.heap.get? b=some o→(s.heap.push { cls:=.type "dict",data:=.dict #[] }).get? b=some o:=fun b o e=>Heap.get?_push_of_some _ e
 refine⟨hnew.typeIs,F.args_dict_init_2 _ _,?_⟩
 unfold Builtin.«dict.__init__»
 refine wpAny_bind ?_
 unfold Builtin.Dict.selfAndRest
 refine wpAny_bind (wpAny_notOrdered_dict hnew.typeIs ?_)
 show wpAny _ _ (pure (s.heap.objs.size,[Value.ref a])) _ _ _
 refine wpAny_pure ?_
 show wpAny _ _ (Builtin.Dict.updateFrom "dict.__init__" s.heap.objs.size (.ref a) [] .none) _ _ _
 unfold Builtin.Dict.updateFrom
 refine wpAny_bind (wpAny_typeOf (T:="tuple") ⟨ob,k0 _ _ h1,h2⟩ ?_)
 rw[if_pos (by decide)]
 refine wpAny_bind (PL (k0 _ _ h1) h2 h3 h4 hA fun h' tk hk=>?_)
 simp only[Option.isNone_none,if_true]
 refine wpAny_bind (wpAny_rule (wpAny_bind ?_))
 have hT:h'.IsTuple a (ps.map fun r=>Value.ref r.p).toArray:=⟨ob,hk _ _ (k0 _ _ h1),h2,n,h3⟩
 refine wpAny_pyIter_tuple hT ?_
 refine wpAny_pure ⟨plainId_quiet j7 _,codeAny_builtin tW ?_⟩
 rw[Around.under_plainId j7 _]
 have hD0:h'.DictOf (d7 X.prog X.w) s.heap.objs.size []:=hnew.keep hk
 have acM:s.heap.objs.size<h'.objs.size:=by
  obtain⟨o,_,_,ho,_⟩:=hD0
  exact Heap.lt_size ho
 have halt:a<h'.objs.size:=Heap.lt_size (hk _ _ (k0 _ _ h1))
 have hda:s.heap.objs.size≠a:=Nat.ne_of_gt hlt
 refine GP (Nat.ne_of_lt acM) hda (Nat.ne_of_gt halt) ps 0 [] X.A.in1 _ _ hA rfl ?_ ⟨_,Heap.get?_push_size _ rfl,rfl,rfl⟩ (hD0.push _) (fun q hq=>?_) ?_ fun h3 tk' hD3 k3=>?_
 ·obtain⟨o,ho,r⟩:=hT
  exact⟨o,Heap.get?_push_of_some _ ho,r⟩
 ·obtain⟨⟨o,ho,r⟩,y⟩:=hps q hq
  have aio:q.p<s.heap.objs.size:=Heap.lt_size ho
  refine⟨⟨⟨o,Heap.get?_push_of_some _ (hk _ _ (k0 _ _ ho)),r⟩,y⟩,Nat.ne_of_lt aio,Nat.ne_of_lt (Nat.lt_trans aio acM)⟩
 ·rw[←Paired.length hpr]
  simpa using hz
 ·refine⟨rfl,?_⟩
  have kk:∀b u,s.heap.get? b=some u→h3.get? b=some u:=fun b u e=>by
   have hb:b<s.heap.objs.size:=Heap.lt_size e
   exact k3 b u (Nat.ne_of_lt hb) (Nat.ne_of_lt (Nat.lt_trans hb acM)) (Heap.get?_push_of_some _ (hk _ _ (k0 _ _ e)))
  have hsys:(s.heap.objs.size == sysModules)=false:=by
   rw[beq_eq_false_iff_ne]
   exact Nat.ne_of_gt I.big
  refine⟨.ref s.heap.objs.size,upd H s.heap.objs.size (.dK (oO [] rs)),I.laid (t':=tk') kk (Nat.le_refl _) ⟨?_,hsys,_,Dr hpr .nil,hD3⟩,rfl,q _ (I.hok.fresh (Nat.le_refl _))⟩
  have:=yV rs []
  exact Nat.le_trans this (by simpa using hz)
noncomputable def M8:D→Option (D×D)
 | .tup [k,v]=>(rM k).map fun _=>(k,v)
 | _=>none
noncomputable def qy:List D→Option (List (D×D))
 | []=>some []
 | d::ds=>match M8 d,qy ds with
  | some p,some r=>some (p::r)
  | _,_=>none
noncomputable def lV(kvs : List (D × D)) : List (D × D) → List (D × D)
  | [] => kvs
  | (k, v) :: r => (match rM k with
    | some q => lV (putD kvs k q v) r
    | none => lV kvs r)
noncomputable def rH:List D→Option D
 | [.tup ds]=>(qy ds).map fun ps=>.dct (lV [] ps)
 | _=>none
theorem rW:∀(ps:List (D×D)) (kvs:List (D×D)),(lV kvs ps).length≤kvs.length+ps.length
 | [],kvs=>Nat.le_refl _
 | (k,v)::r,kvs=>by
  unfold lV
  split
  ·rename_i q hq
   have h1:=rW r (putD kvs k q v)
   have h2:=Ht kvs k q v
   rw[List.length_cons]
   omega
  ·have h1:=rW r kvs
   rw[List.length_cons]
   omega
theorem Ao:∀{ds:List D} {ps:List (D×D)},qy ds=some ps→ps.length=ds.length
 | [],ps,h=>by cases h;rfl
 | d::ds,ps,h=>by
  unfold qy at h
  split at h
  ·rename_i p r h1 h2
   cases h
   rw[List.length_cons,List.length_cons,Ao h2]
  ·cases h
theorem Du{K:Fg}{F:Hp}:∀{ds:List D} {ps:List (D×D)} {vs:List V} {kvs:List (D×D)} {ks:List (Key×V)},qy ds=some ps→bN K F ds vs→dC K F kvs ks→
  ∃rs:List Pv,vs=rs.map (fun r=>V.ref r.1)∧(∀r∈rs,oM K F r.1 [kV r.2.1,r.2.2])∧dC K F (lV kvs ps) (oO ks rs)
 | [],ps,vs,kvs,ks,h,hr,hk=>by cases h;cases hr;exact⟨[],rfl,fun r hr=>by simp at hr,hk⟩
 | d::ds,ps,vs,kvs,ks,h,hr,hk=>by
  unfold qy at h
  split at h
  ·rename_i p r h1 h2
   cases h
   obtain⟨v,w,rfl,p1,p2⟩:=hr
   unfold M8 at h1
   split at h1
   ·rename_i k x
    obtain⟨q,hq,rfl⟩:=Option.map_eq_some_iff.mp h1
    obtain⟨_,a,us,rfl,h3,h4⟩:=p1
    obtain⟨u1,w1,rfl,q1,u2,w2,rfl,q2,q3⟩:=h4
    cases q3
    cases S8 hq q1
    obtain⟨rs,rfl,g1,g2⟩:=Du (kvs:=putD kvs k q x) (ks:=putK ks q u2) h2 p2 (hk.put hq q2)
    refine⟨(a,q,u2)::rs,rfl,fun r hr=>?_,?_⟩
    ·rcases List.mem_cons.mp hr with rfl|hr
     ·exact h3
     ·exact g1 r hr
    ·unfold lV
     rw[hq]
     exact g2
   ·cases h1
  ·cases h
theorem Yp:CallD C (Rn C.K) rH:=by
 intro Pr F env σ H ds d vs Q r p e q
 unfold rH at e
 split at e
 ·rename_i ds
  obtain⟨v,w,rfl,p1,p2⟩:=p
  cases p2
  obtain⟨ps,e1,rfl⟩:=Option.map_eq_some_iff.mp e
  obtain⟨z,a,us,rfl,h1,h1F,h2⟩:=p1.tup r.fr
  obtain⟨rs,rfl,g1,g2⟩:=Du (kvs:=[]) (ks:=[]) e1 h2 rfl
  have hl:rs.length=ds.length:=by
   have:=h2.length
   rwa [List.length_map] at this
  refine⟨a,rs,rfl,h1,fun r' hr=>aO.tupK r.fr (g1 r' hr),by rw[hl];exact z,fun l hlf=>?_⟩
  obtain⟨F2,r2,s2,p2⟩:=(r.fresh (o:=.dK (oO [] rs)) hlf).keep (QC.of (d:=.dct (lV [] ps)) r hlf ⟨by
   have h5:=rW ps []
   rw[Ao e1] at h5
   exact Nat.le_trans h5 (by simpa using z),_,aW,g2⟩)
  exact q _ _ F2 r2 s2 p2
 ·cases e
theorem El{p:Pos}{e:Expr}{ea:cL}(G:Good X C)(hm:X.mg "dict" = none)(ha:wG X C [e] ea)(hg:Gl X "dict":=by rfl)(he:starEach [e] X.env=(false,eval e X.env)::starEach [] X.env:=by rfl):PX X C (.Call (.Name "dict" p) [e] [] pos) (az rH ea):=
 xY (T:="dict") (r:=Rn C.K) (by rw[←G.K];exact Qu G.calm) Yp hg hm (by decide +kernel) ha (by decide) (by decide) he rfl
end
end Ev
namespace L2
open PySem PySem.Spec PyProof.Rows PySem.Builtin PySem.Builtin.Str
section
variable{X:Cx}
noncomputable def Rm:R2:=fun x y H Q=>∃a o,y = .ref a∧QB H a x o∧Q (.bl o.isSome) H
theorem R8(hu:X.A.units+1<cLine):oK X (compareOp .In) Rm:=by
 intro pins s σ H x y v u Q I rx ry h
 obtain⟨a,o,rfl,g,q⟩:=h
 cases ry
 exact ani hu I g rx fun s' I'=>⟨.bl o.isSome,H,I',rfl,q⟩
theorem Jg(v:Int)(n d:Nat):max 0 (min (if v<0 then v+(n:Int) else v) (n:Int))=((HT.fj n d (some v):Nat):Int):=by
 show _=(((if v<0 then (v+(n:Int)).toNat else min v.toNat n):Nat):Int)
 by_cases hv:v<0
 ·simp only[if_pos hv];omega
 ·simp only[if_neg hv];omega
theorem range_one(a b:Nat):sliceRange (a:Int) (b:Int) 1=List.range' a (b - a):=by
 unfold sliceRange
 have h1:(1:Int) > 0:=by decide
 simp only[if_pos h1]
 have hc:(if (a:Int)<(b:Int) then ((b:Int) - (a:Int)+1 - 1) / 1 else 0).toNat=b - a:=by
  by_cases h:(a:Int)<(b:Int)
  ·rw[if_pos h,Int.ediv_one];omega
  ·rw[if_neg h];omega
 rw[hc,List.range'_eq_map_range]
 apply List.map_congr_left
 intro k _
 omega
theorem RD(lo hi:Option Int)(n:Nat):strSliceIndices lo hi 1 n=List.range' (HT.fj n 0 lo) (HT.fj n n hi - HT.fj n 0 lo):=by
 have h1:(1:Int) > 0:=by decide
 unfold strSliceIndices
 simp only[if_pos h1]
 rw[←range_one]
 congr 1
 ·cases lo with
  | none=>rfl
  | some v=>exact Jg v n 0
 ·cases hi with
  | none=>rfl
  | some v=>exact Jg v n n
theorem Ip(c:List Nat):∀(m a:Nat),a+m≤c.length→(List.range' a m).filterMap (c.toArray[·]?)=(c.drop a).take m
 | 0,a,_=>by simp
 | m+1,a,h=>by
  rw[List.range'_succ,List.filterMap_cons]
  have e:c.toArray[a]? = some c[a]:=by simp
  rw[e,Ip c m (a+1) (by omega),List.drop_eq_getElem_cons (l:=c) (i:=a) (by omega),List.take_succ_cons]
noncomputable def vM(z:List Nat)(lo hi:Option Int):List Nat:=(z.drop (HT.fj z.length 0 lo)).take (HT.fj z.length z.length hi - HT.fj z.length 0 lo)
noncomputable def alx:V→Option Int→Option Int→Hp→VK→Prop:=fun x lo hi H Q=>∃z:List Nat,x = .str ⟨z.toArray⟩∧z.length≤sizeLine∧Q (.str ⟨(vM z lo hi).toArray⟩) H
theorem part_of{v:Value}{o:Option Int}(p:IsPart v o):∃l:Option (Int×Tok),v=partValue l∧l.map (·.1)=o:=by
 cases p with
 | none=>exact⟨none,rfl,rfl⟩
 | int i t=>exact⟨some (i,t),rfl,rfl⟩
theorem Q9:Mm X alx:=by
 intro pins s σ H x v vl vu lo hi sl Q I rx hs pl pu h
 obtain⟨z,rfl,hz,q⟩:=h
 obtain⟨t,rfl⟩:=rx
 obtain⟨l,rfl,el⟩:=part_of pl
 obtain⟨u,rfl,eu⟩:=part_of pu
 refine⟨"str",_,PySem.F.slot_str_getitem.lookup,typeIs_str s _ t,?_⟩
 obtain⟨o,h1,h2,h3⟩:=hs
 refine wpAny_getItem_str_slice (l:=l) (u:=u) (st:=none) ⟨o,h1,h2,h3⟩ rfl ?_
 have hp:slicePicked ⟨z.toArray⟩ l u none=List.range' (HT.fj z.length 0 lo) (HT.fj z.length z.length hi - HT.fj z.length 0 lo):=by
  unfold slicePicked
  rw[el,eu]
  show strSliceIndices lo hi 1 z.toArray.size=_
  rw[List.size_toArray,RD]
 have hle:HT.fj z.length 0 lo+(HT.fj z.length z.length hi - HT.fj z.length 0 lo)≤z.length∨HT.fj z.length z.length hi - HT.fj z.length 0 lo=0:=by
  have a1:=HT.Fj z.length 0 (Nat.zero_le _) lo
  have a2:=HT.Fj z.length z.length (Nat.le_refl _) hi
  omega
 have amE:((slicePicked ⟨z.toArray⟩ l u none).filterMap ((⟨z.toArray⟩:Str).cps[·]?))=vM z lo hi:=by
  rw[hp]
  unfold vM
  rcases hle with hle|hle
  ·exact Ip z _ _ hle
  ·rw[hle];simp
 unfold sliceMade
 split
 ·rename_i hc
  have hlen:(slicePicked ⟨z.toArray⟩ l u none).length=z.length:=by
   have:=(Bool.and_eq_true_iff.mp hc).2
   have:=eq_of_beq this
   simpa[Str.length] using this
  have hw:vM z lo hi=z:=by
   rw[hp,List.length_range'] at hlen
   unfold vM
   have a2:=HT.Fj z.length z.length (Nat.le_refl _) hi
   have a0:HT.fj z.length 0 lo=0∨z.length=0:=by omega
   rcases a0 with a0|a0
   ·rw[a0,List.drop_zero,List.take_of_length_le (by omega)]
   ·have:z=[]:=List.eq_nil_of_length_eq_zero a0
    subst this;simp
  rw[hw] at q
  exact⟨.str ⟨z.toArray⟩,H,I,⟨t,rfl⟩,q⟩
 ·rw[amE]
  refine⟨?_,⟨.str ⟨(vM z lo hi).toArray⟩,H,I.tok _,⟨_,rfl⟩,q⟩⟩
  show(vM z lo hi).toArray.size≤sizeLine
  rw[List.size_toArray]
  unfold vM
  rw[List.length_take,List.length_drop]
  omega
end
end L2
namespace Ev
open PySem PySem.Spec PyProof.Rows L2 PySem.Builtin
section
variable{X:Cx}{C:Cfg}{pos:Pos}{x y:Expr}{a b:Ev}
noncomputable def ou(k y:D):Option D:=match y with
 | .dct kvs=>(rM k).map fun q=>.bl (qw kvs q).isSome
 | _=>none
theorem Sq:qu C Rm ou:=by
 intro Pr F env σ H x y d vx vy Q r px py e q
 cases y with
 | dct kvs=>
  obtain⟨k,hk,rfl⟩:=Option.map_eq_some_iff.mp (show(rM x).map (fun q=>D.bl (qw kvs q).isSome)=some d from e)
  obtain⟨z,p,ks,rfl,h1,h2⟩:=py.dct r.fr
  cases S9 hk px
  refine⟨p,wR ks k,rfl,.inl ⟨ks,k,h1,rfl,rfl⟩,?_⟩
  have e2:(wR ks k).isSome=(qw kvs k).isSome:=by
   rcases h2.val k with ⟨g1,g2⟩|⟨d',v',g1,g2,_⟩<;>rw[g1,g2]<;>rfl
  rw[e2]
  exact q _ H F r (aO.refl F) rfl
 | _=>cases e
theorem NT(G:Good X C):Cm X C .In ou:=⟨_,R8 G.u1,Sq⟩
noncomputable def acS:D→Option Int→Option Int→Option D
 | .str z,lo,hi=>some (.str (vM z lo hi))
 | _,_,_=>none
noncomputable def tV(a:Ev)(lo hi:zf):Ev:=fun env=>bindR (a env) fun d aG=>bindR (lo aG) fun l cQ=>bindR (hi cQ) fun u Bw=>dY (acS d l u) Bw
theorem Jf(z:List Nat)(lo hi:Option Int):(vM z lo hi).length≤z.length:=by
 unfold vM
 rw[List.length_take,List.length_drop]
 omega
theorem GJ{lo hi:Option Expr}{el eh:zf}{p2:Pos}(ha:PX X C x a)(hl:Qy X C lo el)(hh:Qy X C hi eh):PX X C (.Subscript x (.Slice lo hi none p2) pos) (tV a el eh):=by
 refine(wY (pos:=pos) (p2:=p2) Q9 ha hl hh).imp fun σ H Q hq=>?_
 obtain⟨Pr,F,env,env',d,r,e,q⟩:=hq
 obtain⟨z,aG,e1,e2⟩:=aR e
 obtain⟨l,cQ,e3,e4⟩:=aR e2
 obtain⟨u,Bw,e5,e6⟩:=aR e4
 obtain⟨e7,rfl⟩:=eQ e6
 cases z with
 | str z=>
  cases e7
  refine⟨Pr,F,env,aG,.str z,r,e1,fun v H1 F1 r1 s1 p1=>⟨Pr,F1,aG,cQ,l,r1,e3,fun H2 F2 r2 s2=>⟨Pr,F2,cQ,env',u,r2,e5,fun H3 F3 r3 s3=>?_⟩⟩⟩
  obtain⟨rfl,hz⟩:=p1
  exact⟨z,rfl,hz,q _ H3 F3 r3 ((s1.trans s2).trans s3) ⟨rfl,Nat.le_trans (Jf _ _ _) hz⟩⟩
 | _=>cases e7
noncomputable def amO:D→D→Option D
 | .lst a,.lst b=>if a.length+b.length≤sizeLine then some (.lst (a++b)) else none
 | _,_=>none
end
end Ev
namespace HT
open PySem PySem.Spec PyProof PyProof.Rows PySem.Builtin
section
variable{prog:Program}{w:World}{A:Around}{E:Value→Shared→Prop}{s:Shared}
theorem uE{t sl:Addr}{items:Array Value}{vl vu:Value}{lo hi:Option Int}{Q:Value→Shared→Prop}(ht:IsTup s.heap t items)(hs:s.heap.IsSliceOf sl vl vu .none)(pl:IsPart vl lo)(pu:IsPart vu hi)
  (hw:fj items.size 0 lo=0∧fj items.size items.size hi=items.size)
  (h:Q (.ref t) s):wpAny (model prog w) A (getItem (.ref t) (.ref sl)) Q E s:=by
 obtain⟨os,hos,hcs,hds⟩:=id hs
 have hTs:s.TypeIs (.ref sl) "slice":=⟨os,hos,hcs⟩
 unfold getItem
 try with_reducible refine wpAny_holding ?_
 first|refine wpAny_bind (wpAny_pure ?_)|skip
 refine wpAny_bind (wpAny_sequenceKey ht.typeIs (by decide) ?_)
 refine wpAny_bind (wpAny_callSpecial?_slot (name:=Str.ofString "__getitem__") ht.typeIs PyProof.Rows.slot_tuple_getitem
  (wpAny_call_entry PyProof.Rows.slot_tuple_getitem ht.typeIs entry_tuple_getitem ?_ (args_tuple_getitem _ _)))
 show wpAny _ _ (Builtin.Tuple.tupleItemsOf (.ref t) >>= _) _ _ s
 refine wpAny_bind (tupleItemsOf_ ht ?_)
 refine wpAny_bind (wpAny_typeOf hTs ?_)
 rw[if_pos (by decide)]
 refine wpAny_bind (pZ hs pl pu ?_)
 have amz:(((fj items.size 0 lo:Nat):Int) == 0&&(1:Int) == 1&&(fj items.size items.size hi - fj items.size 0 lo) == items.size)=true:=by
  rw[hw.1,hw.2]
  simp
 show wpAny _ _ (if (((fj items.size 0 lo:Nat):Int) == 0&&(1:Int) == 1&&(fj items.size items.size hi - fj items.size 0 lo) == items.size)=true then _ else _) _ _ s
 rw[if_pos amz]
 refine wpAny_bind (m:=Builtin.Tuple.tupleIsExact (.ref t)) ?_
 unfold Builtin.Tuple.tupleIsExact
 refine wpAny_bind (wpAny_typeOf ht.typeIs ?_)
 refine wpAny_pure ?_
 rw[if_pos (by decide)]
 exact wpAny_bind (wpAny_rule (wpAny_pure ⟨_,rfl,wpAny_pure h⟩))
end
end HT
namespace L2
open PySem PySem.Spec PyProof.Rows
section
variable{X:Cx}
noncomputable def afh(K:PySem.W.Frag):V→Option Int→Option Int→Hp→VK→Prop:=fun x lo hi H Q=>∃a xs,x = .ref a∧oM K H a xs∧(HT.fj xs.length 0 lo=0∧HT.fj xs.length xs.length hi=xs.length)∧Q (.ref a) H
theorem G8:Mm X (afh X.K):=by
 intro pins s σ H x v vl vu lo hi sl Q I rx hs pl pu h
 obtain⟨a,xs,rfl,hx,hw,q⟩:=h
 cases rx
 obtain⟨its,r,ht,hz⟩:=I.tuple hx
 have hlen:its.toArray.size=xs.length:=by rw[List.size_toArray];exact r.length.symm
 refine⟨"tuple",_,PyProof.Rows.slot_tuple_getitem.lookup,ht.typeIs,?_⟩
 refine HT.uE ht hs pl pu (by rw[hlen];exact hw) ?_
 exact⟨.ref a,H,I,rfl,q⟩
end
end L2
namespace Ev
open PySem PySem.Spec PyProof.Rows L2
section
variable{X:Cx}{C:Cfg}{pos:Pos}{x:Expr}{a:Ev}
noncomputable def T8:D→Option Int→Option Int→Option D
 | .tup xs,lo,hi=>if HT.fj xs.length 0 lo=0∧HT.fj xs.length xs.length hi=xs.length then some (.tup xs) else some (.tup (cutD xs lo hi))
 | _,_,_=>none
noncomputable def DW(a:Ev)(lo hi:zf):Ev:=fun env=>bindR (a env) fun d aG=>bindR (lo aG) fun l cQ=>bindR (hi cQ) fun u Bw=>dY (T8 d l u) Bw
theorem Rb{Pr F:Hp}{env:Env}{σ:L2.St}{H:Hp}{x d:D}{v:V}{lo hi:Option Int}{Q:VK}(r:Rel C Pr F env σ H)(p:Rep C.K F x v)(e:T8 x lo hi=some d)(q:∀v H' F',Rel C Pr F' env σ H'→aO F F'→Rep C.K F' d v→Q v H') :
  aaG C.K v lo hi H Q∨afh C.K v lo hi H Q:=by
 unfold T8 at e
 split at e
 ·obtain⟨z,a,vs,rfl,h1,_,h2⟩:=jk.tup r.fr (.inl p)
  split at e
  ·rename_i hn
   cases e
   exact .inr ⟨a,vs,rfl,h1,by rw[h2.length];exact hn,q _ H F r (aO.refl F) p⟩
  ·rename_i hn
   cases e
   refine .inl ⟨a,vs,rfl,h1,by rw[h2.length];exact hn,fun b hb=>?_⟩
   obtain⟨r2,s2⟩:=r.new (o:=.tup (zA vs lo hi)) hb
   exact q _ _ _ r2 s2 ⟨Nat.le_trans (tY _ _ _) z,b,_,rfl,oM.of aW,bN.mono s2 _ _ (h2.cut lo hi)⟩
 ·cases e
theorem QK{lo hi:Option Expr}{el eh:zf}{p2:Pos}(G:Good X C)(ha:PX X C x a)(hl:Qy X C lo el)(hh:Qy X C hi eh):PX X C (.Subscript x (.Slice lo hi none p2) pos) (DW a el eh):=by
 have h:=wY (pos:=pos) (p2:=p2) (Mm.or Ez G8) ha hl hh
 rw[G.K] at h
 refine h.imp fun σ H Q hq=>?_
 obtain⟨Pr,F,env,env',d,r,e,q⟩:=hq
 obtain⟨x,aG,e1,e2⟩:=aR e
 obtain⟨l,cQ,e3,e4⟩:=aR e2
 obtain⟨u,Bw,e5,e6⟩:=aR e4
 obtain⟨e7,rfl⟩:=eQ e6
 refine⟨Pr,F,env,aG,x,r,e1,fun v H1 F1 r1 s1 p1=>⟨Pr,F1,aG,cQ,l,r1,e3,fun H2 F2 r2 s2=>⟨Pr,F2,cQ,env',u,r2,e5,fun H3 F3 r3 s3=>?_⟩⟩⟩
 exact Rb r3 (Rep.mono (s2.trans s3) _ _ p1) e7 fun v H' F' r' s' p'=>q v H' F' r' (((s1.trans s2).trans s3).trans s') p'
end
end Ev
namespace Ev
open PySem PySem.Spec PyProof.Rows L2
section
variable{X:Cx}{C:Cfg}{pos:Pos}{x y z:Expr}{a b c:Ev}
noncomputable def Nu(g g':D→D→Option D)(a b c:Ev):Ev:=fun env=>bindR (a env) fun u e1=>bindR (b e1) fun v e2=>match g u v with
 | some (.bl k)=>if k=true then bindR (c e2) fun t e3=>dY (g' v t) e3 else .ok (.bl false) e2
 | _=>.stuck
end
end Ev
namespace ZT
open PySem PySem.Spec PyProof.Rows L2 PySem.Builtin
section
variable{prog:Program}{w:World}{A:Around}{E:Value→Shared→Prop}{s:Shared}
theorem Sx{j t:Addr}{n:Nat}{its:Array Value}{x:Value}{Q:Value→Shared→Prop}(hj:s.heap.IsTupleIter j t n)(ht:s.heap.IsTuple t its)(hx:its[n]? = some x)
  (q:∀g,g.IsTupleIter j t (n+1)→Heap.SameBut j s.heap g→Q x { s with heap:=g }):wpAny (model prog w) A (Builtin.SmallTypes.nextOf (.ref j)) Q E s:=by
 obtain⟨u,hu,uc,ud⟩:=id hj
 obtain⟨ut,hut,_,m,mt⟩:=ht
 unfold Builtin.SmallTypes.nextOf
 refine wpAny_bind (wpAny_callSpecial?_slot (name:=Str.ofString "__next__") hj.typeIs F.slot_tuple_iterator_next (wpAny_call_entry F.slot_tuple_iterator_next hj.typeIs F.entry_tuple_iterator_next ?_ (F.args_tuple_iterator_next_1 _)))
 show wpAny _ _ (field (.ref j) 0 >>= _) _ _ s
 refine wpAny_bind (wpAny_field hu ud (x:=.ref t) rfl ?_)
 show wpAny _ _ (if (Value.ref t == Value.none)=true then _ else _) _ _ s
 rw[if_neg (show ¬((Value.ref t == Value.none)=true) from Bool.false_ne_true)]
 show wpAny _ _ (field (.ref j) 1 >>= _) _ _ s
 refine wpAny_bind (wpAny_field hu ud (x:=.int n 0) rfl ?_)
 show wpAny _ _ (seqItems? (.ref t) >>= _) _ _ s
 refine wpAny_bind (wpAny_seqItems hut mt ?_)
 simp only[Int.toNat_natCast,hx]
 refine wpAny_bind (wpAny_setField hu ud (by simp) (wpAny_pure ⟨x,rfl,wpAny_pure (q _ ?_ (Heap.SameBut.update ..))⟩))
 exact⟨_,Heap.get?_update_self _ hu (Obj.isFreed_of_fields (Obj.data_mapFields ud _)),(Obj.cls_mapFields ..).trans uc,by rw[Obj.data_mapFields ud];simp[rawInt]⟩
theorem Fz{j t:Addr}{n:Nat}{its:Array Value}{Q:Value→Shared→Prop}(hh:A.handled=none)(hj:s.heap.IsTupleIter j t n)(ht:s.heap.IsTuple t its)(hx:its[n]? = none)
  (q:∀g e,Heap.ExtBut j s.heap g→(∃o,g.get? e=some o∧o.cls = .type "StopIteration")→E (.ref e) { s with heap:=g }):wpAny (model prog w) A (Builtin.SmallTypes.nextOf (.ref j)) Q E s:=by
 obtain⟨u,hu,uc,ud⟩:=id hj
 obtain⟨ut,hut,_,m,mt⟩:=ht
 unfold Builtin.SmallTypes.nextOf
 refine wpAny_bind (wpAny_callSpecial?_slot (name:=Str.ofString "__next__") hj.typeIs F.slot_tuple_iterator_next (wpAny_call_entry F.slot_tuple_iterator_next hj.typeIs F.entry_tuple_iterator_next ?_ (F.args_tuple_iterator_next_1 _)))
 show wpAny _ _ (field (.ref j) 0 >>= _) _ _ s
 refine wpAny_bind (wpAny_field hu ud (x:=.ref t) rfl ?_)
 show wpAny _ _ (if (Value.ref t == Value.none)=true then _ else _) _ _ s
 rw[if_neg (show ¬((Value.ref t == Value.none)=true) from Bool.false_ne_true)]
 show wpAny _ _ (field (.ref j) 1 >>= _) _ _ s
 refine wpAny_bind (wpAny_field hu ud (x:=.int n 0) rfl ?_)
 show wpAny _ _ (seqItems? (.ref t) >>= _) _ _ s
 refine wpAny_bind (wpAny_seqItems hut mt ?_)
 simp only[Int.toNat_natCast,hx]
 refine wpAny_bind (wpAny_rule (wpAny_bind (wpAny_setField hu ud (by simp) ?_)))
 show wpAny _ _ (newExc (.type "StopIteration") [] >>= _) _ _ _
 refine wpAny_bind ?_
 simp only[newExc,newTuple]
 refine wpAny_bind (wpAny_newObj_type ?_ (by size_fits))
 refine wpAny_bind (m:=firstArgMember _ _) (wpAny_of_eq (a:=Value.none) (by first|rfl|(simp only[firstArgMember];rfl)) ?_)
 refine wpAny_newObj_type ?_ (by size_fits)
 simp only[raiseNew]
 refine wpAny_bind (wpAny_handled ?_)
 first|rw[show A.in1.handled=none from hh]|rw[hh]
 refine wpAny_bind (wpAny_pure (wpAny_throw ?_))
 exact q _ _ (((Heap.SameBut.update ..).extBut.push _).push _) ⟨_,Heap.get?_push_size _ rfl,rfl⟩
end
theorem DX{prog:Program}{w:World}{A:Around}(hh:A.handled=none)(j t:Addr)(hne:t≠j)(its:Array Value) :
  Draws prog w A j [j,t] its.size (fun i v=>its[i]? = some v) (fun i h=>h.IsTupleIter j t i∧h.IsTuple t its) where
 live:=fun _ _ st=>let ⟨o,ho,_⟩:=st.1;⟨o,ho⟩
 frame:=fun _ _ _ st hk=>by
  obtain⟨⟨o,ho,r⟩,o2,ho2,r2⟩:=st
  exact⟨⟨o,hk j (by simp) o ho,r⟩,o2,hk t (by simp) o2 ho2,r2⟩
 item:=fun i s Q E hi st hQ=>by
  refine Sx st.1 st.2 (x:=its[i]) (by simp[hi]) fun h' hit' hs'=>?_
  exact hQ _ h' s.toks (by simp[hi]) ⟨hit',st.2.extBut hs'.extBut hne⟩ hs'
 done:=fun s Q E st hE=>Fz hh st.1 st.2 (by simp) hE
end ZT
namespace ZT
open PySem PySem.Spec PyProof.Rows L2 PySem.Builtin
structure Ap(z TI TO j1 j2:Addr)(f1 f2:List Addr):Prop where
 a1:TI≠z
 a2:TO≠z
 a3:TI≠TO
 a4:j1≠j2
 b1:j1∈f1
 b2:j2∈f2
 c1:z ∉ f1
 c2:z ∉ f2
 c3:TO ∉ f1
 c4:TO ∉ f2
 c5:TI ∉ f1
 c6:TI ∉ f2
 c7:j2 ∉ f1
 c8:j1 ∉ f2
section
variable{prog:Program}{w:World}{A:Around}{E:Value→Shared→Prop}{s:Shared}
variable{z TI TO j1 j2:Addr}{f1 f2:List Addr}{n1 n2 k:Nat}{P1 P2:Nat→Value→Prop}{S1 S2:Nat→Heap→Prop}{a b:Value}
theorem fC{c d:Addr}{f:List Addr}(h:c∈f)(h':d ∉ f):c≠d:=fun e=>h' (e ▸ h)
theorem QD{Q:Value→Shared→Prop}(D:Ap z TI TO j1 j2 f1 f2)(D1:Draws prog w A j1 f1 n1 P1 S1)(D2:Draws prog w A j2 f2 n2 P2 S2)(k1:k<n1)(k2:k<n2)
  (hz:IsZip s.heap z TI TO .none) (hTI:IsPair s.heap TI (.ref j1) (.ref j2)) (hTO:IsPair s.heap TO a b) (s1:S1 k s.heap) (s2:S2 k s.heap)
  (q:∀x y g tk,P1 k x→P2 k y→IsZip g z TI TO (rawInt s.heap.objs.size)→IsPair g TO x y→S1 (k+1) g→S2 (k+1) g→IsPair g s.heap.objs.size x y→g.objs.size=s.heap.objs.size+1→
   (∀c o,c≠z→c≠TO→c≠j1→c≠j2→s.heap.get? c=some o→g.get? c=some o)→Q (.ref s.heap.objs.size) { s with heap:=g,toks:=tk }) :
  wpAny (model prog w) A (Builtin.«zip.__next__» ⟨[.ref z],[]⟩) (fun fin s'=>∃v,fin = .done (.ret v)∧Q v s') E s:=by
 have Yk:j1≠z:=fC D.b1 D.c1
 have adX:j2≠z:=fC D.b2 D.c2
 have adY:j1≠TO:=fC D.b1 D.c3
 have aiV:j2≠TO:=fC D.b2 D.c4
 show wpAny _ _ (field (.ref z) 2 >>= _) _ _ _
 refine wpAny_bind (wpAny_field hz rfl (x:=.bool false) rfl ?_)
 show wpAny _ _ (field (.ref z) 3 >>= _) _ _ _
 refine wpAny_bind (wpAny_field hz rfl (x:=.ref TI) rfl ?_)
 refine wpAny_bind (wpAny_seqItems hTI rfl ?_)
 show wpAny _ _ (Builtin.SmallTypes.ownedTupleIsFree (.ref z) >>= _) _ _ _
 refine wpAny_bind ?_
 unfold Builtin.SmallTypes.ownedTupleIsFree
 refine wpAny_bind (wpAny_field hz rfl (x:=.none) rfl (wpAny_pure ?_))
 simp only[if_true]
 refine wpAny_bind (wpAny_rule ?_)
 refine wpAny_bind (wpAny_field hz rfl (x:=.ref TO) rfl ?_)
 refine wpAny_bind (wpAny_setField_rec hz (by simp) fun g1 hz1 e1=>?_)
 replace hz1:IsZip g1 z TI TO .ellipsis:=hz1
 refine wpAny_bind ?_
 simp only[List.zipIdx_cons,List.zipIdx_nil,List.forIn_cons,List.forIn_nil]
 refine wpAny_bind (wpAny_bind (wpAny_onRaise ?_))
 show wpAny _ _ (Builtin.SmallTypes.nextOf (.ref j1) >>= _) _ _ _
 have s1':S1 k g1:=D1.frame k _ _ s1 fun c hc o e=>e1.extBut _ _ (fC hc D.c1) e
 refine wpAny_bind (D1.item k { s with heap:=g1 } _ _ k1 s1' fun x g2 tk2 px sx e2=>wpAny_pure ?_)
 have t2:IsPair g2 TO a b:=e2.extBut _ _ adY.symm (e1.extBut _ _ D.a2 hTO)
 refine wpAny_bind (wpAny_seqItems t2 rfl ?_)
 refine wpAny_bind (wpAny_updateSeq_pair t2 fun g3 t3 e3=>?_)
 replace t3:IsPair g3 TO x b:=t3
 refine wpAny_bind (wpAny_letGo (wpAny_pure ?_))
 refine wpAny_bind (wpAny_bind (wpAny_onRaise ?_))
 show wpAny _ _ (Builtin.SmallTypes.nextOf (.ref j2) >>= _) _ _ _
 have s2':S2 k g3:=D2.frame k _ _ s2 fun c hc o e=>e3.extBut _ _ (fC hc D.c4) (e2.extBut _ _ (fC hc D.c8) (e1.extBut _ _ (fC hc D.c2) e))
 refine wpAny_bind (D2.item k { s with heap:=g3,toks:=tk2 } _ _ k2 s2' fun y g4 tk4 py sy e4=>wpAny_pure ?_)
 have t4:IsPair g4 TO x b:=e4.extBut _ _ aiV.symm t3
 refine wpAny_bind (wpAny_seqItems t4 rfl ?_)
 refine wpAny_bind (wpAny_updateSeq_pair t4 fun g5 t5 e5=>?_)
 replace t5:IsPair g5 TO x y:=t5
 refine wpAny_bind (wpAny_letGo (wpAny_pure (wpAny_pure ?_)))
 refine wpAny_bind (wpAny_seqItems t5 rfl ?_)
 refine wpAny_bind (wpAny_newTuple ?_)
 have hsz:g5.objs.size=s.heap.objs.size:=by rw[e5.1,e4.1,e3.1,e2.1,e1.1]
 have hz5:IsZip g5 z TI TO .ellipsis:=e5.extBut _ _ D.a2.symm (e4.extBut _ _ adX.symm (e3.extBut _ _ D.a2.symm (e2.extBut _ _ Yk.symm hz1)))
 have ahp:∀c o,c≠z→c≠TO→c≠j1→c≠j2→s.heap.get? c=some o→g5.get? c=some o:=fun c o c1 c2 c3 c4 e=>
  e5.extBut _ _ c2 (e4.extBut _ _ c4 (e3.extBut _ _ c2 (e2.extBut _ _ c3 (e1.extBut _ _ c1 e))))
 have s15:S1 (k+1) g5:=D1.frame _ _ _ sx fun c hc o e=>e5.extBut _ _ (fC hc D.c3) (e4.extBut _ _ (fC hc D.c7) (e3.extBut _ _ (fC hc D.c3) e))
 have s25:S2 (k+1) g5:=D2.frame _ _ _ sy fun c hc o e=>e5.extBut _ _ (fC hc D.c4) e
 have zlt:z<g5.objs.size:=Heap.lt_size hz5
 show wpAny _ _ (Builtin.SmallTypes.ownedTupleHandOut (.ref z) (.ref g5.objs.size) >>= _) _ _ _
 refine wpAny_bind ?_
 unfold Builtin.SmallTypes.ownedTupleHandOut
 have hz6:IsZip (g5.push { cls:=.type "tuple",data:=.seq #[x,y] }) z TI TO .ellipsis:=Heap.get?_push_of_some _ hz5
 refine wpAny_bind (wpAny_setField_rec hz6 (by simp) fun g7 hz7 e7=>?_)
 replace hz7:IsZip g7 z TI TO (rawInt g5.objs.size):=hz7
 refine wpAny_setField_rec hz7 (by simp) fun g8 hz8 e8=>?_
 replace hz8:IsZip g8 z TI TO (rawInt g5.objs.size):=hz8
 have up:∀c o,c≠z→g5.get? c=some o→g8.get? c=some o:=fun c o c1 e=>e8.extBut _ _ c1 (e7.extBut _ _ c1 (Heap.get?_push_of_some _ e))
 have t8:IsPair g8 g5.objs.size x y:=e8.extBut _ _ (Nat.ne_of_gt zlt) (e7.extBut _ _ (Nat.ne_of_gt zlt) (Heap.get?_push_size _ rfl))
 have l8:g8.objs.size=g5.objs.size+1:=by rw[e8.1,e7.1,Heap.size_push]
 rw[hsz] at hz8 t8 l8
 refine wpAny_pure ⟨_,rfl,?_⟩
 show Q (.ref g5.objs.size) _
 rw[hsz]
 exact q x y g8 _ px py hz8 (up _ _ D.a2 t5) (D1.frame _ _ _ s15 fun c hc o e=>up c o (fC hc D.c1) e) (D2.frame _ _ _ s25 fun c hc o e=>up c o (fC hc D.c2) e) t8 l8 fun c o c1 c2 c3 c4 e=>up c o c1 (ahp c o c1 c2 c3 c4 e)
theorem Vv{Q:Fin→Shared→Prop}(D:Ap z TI TO j1 j2 f1 f2)(D1:Draws prog w A j1 f1 n1 P1 S1)(D2:Draws prog w A j2 f2 n2 P2 S2)(hk:k=n1∨(k<n1∧k=n2))
  (hz:IsZip s.heap z TI TO .none) (hTI:IsPair s.heap TI (.ref j1) (.ref j2)) (hTO:IsPair s.heap TO a b) (s1:S1 k s.heap) (s2:S2 k s.heap)
  (q:∀g e tk,(∀c o,c≠z→c≠TO→c≠j1→c≠j2→s.heap.get? c=some o→g.get? c=some o)→(∃o,g.get? e=some o∧o.cls = .type "StopIteration")→E (.ref e) { s with heap:=g,toks:=tk }) :
  wpAny (model prog w) A (Builtin.«zip.__next__» ⟨[.ref z],[]⟩) Q E s:=by
 have Yk:j1≠z:=fC D.b1 D.c1
 have adX:j2≠z:=fC D.b2 D.c2
 have adY:j1≠TO:=fC D.b1 D.c3
 have aiV:j2≠TO:=fC D.b2 D.c4
 show wpAny _ _ (field (.ref z) 2 >>= _) _ _ _
 refine wpAny_bind (wpAny_field hz rfl (x:=.bool false) rfl ?_)
 show wpAny _ _ (field (.ref z) 3 >>= _) _ _ _
 refine wpAny_bind (wpAny_field hz rfl (x:=.ref TI) rfl ?_)
 refine wpAny_bind (wpAny_seqItems hTI rfl ?_)
 show wpAny _ _ (Builtin.SmallTypes.ownedTupleIsFree (.ref z) >>= _) _ _ _
 refine wpAny_bind ?_
 unfold Builtin.SmallTypes.ownedTupleIsFree
 refine wpAny_bind (wpAny_field hz rfl (x:=.none) rfl (wpAny_pure ?_))
 simp only[if_true]
 refine wpAny_bind (wpAny_rule ?_)
 refine wpAny_bind (wpAny_field hz rfl (x:=.ref TO) rfl ?_)
 refine wpAny_bind (wpAny_setField_rec hz (by simp) fun g1 hz1 e1=>?_)
 replace hz1:IsZip g1 z TI TO .ellipsis:=hz1
 refine wpAny_bind ?_
 simp only[List.zipIdx_cons,List.zipIdx_nil,List.forIn_cons,List.forIn_nil]
 refine wpAny_bind (wpAny_bind (wpAny_onRaise ?_))
 show wpAny _ _ (Builtin.SmallTypes.nextOf (.ref j1) >>= _) _ _ _
 have s1':S1 k g1:=D1.frame k _ _ s1 fun c hc o e=>e1.extBut _ _ (fC hc D.c1) e
 rcases hk with rfl|⟨k1,rfl⟩
 ·refine wpAny_bind (D1.done { s with heap:=g1 } _ _ s1' fun g2 e x2 he=>?_)
  obtain⟨oe,hoe,hce⟩:=he
  have hz2:IsZip g2 z TI TO .ellipsis:=x2 _ _ Yk.symm hz1
  have hez:e≠z:=fun x=>by subst x;rw[hz2] at hoe;cases hoe;simp at hce
  exact wpAny_setField_rec hz2 (by simp) fun g3 _ e3=>q g3 e s.toks (fun c o c1 _ c3 _ x=>e3.extBut _ _ c1 (x2 _ _ c3 (e1.extBut _ _ c1 x))) ⟨oe,e3.extBut _ _ hez hoe,hce⟩
 ·refine wpAny_bind (D1.item k { s with heap:=g1 } _ _ k1 s1' fun x g2 tk2 px sx e2=>wpAny_pure ?_)
  have t2:IsPair g2 TO a b:=e2.extBut _ _ adY.symm (e1.extBut _ _ D.a2 hTO)
  refine wpAny_bind (wpAny_seqItems t2 rfl ?_)
  refine wpAny_bind (wpAny_updateSeq_pair t2 fun g3 t3 e3=>?_)
  refine wpAny_bind (wpAny_letGo (wpAny_pure ?_))
  refine wpAny_bind (wpAny_bind (wpAny_onRaise ?_))
  show wpAny _ _ (Builtin.SmallTypes.nextOf (.ref j2) >>= _) _ _ _
  have s2':S2 k g3:=D2.frame k _ _ s2 fun c hc o e=>e3.extBut _ _ (fC hc D.c4) (e2.extBut _ _ (fC hc D.c8) (e1.extBut _ _ (fC hc D.c2) e))
  refine wpAny_bind (D2.done { s with heap:=g3,toks:=tk2 } _ _ s2' fun g4 e x4 he=>?_)
  obtain⟨oe,hoe,hce⟩:=he
  have hz4:IsZip g4 z TI TO .ellipsis:=x4 _ _ adX.symm (e3.extBut _ _ D.a2.symm (e2.extBut _ _ Yk.symm hz1))
  have hez:e≠z:=fun x=>by subst x;rw[hz4] at hoe;cases hoe;simp at hce
  exact wpAny_setField_rec hz4 (by simp) fun g5 _ e5=>q g5 e tk2 (fun c o c1 c2 c3 c4 x=>e5.extBut _ _ c1 (x4 _ _ c4 (e3.extBut _ _ c2 (e2.extBut _ _ c3 (e1.extBut _ _ c1 x))))) ⟨oe,e5.extBut _ _ hez hoe,hce⟩
theorem zr{Q:Option Value→Shared→Prop}(D:Ap z TI TO j1 j2 f1 f2)(D1:Draws prog w A.in1 j1 f1 n1 P1 S1)(D2:Draws prog w A.in1 j2 f2 n2 P2 S2)(k1:k<n1)(k2:k<n2)
  (hz:IsZip s.heap z TI TO .none) (hTI:IsPair s.heap TI (.ref j1) (.ref j2)) (hTO:IsPair s.heap TO a b) (s1:S1 k s.heap) (s2:S2 k s.heap)
  (q:∀x y g tk,P1 k x→P2 k y→IsZip g z TI TO (rawInt s.heap.objs.size)→IsPair g TO x y→S1 (k+1) g→S2 (k+1) g→IsPair g s.heap.objs.size x y→g.objs.size=s.heap.objs.size+1→
   (∀c o,c≠z→c≠TO→c≠j1→c≠j2→s.heap.get? c=some o→g.get? c=some o)→Q (some (.ref s.heap.objs.size)) { s with heap:=g,toks:=tk }) :
  wpAny (model prog w) A (pyNext (.ref z)) Q E s:=by
 have hT:s.TypeIs (.ref z) "zip":=⟨_,hz,rfl⟩
 unfold pyNext
 exact wpAny_bind (wpAny_attempt (wpAny_callSpecial?_slot (name:=Str.ofString "__next__") hT F.slot_zip_next (wpAny_call_entry F.slot_zip_next hT F.entry_zip_next
  (QD D D1 D2 k1 k2 hz hTI hTO s1 s2 fun x y g tk u1 u2 u3 u4 u5 u6 u7 u8 u9=>wpAny_pure (q x y g tk u1 u2 u3 u4 u5 u6 u7 u8 u9)) (F.args_zip_next_1 _))))
theorem Ai{Q:Option Value→Shared→Prop}(D:Ap z TI TO j1 j2 f1 f2)(D1:Draws prog w A.in1 j1 f1 n1 P1 S1)(D2:Draws prog w A.in1 j2 f2 n2 P2 S2)(hk:k=n1∨(k<n1∧k=n2))
  (hz:IsZip s.heap z TI TO .none) (hTI:IsPair s.heap TI (.ref j1) (.ref j2)) (hTO:IsPair s.heap TO a b) (s1:S1 k s.heap) (s2:S2 k s.heap)
  (q:∀g tk,(∀c o,c≠z→c≠TO→c≠j1→c≠j2→s.heap.get? c=some o→g.get? c=some o)→Q none { s with heap:=g,toks:=tk }):wpAny (model prog w) A (pyNext (.ref z)) Q E s:=by
 have hT:s.TypeIs (.ref z) "zip":=⟨_,hz,rfl⟩
 unfold pyNext
 refine wpAny_bind (wpAny_attempt (wpAny_callSpecial?_slot (name:=Str.ofString "__next__") hT F.slot_zip_next (wpAny_call_entry F.slot_zip_next hT F.entry_zip_next
  (Vv D D1 D2 hk hz hTI hTO s1 s2 fun g e tk hkp he=>?_) (F.args_zip_next_1 _))))
 obtain⟨o,ho,hc⟩:=he
 refine wpAny_bind (wpAny_isInstance (T:="StopIteration") (b:=true) ⟨o,ho,hc⟩ isSubtype_stop ?_)
 exact wpAny_pure (q _ _ hkp)
end
end ZT
namespace L2
open PySem PySem.Spec PyProof.Rows PySem.Builtin ZT
structure Apz(z TI TO j1 j2 a1 a2:Addr):Prop where
 t1:TI≠z
 t2:TO≠z
 t3:TI≠TO
 t4:j1≠j2
 b1:z ∉ [j1,a1]
 b2:z ∉ [j2,a2]
 b3:TO ∉ [j1,a1]
 b4:TO ∉ [j2,a2]
 b5:TI ∉ [j1,a1]
 b6:TI ∉ [j2,a2]
 b7:j2 ∉ [j1,a1]
 b8:j1 ∉ [j2,a2]
 c1:a1≠j1
 c2:a2≠j2
theorem Apz.ap{z TI TO j1 j2 a1 a2:Addr}(D:Apz z TI TO j1 j2 a1 a2):Ap z TI TO j1 j2 [j1,a1] [j2,a2]:=⟨D.t1,D.t2,D.t3,D.t4,by simp,by simp,D.b1,D.b2,D.b3,D.b4,D.b5,D.b6,D.b7,D.b8⟩
end L2
namespace Ev
open PySem PySem.Spec PyProof.Rows L2 PySem.Builtin
section
variable{X:Cx}{C:Cfg}{pos:Pos}{e e2:Expr}
noncomputable def GF(x y:List D):List D:=(x.zip y).map fun p=>.tup [p.1,p.2]
theorem Fp{K:Fg}{F:Hp}:∀{ds:List D} {vs:List V},bN K F ds vs→∀{i:Nat} {d:D},ds[i]? = some d→∃v,vs[i]? = some v∧Rep K F d v
 | [],vs,_,i,d,h=>by simp at h
 | x::ds,vs,r,i,d,h=>by
  obtain⟨v,w,rfl,p,q⟩:=r
  cases i with
  | zero=>simp at h;subst h;exact⟨v,rfl,p⟩
  | succ i=>obtain⟨u,h1,h2⟩:=Fp q (i:=i) (by simpa using h);exact⟨u,by simpa using h1,h2⟩
end
end Ev
namespace Ev
open PySem PySem.Spec PyProof.Rows L2
theorem Rel.hold{C:Cfg}{Pr F:Hp}{env:Env}{σ:L2.St}{H:Hp}{d:D}{a:Addr}{o:HO}(r:Rel C Pr F env σ H)(n:QC C.K Pr F env σ H d a)(ho:H a=some o):Rel C (upd Pr a o) F env σ H:=by
 refine⟨fun b u e=>?_,r.fr,r.len,r.val,fun j e he=>?_,r.apart,fun b u e=>?_,r.fix⟩
 ·by_cases hb:b=a
  ·subst hb;rw[aW] at e;cases e;exact ho
  ·rw[bK hb] at e;exact r.pr b u e
 ·obtain⟨b,h1,h2,h3,h4⟩:=r.own j e he
  have hb:b≠a:=fun z=>n.ap j e he (by rw[←z];exact h1)
  exact⟨b,h1,h2,h3,by rw[bK hb];exact h4⟩
 ·have hb:b≠a:=fun z=>by rw[z,n.nF] at e;cases e
  rw[bK hb];exact r.dj b u e
theorem Rel.aef{C:Cfg}{Pr F F':Hp}{env:Env}{σ:L2.St}{H H':Hp}{a:Addr}{oa:HO}(r:Rel C (upd Pr a oa) F env σ H)(nP:Pr a=none)(s:∀b o,b≠a→H b=some o→H' b=some o)(sF:aO F' H')(YG:aO F F')(nw:∀b o,F' b=some o→F b=some o∨H b=none):Rel C Pr F' env σ H':=by
 refine⟨fun b u e=>?_,sF,r.len,fun j e he=>?_,fun j e he=>?_,r.apart,fun b o e=>?_,r.fix⟩
 ·have hb:b≠a:=fun z=>by rw[z,nP] at e;cases e
  exact s b u hb (r.pr b u (by rw[bK hb];exact e))
 ·obtain⟨v,h1,h2⟩:=r.val j e he
  exact⟨v,h1,Rep.mono YG _ _ h2⟩
 ·obtain⟨b,h1,h2,h3,h4⟩:=r.own j e he
  obtain⟨o,ho⟩:=h2.some
  have hb:b≠a:=fun z=>by rw[z,aW] at h4;cases h4
  refine⟨b,h1,h2.mono YG (by rw[ho,s _ _ hb ho]),?_,Hw h4⟩
  cases e:F' b with
  | none=>rfl
  | some u=>
   rcases nw b u e with z|z
   ·rw[h3] at z;cases z
   ·rw[ho] at z;cases z
 ·rcases nw b o e with z|z
  ·exact Hw (r.dj b o z)
  ·cases hp:Pr b with
   | none=>rfl
   | some u=>
    have hb:b≠a:=fun y=>by rw[y,nP] at hp;cases hp
    have:=r.pr b u (by rw[bK hb];exact hp)
    rw[this] at z;cases z
noncomputable def IV(f:List D→Option (D×D))(c:Ev)(a:cL):Ev:=fun env=>bindR (c env) fun x aG=>bindR (a aG) fun ds cQ=>match f (x::ds) with
 | some (d,_)=>.ok d cQ
 | none=>.stuck
section
variable{X:Cx}{C:Cfg}{pos p:Pos}{n:Str}{e1:Expr}{es:List Expr}{ea:cL}{c:Ev}
theorem QR{k k':Nat}{m:Nat}{ps:List Str}{g:List D→Option (D×D)}(O:Own X.prog X.w X.K X.mg X.base n k ps (jn X.K m g))(G:Good X C)(hr:iZ k' X.A)(hk:Nat.ble k k'=true)(hc:Jy X C e1 c)(ha:Dg X C es ea)(hn:∀env ds env',ea env = .ok ds env'→ds.length+1=m)
  (hg:Gl X n:=by rfl) (hdb:(n == ("__debug__" : Str))=false:=by decide) (he:starEach (e1::es) X.env=(false,eval e1 X.env)::starEach es X.env:=by rfl) (hpl:(backTo pos (starEach es X.env)).any (·.1)=false:=by rfl):PX X C (.Call (.Name n p) (e1::es) [] pos) (IV g c ea):=by
 obtain⟨f,fd,h1,h2,h3,h4⟩:=O
 rw[G.K] at h1
 have h1':rF X.prog X.w X.K X.mg X.base GD k f fd ps (jn C.K m g):=by rw[G.K];exact h1
 refine(zF h1' (hr.mono (Nat.le_of_ble_eq_true hk)) hg h2 h3 h4 .nil M4 (lW hc ha he) hdb he hpl).imp fun σ H Q hq=>?_
 obtain⟨Pr,F,env,env',d,r,e,q⟩:=hq
 obtain⟨x,aG,u1,u2⟩:=aR e
 obtain⟨ds,cQ,u3,u4⟩:=aR u2
 split at u4
 ·rename_i d1 z' hf
  cases u4
  refine⟨Pr,F,env,aG,x,r,u1,fun a H1 F1 r1 s1 n1=>?_⟩
  obtain⟨o,ho⟩:=n1.own.some
  refine⟨upd Pr a o,F1,aG,env',ds,r1.hold n1 ho,u3,fun vs H2 F2 r2 s2 p2=>?_⟩
  have ho2:H2 a=some o:=r2.pr a o aW
  have hF2:F2 a=none:=by
   cases z:F2 a with
   | none=>rfl
   | some w=>have:=r2.dj a w z;rw[aW] at this;cases this
  show jn C.K m g (_::vs++[]) H2 Q E0
  rw[List.append_nil]
  exact⟨F2,a,vs,x,ds,d,z',rfl,hn _ _ _ u3,r2.fr,hF2,n1.own.mono s2 (by rw[ho2,ho]),p2,hf,fun v H3 F3 t1 t2 t3 t4 t5 p3=>q v H3 F3 (r2.aef n1.nP t1 t2 t3 t4) ((s1.trans s2).trans t3) p3⟩
 ·cases u4
end
end Ev
namespace Ev
open PySem PySem.Spec PyProof.Rows L2
noncomputable def KQ(g:GV)(wI:cL)(g2:GV)(c:dG)(e:Ev):List D→Env→R (List D)
 | [],env=>.ok [] env
 | d::ds,env=>(match g d env with
  | none=>.stuck
  | some e1=>bindR (wI e1) fun By e2=>bindR (wH g2 c e By e2) fun ys e3=>bindR (KQ g wI g2 c e ds e3) fun zs e4=>.ok (ys++zs) e4)
noncomputable def zb(lo n:Nat)(it:cL)(g:GV)(wI:cL)(g2:GV)(c:dG)(e:Ev):Ev:=fun env=>bindR (it env) fun ds aG=>if aG.length=lo then bindR (KQ g wI g2 c e ds (aG++List.replicate (n - lo) none)) fun ys cQ=>(if ys.length≤sizeLine then .ok (.lst ys) (cQ.take lo) else .stuck) else .stuck
theorem abH{C:Cfg}{lo n:Nat}{it wI:cL}{g g2:GV}{c:dG}{e:Ev}{σ:L2.St}{H:Hp}{Q:VK}(h:tN C (zb lo n it g wI g2 c e) σ H Q):aeA n (tI C it) (tG C lo g) (tI C wI) (tG C lo g2) (tT C c) (tE C e) σ H Q:=by
 obtain⟨Pr,F,env,env',d,r,ev,q⟩:=h
 obtain⟨ds,aG,e1,e2⟩:=aR ev
 split at e2
 ·rename_i hlo
  obtain⟨ys,cQ,e3,e4⟩:=aR e2
  split at e4
  ·rename_i hz
   cases e4
   refine⟨Pr,F,env,aG,ds,r,e1,fun J H1 F1 r1 s1 y1 a ha=>?_⟩
   have hσ:σ.length=lo:=r1.len.symm.trans hlo
   have hPa:Pr a=none:=r1.pr.free ha
   refine⟨fun i m σ' H'=>m=ds.length - i∧i≤ds.length∧∃F' oE acc ws rest,Rel C (upd Pr a (.lst ws)) F' oE σ' H'∧aO F1 F'∧bN C.K F' acc ws∧σ'.take lo=σ∧KQ g wI g2 c e (ds.drop i) oE = .ok rest cQ∧acc++rest=ys,
    ⟨ds.length,rfl,Nat.zero_le _,F1,aG++List.replicate (n - lo) none,[],[],ys,?_,aO.refl _,rfl,?_,e3,rfl⟩,?_⟩
   ·rw[hσ];exact(r1.aside (o:=.lst []) ha).pad _
   ·unfold rZ
    rw[←hσ,List.take_left]
   rintro i m σ' H' ⟨rfl,hi,F',oE,acc,ws,rest,r',s',p',t',l',hacc⟩
   have hFa:F' a=none:=by
    cases ez:F' a with
    | none=>rfl
    | some w=>have:=r'.dj a w ez;rw[aW] at this;cases this
   by_cases hl:i<ds.length
   ·have hd:ds[i]? = some ds[i]:=List.getElem?_eq_getElem hl
    have hdr:ds.drop i=ds[i]::ds.drop (i+1):=List.drop_eq_getElem_cons hl
    have yy:=y1 i H' (s'.trans r'.fr)
    refine .inr ⟨(yy.2 _ hd).1,fun σ2 H2=>∃F' oE acc ws rest,Rel C (upd Pr a (.lst ws)) F' oE σ2 H2∧aO F1 F'∧bN C.K F' acc ws∧σ2.take lo=σ∧KQ g wI g2 c e (ds.drop (i+1)) oE = .ok rest cQ∧acc++rest=ys,
     fun σ2 H2 h2=>⟨ds.length - (i+1),by omega,rfl,hl,h2⟩,fun x H2 hy=>?_⟩
    obtain⟨F2,r2,s2,p2⟩:=pU.item r' s' y1 hd hy
    rw[hdr] at l'
    unfold KQ at l'
    cases eg:g ds[i] oE with
    | none=>rw[eg] at l';cases l'
    | some e5=>
     rw[eg] at l'
     obtain⟨By,e6,c1,l2⟩:=aR l'
     obtain⟨yI,e7,c2,l3⟩:=aR l2
     obtain⟨zs,e8,c3,l4⟩:=aR l3
     cases l4
     refine⟨_,F2,oE,e5,ds[i],r2,p2,eg,fun σ3 H3 F3 r3 s3 t3=>⟨_,F3,e5,e6,By,r3,c1,fun J2 H4 F4 r4 s4 y4=>?_⟩⟩
     have t3':σ3.take lo=σ:=t3.trans t'
     have s24:aO F' F4:=(s2.trans s3).trans s4
     -- the second loop
     refine⟨fun i2 m2 σ5 H5=>m2=By.length - i2∧i2≤By.length∧∃F5 oE Dd QT Af,Rel C (upd Pr a (.lst QT)) F5 oE σ5 H5∧aO F4 F5∧bN C.K F5 Dd QT∧σ5.take lo=σ∧wH g2 c e (By.drop i2) oE = .ok Af e7∧Dd++Af=acc++yI,
      ⟨By.length,rfl,Nat.zero_le _,F4,e6,acc,ws,yI,r4,aO.refl _,bN.mono s24 _ _ p',t3',c2,rfl⟩,?_⟩
     rintro i2 m2 σ5 H5 ⟨rfl,hi2,F5,aiR,Dd,QT,Af,r5,s5,p5,t5,l5,Ih⟩
     by_cases hl2:i2<By.length
     ·have hd2:By[i2]? = some By[i2]:=List.getElem?_eq_getElem hl2
      have amB:By.drop i2=By[i2]::By.drop (i2+1):=List.drop_eq_getElem_cons hl2
      have yy2:=y4 i2 H5 (s5.trans r5.fr)
      refine .inr ⟨(yy2.2 _ hd2).1,fun σ6 H6=>∃F5 oE Dd QT Af,Rel C (upd Pr a (.lst QT)) F5 oE σ6 H6∧aO F4 F5∧bN C.K F5 Dd QT∧σ6.take lo=σ∧wH g2 c e (By.drop (i2+1)) oE = .ok Af e7∧Dd++Af=acc++yI,
       fun σ6 H6 h6=>⟨By.length - (i2+1),by omega,rfl,hl2,h6⟩,fun y H6 hy2=>?_⟩
      obtain⟨F6,r6,s6,p6⟩:=pU.item r5 s5 y4 hd2 hy2
      rw[amB] at l5
      unfold wH at l5
      cases eg2:g2 By[i2] aiR with
      | none=>rw[eg2] at l5;cases l5
      | some e9=>
       rw[eg2] at l5
       obtain⟨b,e10,c4,l6⟩:=aR l5
       refine⟨_,F6,aiR,e9,By[i2],r6,p6,eg2,fun σ7 H7 F7 r7 s7 t7=>⟨_,F7,e9,e10,b,r7,c4,fun H8 F8 r8 s8=>?_⟩⟩
       have t7':σ7.take lo=σ:=t7.trans t5
       have s58:aO F5 F8:=(s6.trans s7).trans s8
       cases b with
       | false=>
        show if false=true then _ else _
        rw[if_neg Bool.false_ne_true]
        rw[if_neg Bool.false_ne_true] at l6
        exact⟨F8,e10,Dd,QT,Af,r8,s5.trans s58,bN.mono s58 _ _ p5,t7',l6,Ih⟩
       | true=>
        show if true=true then _ else _
        rw[if_pos rfl]
        rw[if_pos rfl] at l6
        obtain⟨v,e11,c5,l7⟩:=aR l6
        obtain⟨rs3,e12,c6,l8⟩:=aR l7
        cases l8
        refine⟨_,F8,e10,e11,v,r8,c5,fun u H9 F9 r9 s9 p9=>?_⟩
        have hlen:Dd.length+(rs3.length+1)=acc.length+yI.length:=by
         have:=congrArg List.length Ih
         rwa [List.length_append,List.length_append,List.length_cons] at this
        have hlen2:acc.length+(yI.length+zs.length)=ys.length:=by
         have:=congrArg List.length hacc
         rwa [List.length_append,List.length_append] at this
        refine⟨QT,r9.pr _ _ aW,by rw[p5.length];omega,F9,e11,Dd++[v],QT++[u],rs3,?_,s5.trans (s58.trans s9),(bN.mono (s58.trans s9) _ _ p5).append (bN.one p9),t7',c6,by rw[List.append_assoc];exact Ih⟩
        have r10:=r9.turn (u:=.lst (QT++[u])) aW
        rwa [Mq] at r10
     ·have ei2:i2=By.length:=by omega
      subst ei2
      rw[List.drop_length] at l5
      cases l5
      rw[List.append_nil] at Ih
      refine .inl ⟨(y4 _ H5 (s5.trans r5.fr)).1 (List.getElem?_eq_none (Nat.le_refl _)) rfl,?_⟩
      exact⟨F5,e7,Dd,QT,zs,r5,s'.trans (s24.trans s5),p5,t5,c3,by rw[Ih,List.append_assoc];exact hacc⟩
   ·have ei:i=ds.length:=by omega
    subst ei
    rw[List.drop_length] at l'
    cases l'
    rw[List.append_nil] at hacc
    subst hacc
    refine .inl ⟨(y1 _ H' (s'.trans r'.fr)).1 (List.getElem?_eq_none (Nat.le_refl _)) rfl,?_⟩
    have sP:aO Pr (upd Pr a (.lst ws)):=mq hPa
    have r7:Rel C Pr F' (cQ.take lo) σ H':=by
     have:=(r'.less sP).cut (σ0:=σ) (by rw[hσ];exact t') r1.fix
     rwa [hσ] at this
    refine q a H' F' r7 (s1.trans s') ⟨⟨hz,ws,r'.pr _ _ aW,p'⟩,hFa,hPa,fun j e he hs=>?_⟩
    have hj:j<σ.length:=(List.getElem?_eq_some_iff.mp hs).1
    have he':cQ[j]? = some (some (true,e)):=by
     rw[List.getElem?_take_of_lt (by rw[←hσ];exact hj)] at he
     exact he
    obtain⟨b,g1,_,_,g4⟩:=r'.own j e he'
    have:σ'[j]? = some (some (V.ref a)):=by
     rw[←t',List.getElem?_take_of_lt (by rw[←hσ];exact hj)] at hs
     exact hs
    rw[this] at g1;cases g1
    rw[aW] at g4;cases g4
  ·cases e4
 ·cases e2
section
variable{X:Cx}{C:Cfg}{pos:Pos}{n:Str}
theorem Mx{elt tg iter qt cN:Expr}{ifs:List Expr}{scope:Scope}(N':List Str){spos py:Pos}{it wI:cL}{g g2:GV}{c:dG}{e:Ev}(lo:Nat)(i:Nat)(ok:jG X scope N')(G:Good X C)(hi:GC X C tg iter it)
  (bg:∀X',dH X scope N' X'→Jr X' C lo tg g) (bi:∀X',dH X scope N' X'→GC X' C qt cN wI) (bg2:∀X',dH X scope N' X'→Jr X' C lo qt g2) (bc:∀X',dH X scope N' X'→Jq X' C ifs c) (be:∀X',dH X scope N' X'→PX X' C elt e)
  (hnd:jA X.N=true:=by rfl) (hfx:C.fx i=none:=by rfl) (hy:X.N[i]? = some n:=by rfl) (hx:Loc X.env.scope n:=by first|exact Or.inl rfl|exact Or.inr rfl)
  (hsw:swapsWith (.ListComp elt [⟨tg,iter,[],0⟩,⟨qt,cN,ifs,0⟩] scope pos) (some (.Name n py)) spos.line X.env=pure true:=by rfl)
  (hf:X.fn n=true∨X.env.scope.names.lookup n=some .local:=by first|exact .inl rfl|exact .inr rfl)
  (hs2:∀(X':Cx) (x:Value),dH X scope N' X'→foldedSetIterable cN X'.env x=pure x:=by intro _ _ _;rfl) (hs:∀x,foldedSetIterable iter X.env x=pure x:=by intro _;rfl):Ce X C (.Assign [.Name n py] (.ListComp elt [⟨tg,iter,[],0⟩,⟨qt,cN,ifs,0⟩] scope pos) spos) (dB i (zb lo N'.length it g wI g2 c e)):=
 (O8 ok G.calm hi bg bi bg2 hs2 bc be (jQ hnd) hy hx hsw hf hs).imp fun D σ H h=>by
  obtain⟨Pr,F,env,r,f⟩:=h
  obtain⟨d,aG,e1,f1⟩:=dU f
  have:tN C (zb lo N'.length it g wI g2 c e) σ H fun v H1=>za i v σ H1 D.nx:=⟨Pr,F,env,aG,d,r,e1,fun v H1 F1 r1 s1 p1=>f1 _ H1 F1 (r1.Ko hfx p1) s1⟩
  exact abH this
end
end Ev
namespace Ev
open PySem PySem.Spec PyProof.Rows L2
section
variable{X:Cx}{C:Cfg}{pos:Pos}{n:Str}
noncomputable def Dl(i:Nat)(a:Ev):bQ:=fun env=>match env[i]? with
 | some (some (true,.lst _))=>dW (a env) fun d aG=>(match aG[i]?,d with
  | some (some (true,.lst xs)),.lst zs=>if xs.length+zs.length≤sizeLine then .nx (aG.set i (some (true,.lst (xs++zs)))) else .stuck
  | _,_=>.stuck)
 | _=>.stuck
theorem Rf{e:Expr}{a:Ev}{px apos cpos:Pos}(i:Nat)(G:Good X C)(he:PX X C e a)(hN:X.N[i]? = some n:=by rfl)(hv:uw X.env.scope n:=by first|exact Or.inl rfl|exact Or.inr (Or.inl rfl)|exact Or.inr (Or.inr rfl))
  (hs:swapsWith (.Call (.Attribute (.Name n px) "extend" apos) [e] [] cpos) none pos.line X.env=pure false:=by rfl)
  (hfew:((backTo cpos (starEach [e] X.env)).all (fun x=>!x.1)&&(backToKw cpos (keywordEach [] X.env)).all (fun x=>x.1.isSome)
   && decide (([e]:List Expr).length+([]:List Keyword).length+(if ([]:List Keyword).isEmpty then 0 else 1)<30))=true:=by rfl)
  (hbase:attributeBase (.Name n px) "extend" X.env (eval (.Name n px) X.env)=eval (.Name n px) X.env:=by rfl)
  (hline:(apos.endLine == cpos.line)=true:=by rfl) (hst:starEach [e] X.env=(false,eval e X.env)::starEach [] X.env:=by rfl) (hplain:(backTo cpos (starEach [] X.env)).any (·.1)=false:=by rfl)
  (hd:(n == ("__debug__" : Str))=false:=by decide) (hcd:(n == ("__classdict__" : Str))=false:=by decide):Ce X C (.Expr (.Call (.Attribute (.Name n px) "extend" apos) [e] [] cpos) pos) (Dl i a):=by
 refine PS.imp (MN (RV PySem.F.plainAttrs_list PySem.F.slot_list_extend PySem.F.type_list_extend PJ (mO hN hv hd hcd) (lW he uP hst) hbase hfew hline hst hplain) hs) fun D σ H h=>?_
 obtain⟨Pr,F,env,r,f⟩:=h
 unfold Dl at f
 split at f
 ·rename_i xs0 h0
  obtain⟨d,aG,e1,f1⟩:=dU f
  obtain⟨a0,hv0,⟨z0,vs0,g0,_⟩,_⟩:=r.own i _ h0
  refine⟨_,hv0,.inl ⟨rfl,vs0,jY.of g0⟩,Pr,F,env,aG,d,r,e1,fun v H1 F1 r1 s1 p1=>?_⟩
  split at f1
  ·rename_i xs zs h1
   split at f1
   ·rename_i hz
    obtain⟨a,g1,⟨z,vs,g2,g3⟩,g4,g5⟩:=r1.own i _ h1
    rw[hv0] at g1;cases g1
    obtain⟨_,b,ws,rfl,hb,hws⟩:=jk.lst r1.fr (.inl p1)
    refine⟨a0,b,vs,ws,rfl,rfl,g2,hb,by rw[g3.length,hws.length];exact hz,?_⟩
    exact f1 σ _ F1 (r1.write h1 hv0 ⟨by rw[List.length_append];exact hz,vs++ws,aW,g3.append hws⟩) s1
   ·exact f1.elim
  ·exact f1.elim
 ·exact f.elim
end
end Ev
namespace SX
open PySem PySem.Spec PyProof.Rows L2 PySem.Builtin
noncomputable def led(w:World):Bool:=!(w.params.followText "set-order")
structure TOk(P:Program)(w:World)(es:Array (Int×Value))(t:SetTable)(ys:List Str):Prop where
 el:ElemsOf (strKind P w) es.toList
 tx:∃ss:List Str,StrsAre (es.toList.map (·.2)) ss∧ss.Perm ys
 fit:t.fits es.size=true
 ld:t.led=led w
 pl:es.size≠0→t.plain=false
noncomputable def Vc(P:Program)(w:World)(h:Heap)(a:Addr)(ys:List Str):Prop:=
 ∃o es ep t,h.get? a=some o∧o.ExactSet∧o.data = .set es ep t∧TOk P w es t ys
end SX
namespace SX
open PySem PySem.Spec PyProof.Rows L2 PySem.Builtin Ev
noncomputable def anI(P:Program)(w:World)(a:Addr)(ys:List Str):HO:=.ext fun h=>Vc P w h a ys
end SX
namespace Ev
open PySem PySem.Spec PyProof.Rows L2 PySem.Builtin
section
variable{X:Cx}{C:Cfg}{pos:Pos}
structure PXL(X:Cx)(C:Cfg)(es:List Expr)(ev:cL):Prop where
 go:Dg X C es ev
theorem Fv:PXL X C [] ao:=⟨aB⟩
theorem mz{e:Expr}{es:List Expr}{a:Ev}{r:cL}(ha:PX X C e a)(hr:PXL X C es r)(hs:starEach (e::es) X.env=(false,eval e X.env)::starEach es X.env:=by rfl):PXL X C (e::es) (aa a r):=⟨aj ha hr.go hs⟩
theorem Ky{es:List Expr}{a:cL}(h:PXL X C es a):Jy X C (.List es pos) (cG a):=dz h.go
end
end Ev
namespace Ev
open PySem PySem.Spec PyProof.Rows L2 PySem.Builtin
section
variable{X:Cx}{C:Cfg}{pos:Pos}{x:Expr}{a:Ev}
noncomputable def ait:D→Option D
 | .tup xs=>some (.tup xs.reverse)
 | _=>none
end
end Ev
namespace Ev
open PySem L2
theorem nr{α:Type}{a b:α}(h:a=b):a=b:=h
theorem bR{α β:Type}(a:α)(e:Env)(f:α→Env→R β):bindR (.ok a e) f=f a e:=nr rfl
theorem bO{α:Type}(a:α)(e:Env)(f:α→Env→Out):dW (.ok a e) f=f a e:=nr rfl
theorem lR{α:Type}(a:α)(e:Env):dY (some a) e = .ok a e:=nr rfl
theorem lO(e:Env):Dz (some e) = .nx e:=nr rfl
noncomputable def Vj{α:Type}(_:Env):R α:=.stuck
noncomputable def Ov(o:Out)(b:bQ):Out:=match o with
 | .nx e=>b e
 | .rt o d e=>.rt o d e
 | .bk e=>.bk e
 | .ct e=>.ct e
 | .stuck=>.stuck
theorem Mu(a b:bQ)(env:Env):aC a b env=Ov (a env) b:=nr rfl
theorem sNx(e:Env)(b:bQ):Ov (.nx e) b=b e:=nr rfl
theorem sRt(o:Bool)(d:D)(e:Env)(b:bQ):Ov (.rt o d e) b = .rt o d e:=nr rfl
theorem sBk(e:Env)(b:bQ):Ov (.bk e) b = .bk e:=nr rfl
theorem sCt(e:Env)(b:bQ):Ov (.ct e) b = .ct e:=nr rfl
noncomputable def Ng{α:Type}(c:Bool)(a b:Env→α)(env:Env):α:=if c=true then a env else b env
theorem iT{α:Type}(a b:Env→α)(env:Env):Ng true a b env=a env:=nr rfl
theorem iF{α:Type}(a b:Env→α)(env:Env):Ng false a b env=b env:=nr rfl
noncomputable def Zb{α:Type}(a b:Env→α)(c:Bool)(e:Env):α:=Ng c a b e
theorem Za{α:Type}(a b:Env→α)(c:Bool)(e:Env):Zb a b c e=Ng c a b e:=nr rfl
theorem aaw(t:dG)(a b:bQ)(env:Env):cT t a b env=dW (t env) (Zb a b):=nr rfl
theorem adR(t:dG)(a b:Ev)(env:Env):am2 t a b env=bindR (t env) (Zb a b):=nr rfl
noncomputable def okT(b:Bool):dG:=fun e=>.ok b e
theorem aga(b:Bool)(e:Env):okT b e = .ok b e:=nr rfl
theorem Uw(a b:dG)(env:Env):cz a b env=bindR (a env) (Zb b (okT false)):=nr rfl
theorem X7(a b:dG)(env:Env):aiO a b env=bindR (a env) (Zb (okT true) b):=nr rfl
noncomputable def blR{α:Type}(d:D)(f:Bool→R α):R α:=match d with
 | .bl b=>f b
 | _=>.stuck
theorem bB{α:Type}(b:Bool)(f:Bool→R α):blR (.bl b) f=f b:=nr rfl
noncomputable def okB(b:Bool):Ev:=fun e=>.ok (.bl b) e
theorem agb(b:Bool)(e:Env):okB b e = .ok (.bl b) e:=nr rfl
noncomputable def HX(a b:Ev)(d:D)(e:Env):R D:=blR d (Ld a b e)
where Ld (a b:Ev) (e:Env) (c:Bool):R D:=Ng c a b e
theorem Xi(a b:Ev)(d:D)(e:Env):HX a b d e=blR d (HX.Ld a b e):=nr rfl
theorem Tt(a b:Ev)(e:Env)(c:Bool):HX.Ld a b e c=Ng c a b e:=nr rfl
theorem Yh(a b:Ev)(env:Env):Zi a b env=bindR (a env) (HX b (okB false)):=by
 unfold Zi
 congr 1
 funext d e
 cases d with
 | bl b=>cases b<;>rfl
 | _=>rfl
theorem adP(a b:Ev)(env:Env):Iw a b env=bindR (a env) (HX (okB true) b):=by
 unfold Iw
 congr 1
 funext d e
 cases d with
 | bl b=>cases b<;>rfl
 | _=>rfl
noncomputable def Te(e:Env)(c:Bool):R D:=.ok (.bl (!c)) e
noncomputable def ah1(d:D)(e:Env):R D:=blR d (Te e)
theorem W9(e:Env)(c:Bool):Te e c = .ok (.bl (!c)) e:=nr rfl
theorem abW(d:D)(e:Env):ah1 d e=blR d (Te e):=nr rfl
theorem X8(a:Ev)(env:Env):IK a env=bindR (a env) ah1:=by
 unfold IK
 congr 1
noncomputable def kB2(e:Env)(c:Bool):R Bool:=.ok c e
noncomputable def kB(d:D)(e:Env):R Bool:=blR d (kB2 e)
theorem aib(e:Env)(c:Bool):kB2 e c = .ok c e:=nr rfl
theorem amn(d:D)(e:Env):kB d e=blR d (kB2 e):=nr rfl
theorem aiQ(a:Ev)(env:Env):cX a env=bindR (a env) kB:=by
 unfold cX
 congr 1
noncomputable def Kg{α:Type}(o:Option (Option (Bool×D)))(f:Bool→D→R α):R α:=match o with
 | some (some (o,d))=>f o d
 | _=>.stuck
theorem rS{α:Type}(o:Bool)(d:D)(f:Bool→D→R α):Kg (some (some (o,d))) f=f o d:=nr rfl
noncomputable def kRd(env:Env)(_:Bool)(d:D):R D:=.ok d env
theorem ahZ(env:Env)(o:Bool)(d:D):kRd env o d = .ok d env:=nr rfl
theorem adO(i:Nat)(env:Env):aY i env=Kg env[i]? (kRd env):=by
 unfold aY Kg;rfl
noncomputable def ahS(i:Nat)(env:Env)(o:Bool)(d:D):R D:=.ok d (bif o then env.set i (some (false,d)) else env)
theorem abO(i:Nat)(env:Env)(o:Bool)(d:D):ahS i env o d = .ok d (bif o then env.set i (some (false,d)) else env):=nr rfl
theorem XQ(i:Nat)(env:Env):aq i env=Kg env[i]? (ahS i env):=by
 unfold aq Kg
 cases env[i]? with
 | none=>rfl
 | some o=>
  cases o with
  | none=>rfl
  | some p=>obtain⟨b,d⟩:=p;cases b<;>rfl
noncomputable def Le(g:D→D→Option D)(y:D)(e:Env)(_:Bool)(x:D):R D:=dY (g x y) e
noncomputable def Lf(g:D→D→Option D)(i:Nat)(y:D)(e:Env):R D:=Kg e[i]? (Le g y e)
noncomputable def Zd(g:D→D→Option D)(i:Nat)(b:Ev)(env:Env)(_:Bool)(_:D):R D:=bindR (b env) (Lf g i)
theorem Tu(g:D→D→Option D)(y:D)(e:Env)(o:Bool)(x:D):Le g y e o x=dY (g x y) e:=nr rfl
theorem Tv(g:D→D→Option D)(i:Nat)(y:D)(e:Env):Lf g i y e=Kg e[i]? (Le g y e):=nr rfl
theorem Xj(g:D→D→Option D)(i:Nat)(b:Ev)(env:Env)(o:Bool)(d:D):Zd g i b env o d=bindR (b env) (Lf g i):=nr rfl
theorem Uv(g:D→D→Option D)(i:Nat)(b:Ev)(env:Env):au g i b env=Kg env[i]? (Zd g i b env):=by
 unfold au Kg;rfl
noncomputable def ioR{α:Type}(o:Option (D×D))(f:D→D→R α):R α:=match o with
 | some (d,x)=>f d x
 | none=>.stuck
theorem oS{α:Type}(d x:D)(f:D→D→R α):ioR (some (d,x)) f=f d x:=nr rfl
noncomputable def ab7(i:Nat)(e:Env)(d x':D):R D:=.ok d (e.set i (some (true,x')))
noncomputable def ab9(f:List D→Option (D×D))(i:Nat)(x:D)(ds:List D)(e:Env):R D:=ioR (f (x::ds)) (ab7 i e)
noncomputable def Th(f:List D→Option (D×D))(i:Nat)(ds:List D)(e:Env)(o:Bool)(x:D):R D:=Ng o (ab9 f i x ds) Vj e
noncomputable def acd(f:List D→Option (D×D))(i:Nat)(ds:List D)(e:Env):R D:=Kg e[i]? (Th f i ds e)
noncomputable def acf(f:List D→Option (D×D))(i:Nat)(a:cL)(env:Env):R D:=bindR (a env) (acd f i)
noncomputable def kIO(f:List D→Option (D×D))(i:Nat)(a:cL)(env:Env)(o:Bool)(_:D):R D:=Ng o (acf f i a) Vj env
theorem ab6(i:Nat)(e:Env)(d x':D):ab7 i e d x' = .ok d (e.set i (some (true,x'))):=nr rfl
theorem ab8(f:List D→Option (D×D))(i:Nat)(x:D)(ds:List D)(e:Env):ab9 f i x ds e=ioR (f (x::ds)) (ab7 i e):=nr rfl
theorem aca(f:List D→Option (D×D))(i:Nat)(ds:List D)(e:Env)(o:Bool)(x:D):Th f i ds e o x=Ng o (ab9 f i x ds) Vj e:=nr rfl
theorem acb(f:List D→Option (D×D))(i:Nat)(ds:List D)(e:Env):acd f i ds e=Kg e[i]? (Th f i ds e):=nr rfl
theorem ace(f:List D→Option (D×D))(i:Nat)(a:cL)(env:Env):acf f i a env=bindR (a env) (acd f i):=nr rfl
theorem ah6(f:List D→Option (D×D))(i:Nat)(a:cL)(env:Env)(o:Bool)(d:D):kIO f i a env o d=Ng o (acf f i a) Vj env:=nr rfl
theorem adS(f:List D→Option (D×D))(i:Nat)(a:cL)(env:Env):cJ f i a env=Kg env[i]? (kIO f i a env):=by
 unfold cJ Kg kIO Ng
 cases env[i]? with
 | none=>rfl
 | some o=>
  cases o with
  | none=>rfl
  | some p=>
   obtain⟨b,d⟩:=p
   cases b with
   | false=>rfl
   | true=>
    show bindR (a env) _=bindR (a env) _
    congr 1
    funext ds e
    show _=Kg e[i]? (Th f i ds e)
    unfold Kg Th Ng
    cases e[i]? with
    | none=>rfl
    | some o=>
     cases o with
     | none=>rfl
     | some p=>obtain⟨b,d⟩:=p;cases b<;>rfl
noncomputable def Tf(e:Env)(d _:D):R D:=.ok d e
noncomputable def Tg(f:List D→Option (D×D))(x:D)(ds:List D)(e:Env):R D:=ioR (f (x::ds)) (Tf e)
noncomputable def ah5(f:List D→Option (D×D))(a:cL)(x:D)(e:Env):R D:=bindR (a e) (Tg f x)
theorem Xa(e:Env)(d x:D):Tf e d x = .ok d e:=nr rfl
theorem Xb(f:List D→Option (D×D))(x:D)(ds:List D)(e:Env):Tg f x ds e=ioR (f (x::ds)) (Tf e):=nr rfl
theorem ab5(f:List D→Option (D×D))(a:cL)(x:D)(e:Env):ah5 f a x e=bindR (a e) (Tg f x):=nr rfl
theorem Ye(f:List D→Option (D×D))(c:Ev)(a:cL)(env:Env):IV f c a env=bindR (c env) (ah5 f a):=nr rfl
noncomputable def acH{α:Type}(d:D)(f:Int→R α):R α:=match d with
 | .int i=>f i
 | _=>.stuck
theorem nS{α:Type}(i:Int)(f:Int→R α):acH (.int i) f=f i:=nr rfl
noncomputable def kP2(e:Env)(i:Int):R (Option Int):=.ok (some i) e
noncomputable def kP(d:D)(e:Env):R (Option Int):=acH d (kP2 e)
theorem ah0(e:Env)(i:Int):kP2 e i = .ok (some i) e:=nr rfl
theorem amk(d:D)(e:Env):kP d e=acH d (kP2 e):=nr rfl
theorem aiN(a:Ev)(env:Env):uJ a env=bindR (a env) kP:=nr rfl
noncomputable def obR{α:Type}(o:Option D)(f:Bool→R α):R α:=match o with
 | some (.bl k)=>f k
 | _=>.stuck
theorem obS{α:Type}(k:Bool)(f:Bool→R α):obR (some (.bl k)) f=f k:=nr rfl
noncomputable def acu(g':D→D→Option D)(v t:D)(e:Env):R D:=dY (g' v t) e
noncomputable def acw(g':D→D→Option D)(c:Ev)(v:D)(e:Env):R D:=bindR (c e) (acu g' v)
noncomputable def Tr(g':D→D→Option D)(c:Ev)(v:D)(e:Env)(k:Bool):R D:=Ng k (acw g' c v) (okB false) e
noncomputable def acy(g g':D→D→Option D)(c:Ev)(u v:D)(e:Env):R D:=obR (g u v) (Tr g' c v e)
noncomputable def kCh(g g':D→D→Option D)(b c:Ev)(u:D)(e:Env):R D:=bindR (b e) (acy g g' c u)
theorem acs(g':D→D→Option D)(v t:D)(e:Env):acu g' v t e=dY (g' v t) e:=nr rfl
theorem acv(g':D→D→Option D)(c:Ev)(v:D)(e:Env):acw g' c v e=bindR (c e) (acu g' v):=nr rfl
theorem Xh(g':D→D→Option D)(c:Ev)(v:D)(e:Env)(k:Bool):Tr g' c v e k=Ng k (acw g' c v) (okB false) e:=nr rfl
theorem acx(g g':D→D→Option D)(c:Ev)(u v:D)(e:Env):acy g g' c u v e=obR (g u v) (Tr g' c v e):=nr rfl
theorem ah9(g g':D→D→Option D)(b c:Ev)(u:D)(e:Env):kCh g g' b c u e=bindR (b e) (acy g g' c u):=nr rfl
theorem Qk(g g':D→D→Option D)(a b c:Ev)(env:Env):Nu g g' a b c env=bindR (a env) (kCh g g' b c):=by
 unfold Nu
 congr 1
noncomputable def oR(o:Out)(k:bQ):Out:=match o with
 | .nx e=>k e
 | .ct e=>k e
 | .bk e=>.nx e
 | .rt o d e=>.rt o d e
 | .stuck=>.stuck
theorem kNx(e:Env)(b:bQ):oR (.nx e) b=b e:=nr rfl
theorem kRt(o:Bool)(d:D)(e:Env)(b:bQ):oR (.rt o d e) b = .rt o d e:=nr rfl
theorem kBk(e:Env)(b:bQ):oR (.bk e) b = .nx e:=nr rfl
theorem kCt(e:Env)(b:bQ):oR (.ct e) b=b e:=nr rfl
noncomputable def gvK(o:Option Env)(b:bQ):Out:=match o with
 | none=>.stuck
 | some e=>b e
theorem vS(e:Env)(b:bQ):gvK (some e) b=b e:=nr rfl
noncomputable def kFor(g:GV)(b:bQ)(ds:List D)(e:Env):Out:=oR (b e) (j4 g b ds)
theorem La(g:GV)(b:bQ)(ds:List D)(e:Env):kFor g b ds e=oR (b e) (j4 g b ds):=nr rfl
theorem adK(g:GV)(b:bQ)(env:Env):j4 g b [] env = .nx env:=nr rfl
theorem vH(g:GV)(b:bQ)(d:D)(ds:List D)(env:Env):j4 g b (d::ds) env=gvK (g d env) (kFor g b ds):=by
 rw[j4]
 cases g d env with
 | none=>rfl
 | some e=>
  show(match b e with|.nx e2=>j4 g b ds e2|.ct e2=>j4 g b ds e2|.bk e2=>.nx e2|.rt o d e2=>.rt o d e2|.stuck=>.stuck)=oR (b e) (j4 g b ds)
  cases b e<;>rfl
noncomputable def kWh(t:dG)(b:bQ)(n:Nat):bQ:=fun e=>oR (b e) (j5 t b n)
theorem Y6(t:dG)(b:bQ)(n:Nat)(e:Env):kWh t b n e=oR (b e) (j5 t b n):=nr rfl
theorem QV(t:dG)(b:bQ)(n:Nat)(env:Env):j5 t b (n+1) env=dW (t env) (Zb (kWh t b n) bI):=by
 rw[j5]
 rfl
noncomputable def gvR{α:Type}(o:Option Env)(b:Env→R α):R α:=match o with
 | none=>.stuck
 | some e=>b e
theorem wS{α:Type}(e:Env)(b:Env→R α):gvR (some e) b=b e:=nr rfl
noncomputable def abZ(y:D)(ys:List D)(e:Env):R (List D):=.ok (y::ys) e
noncomputable def ab1(g:GV)(c:dG)(el:Ev)(ds:List D)(y:D)(e:Env):R (List D):=bindR (wH g c el ds e) (abZ y)
noncomputable def ab3(g:GV)(c:dG)(el:Ev)(ds:List D)(e:Env):R (List D):=bindR (el e) (ab1 g c el ds)
noncomputable def kLc(g:GV)(c:dG)(el:Ev)(ds:List D)(e:Env):R (List D):=bindR (c e) (Zb (ab3 g c el ds) (wH g c el ds))
theorem abY(y:D)(ys:List D)(e:Env):abZ y ys e = .ok (y::ys) e:=nr rfl
theorem ab0(g:GV)(c:dG)(el:Ev)(ds:List D)(y:D)(e:Env):ab1 g c el ds y e=bindR (wH g c el ds e) (abZ y):=nr rfl
theorem ab2(g:GV)(c:dG)(el:Ev)(ds:List D)(e:Env):ab3 g c el ds e=bindR (el e) (ab1 g c el ds):=nr rfl
theorem ah3(g:GV)(c:dG)(el:Ev)(ds:List D)(e:Env):kLc g c el ds e=bindR (c e) (Zb (ab3 g c el ds) (wH g c el ds)):=nr rfl
theorem ahn(g:GV)(c:dG)(e:Ev)(env:Env):wH g c e [] env = .ok [] env:=nr rfl
theorem aho(g:GV)(c:dG)(e:Ev)(d:D)(ds:List D)(env:Env):wH g c e (d::ds) env=gvR (g d env) (kLc g c e ds):=by
 rw[wH]
 cases g d env<;>rfl
noncomputable def aaF(o:Out):Option D:=match o with
 | .rt false d _=>some d
 | .nx _=>some .non
 | _=>none
theorem aaD(n:Nat)(ev:bQ)(ds:List D):cP n ev ds=aaF (ev (envOf n ds)):=nr rfl
theorem dRt(d:D)(e:Env):aaF (.rt false d e)=some d:=nr rfl
theorem dNx(e:Env):aaF (.nx e)=some .non:=nr rfl
noncomputable def szR{α:Type}(n:Nat)(x:R α):R α:=if n≤sizeLine then x else .stuck
theorem zR{α:Type}{n:Nat}{x:R α}(h:n≤sizeLine):szR n x=x:=if_pos h
noncomputable def ahU(ds:List D)(e:Env):R D:=szR ds.length (.ok (.tup ds) e)
theorem abP(ds:List D)(e:Env):ahU ds e=szR ds.length (.ok (.tup ds) e):=nr rfl
theorem XR(r:cL)(env:Env):dm r env=bindR (r env) ahU:=nr rfl
noncomputable def ah2(ds:List D)(e:Env):R D:=szR ds.length (.ok (.lst ds) e)
theorem abX(ds:List D)(e:Env):ah2 ds e=szR ds.length (.ok (.lst ds) e):=nr rfl
theorem Yd(r:cL)(env:Env):cG r env=bindR (r env) ah2:=nr rfl
noncomputable def Vl(o:Option (Option (Bool×D)))(f:List D→Out):Out:=match o with
 | some (some (true,.lst xs))=>f xs
 | _=>.stuck
theorem lS(xs:List D)(f:List D→Out):Vl (some (some (true,.lst xs))) f=f xs:=nr rfl
noncomputable def szO(n:Nat)(x:Out):Out:=if n≤sizeLine then x else .stuck
theorem zO{n:Nat}{x:Out}(h:n≤sizeLine):szO n x=x:=if_pos h
noncomputable def Tz(i:Nat)(d:D)(e:Env)(xs:List D):Out:=szO (xs.length+1) (.nx (e.set i (some (true,.lst (xs++[d])))))
noncomputable def TF(i:Nat)(d:D)(e:Env):Out:=Vl e[i]? (Tz i d e)
noncomputable def aid(i:Nat)(a:Ev)(env:Env)(_:List D):Out:=dW (a env) (TF i)
theorem Xl(i:Nat)(d:D)(e:Env)(xs:List D):Tz i d e xs=szO (xs.length+1) (.nx (e.set i (some (true,.lst (xs++[d]))))):=nr rfl
theorem Xm(i:Nat)(d:D)(e:Env):TF i d e=Vl e[i]? (Tz i d e):=nr rfl
theorem acB(i:Nat)(a:Ev)(env:Env)(xs:List D):aid i a env xs=dW (a env) (TF i):=nr rfl
theorem VP(i:Nat)(a:Ev)(env:Env):gq i a env=Vl env[i]? (aid i a env):=nr rfl
noncomputable def ldO(d:D)(f:List D→Out):Out:=match d with
 | .lst xs=>f xs
 | _=>.stuck
theorem eS(xs:List D)(f:List D→Out):ldO (.lst xs) f=f xs:=nr rfl
noncomputable def Ti(i:Nat)(e:Env)(xs zs:List D):Out:=szO (xs.length+zs.length) (.nx (e.set i (some (true,.lst (xs++zs)))))
noncomputable def HW(i:Nat)(d:D)(e:Env)(xs:List D):Out:=ldO d (Ti i e xs)
noncomputable def Tj(i:Nat)(d:D)(e:Env):Out:=Vl e[i]? (HW i d e)
noncomputable def ach(i:Nat)(a:Ev)(env:Env)(_:List D):Out:=dW (a env) (Tj i)
theorem Xc(i:Nat)(e:Env)(xs zs:List D):Ti i e xs zs=szO (xs.length+zs.length) (.nx (e.set i (some (true,.lst (xs++zs))))):=nr rfl
theorem Xd(i:Nat)(d:D)(e:Env)(xs:List D):HW i d e xs=ldO d (Ti i e xs):=nr rfl
theorem Xe(i:Nat)(d:D)(e:Env):Tj i d e=Vl e[i]? (HW i d e):=nr rfl
theorem acg(i:Nat)(a:Ev)(env:Env)(xs:List D):ach i a env xs=dW (a env) (Tj i):=nr rfl
theorem VM(i:Nat)(a:Ev)(env:Env):Dl i a env=Vl env[i]? (ach i a env):=by
 unfold Dl Vl ach
 cases env[i]? with
 | none=>rfl
 | some o=>
  cases o with
  | none=>rfl
  | some p=>
   obtain⟨b,d⟩:=p
   cases b with
   | false=>rfl
   | true=>
    cases d with
    | lst xs=>
     show dW (a env) _=dW (a env) _
     congr 1
     funext d e
     show _=Vl e[i]? (HW i d e)
     unfold Vl HW
     cases e[i]? with
     | none=>rfl
     | some o=>
      cases o with
      | none=>rfl
      | some p=>
       obtain⟨b,u⟩:=p
       cases b with
       | false=>rfl
       | true=>
        cases u with
        | lst ys=>cases d<;>rfl
        | _=>rfl
    | _=>rfl
theorem XJ{a b:List Nat}(h:a.length+b.length≤sizeLine):bT (.str a) (.str b)=some (.str (a++b)):=if_pos h
theorem Ge{a b:List D}(h:a.length+b.length≤sizeLine):bT (.tup a) (.tup b)=some (.tup (a++b)):=if_pos h
theorem XM{a b:List D}(h:a.length+b.length≤sizeLine):bT (.lst a) (.lst b)=some (.lst (a++b)):=if_pos h
theorem XH{a b:List D}(h:a.length+b.length≤sizeLine):amO (.lst a) (.lst b)=some (.lst (a++b)):=if_pos h
theorem air(xs:List D)(lo hi:Option Int):gSl (.lst xs) lo hi=some (.lst (cutD xs lo hi)):=nr rfl
theorem ais(xs:List D)(lo hi:Option Int):gSl (.arr xs) lo hi=some (.lst (cutD xs lo hi)):=nr rfl
theorem acR(x:List Nat)(lo hi:Option Int):acS (.str x) lo hi=some (.str (cutD x lo hi)):=nr rfl
theorem acX(x:List Nat):acY (.str x)=some (.str x.reverse):=nr rfl
theorem Xy(x:List D):ait (.tup x)=some (.tup x.reverse):=nr rfl
theorem aih(xs:List D):Zf (.lst xs)=some xs:=nr rfl
theorem aii(xs:List D):Zf (.arr xs)=some xs:=nr rfl
theorem aie(xs:List D):Zf (.tup xs)=some xs:=nr rfl
theorem aif(x:List Nat):Zf (.str x)=some (Cu x):=nr rfl
theorem Ik(xs:List D)(lo hi:Option Int):T8 (.tup xs) lo hi=some (.tup (cutD xs lo hi)):=by
 show(if HT.fj xs.length 0 lo=0∧HT.fj xs.length xs.length hi=xs.length then some (D.tup xs) else some (D.tup (cutD xs lo hi)))=_
 split
 ·rename_i h
  unfold cutD
  rw[h.1,h.2]
  simp
 ·rfl
theorem Yn{α:Type}(xs:List α)(k:Nat):cutD xs none (some (k:Int))=xs.take k:=by
 unfold cutD
 rw[HT.My]
 have:HT.fj xs.length 0 none=0:=rfl
 rw[this,List.drop_zero,Nat.sub_zero]
 by_cases h:k≤xs.length
 ·rw[Nat.min_eq_left h]
 ·rw[Nat.min_eq_right (by omega),List.take_of_length_le (Nat.le_refl _),List.take_of_length_le (by omega)]
theorem Qp{α:Type}(xs:List α)(k:Nat):cutD xs (some (k:Int)) none=xs.drop k:=by
 unfold cutD
 rw[HT.My]
 have:HT.fj xs.length xs.length none=xs.length:=rfl
 rw[this]
 by_cases h:k≤xs.length
 ·rw[Nat.min_eq_left h]
  exact List.take_of_length_le (by rw[List.length_drop];omega)
 ·rw[Nat.min_eq_right (by omega),List.drop_of_length_le (by omega:xs.length≤k)]
  simp
theorem DR(xs:List D)(k:Int):cB (.tup xs) (.int k)=pN xs k:=nr rfl
theorem aiB(xs:List D)(k:Int):cB (.lst xs) (.int k)=pN xs k:=nr rfl
theorem aiA(x:List Nat)(k:Int):cB (.str x) (.int k)=(pN x k).map fun c=>.str [c]:=nr rfl
theorem at0{α:Type}(x:α)(r:List α):pN (x::r) 0=some x:=mj (j:=0) rfl
theorem at1{α:Type}(x y:α)(r:List α):pN (x::y::r) 1=some y:=mj (j:=1) rfl
theorem at2{α:Type}(x y z:α)(r:List α):pN (x::y::z::r) 2=some z:=mj (j:=2) rfl
theorem at3{α:Type}(x y z u:α)(r:List α):pN (x::y::z::u::r) 3=some u:=mj (j:=3) rfl
theorem atN{α:Type}(xs:List α)(k:Nat):pN xs (k:Int)=xs[k]?:=by
 cases h:xs[k]? with
 | some x=>exact mj h
 | none=>
  have hl:xs.length≤k:=List.getElem?_eq_none_iff.mp h
  unfold pN TX
  rw[if_pos (Int.natCast_nonneg k),if_neg (by omega)]
  rfl
theorem adb(i j:Int):bT (.int i) (.int j)=some (.int (i+j)):=nr rfl
theorem ac5(x:List Nat):dM [.str x]=some (.int x.length):=nr rfl
theorem ac4(x:List D):dM [.tup x]=some (.int x.length):=nr rfl
theorem ac6(x:List D):dM [.lst x]=some (.int x.length):=nr rfl
theorem ac7(x:List D):dM [.arr x]=some (.int x.length):=nr rfl
theorem T7(x:List D):du [.lst x]=some (.tup x):=nr rfl
theorem T6(x:List D):du [.tup x]=some (.tup x):=nr rfl
theorem Xz(x:List D):uH [.tup x]=some (.lst x):=nr rfl
theorem XD(x:List D):uH [.lst x]=some (.lst x):=nr rfl
theorem XC(x:List Nat):uH [.str x]=some (.lst (signs x)):=nr rfl
theorem Ua(a b:List Nat):mJ (.str a) (.str b)=some (.bl (a == b)):=nr rfl
theorem aiu(a b:List Nat):xD (.str a) (.str b)=some (.bl (!(a == b))):=nr rfl
theorem aiG(a b:Int):mJ (.int a) (.int b)=some (.bl (a == b)):=nr rfl
theorem aiv(a b:Int):xD (.int a) (.int b)=some (.bl (!(a == b))):=nr rfl
theorem aiz(a b:Int):gLe (.int a) (.int b)=some (.bl (decide (a≤b))):=nr rfl
theorem aix(a b:Int):gLt (.int a) (.int b)=some (.bl (decide (a<b))):=nr rfl
theorem aiD(a b:Int):gGt (.int a) (.int b)=some (.bl (decide (b<a))):=nr rfl
theorem aiF(a b:Int):gGe (.int a) (.int b)=some (.bl (decide (b≤a))):=nr rfl
theorem aiw(a b:List Nat):gLt (.str a) (.str b)=some (.bl (decide (a<b))):=nr rfl
theorem acQ(a b:Int):tQ (.int a) (.int b)=some (.int (a - b)):=nr rfl
theorem aiC(c:Nat)(z:List Nat):gIn (.str [c]) (.str z)=some (.bl (decide (c∈z))):=nr rfl
theorem ad7{α:Type}(p:α→Bool):∀l:List α,oX (l.map fun a=>D.bl (p a))=some (l.map p)
 | []=>rfl
 | a::l=>by
  rw[List.map_cons]
  unfold oX
  rw[ad7 p l]
  rfl
theorem Ub{α:Type}(p:α→Bool)(l:List α):Bl [.lst (l.map fun a=>D.bl (p a))]=some (.bl (l.all p)):=by
 show(oX _).map _=_
 rw[ad7]
 simp[List.all_map]
theorem aiI{α:Type}(p:α→Bool)(l:List α):Qe [.lst (l.map fun a=>D.bl (p a))]=some (.bl (l.any p)):=by
 show(oX _).map _=_
 rw[ad7]
 simp[List.any_map]
theorem ac8(T:String)(d:D):amN T d=some (.bl (Zh d T)):=nr rfl
theorem aau(n:Nat):fB 0 1 n=(List.range n).map fun(i:Nat)=>D.int (i:Int):=by
 unfold fB
 apply List.map_congr_left
 intro i _
 congr 1
 omega
theorem Fo{n:Nat}(h:n<2^62):xV [.int (n:Int)]=some ((List.range n).map fun(i:Nat)=>D.int (i:Int)):=by
 have hf:jz (n:Int)=true:=by
  unfold jz
  simp only[Bool.and_eq_true,decide_eq_true_eq]
  omega
 show(if jz (n:Int)=true then some (fB 0 1 (n:Int).toNat) else none)=_
 rw[if_pos hf,Int.toNat_natCast,aau]
theorem amK(n:Nat)(gs:Oc)(xs:List D)(env:Env)(h:xs.length=n):cV n gs (.tup xs) env=gs xs env:=if_pos h
noncomputable def gvB(o:Option Env)(f:Env→Option Env):Option Env:=o.bind f
theorem gB(e:Env)(f:Env→Option Env):gvB (some e) f=f e:=nr rfl
theorem T5(g:GV)(gs:Oc)(d:D)(ds:List D)(env:Env):aQ g gs (d::ds) env=gvB (g d env) (gs ds):=nr rfl
theorem Xv(env:Env):dh [] env=some env:=nr rfl
noncomputable def ahY(d:D)(e:Env):Out:=.rt false d e
theorem abU(d:D)(e:Env):ahY d e = .rt false d e:=nr rfl
theorem VJ(a:Ev)(env:Env):bh a env=dW (a env) ahY:=nr rfl
theorem Q6(env:Env):aav env = .rt false .non env:=nr rfl
noncomputable def aic(g:GV)(d:D)(e:Env):Out:=Dz (g d e)
theorem acA(g:GV)(d:D)(e:Env):aic g d e=Dz (g d e):=nr rfl
theorem VN(a:Ev)(g:GV)(env:Env):aL a g env=dW (a env) (aic g):=nr rfl
noncomputable def kOwn(i:Nat)(d:D)(e:Env):Out:=.nx (e.set i (some (true,d)))
theorem Td(i:Nat)(d:D)(e:Env):kOwn i d e = .nx (e.set i (some (true,d))):=nr rfl
theorem Ew(i:Nat)(a:Ev)(env:Env):dB i a env=dW (a env) (kOwn i):=nr rfl
theorem Q7(env:Env):bI env = .nx env:=nr rfl
theorem VL(it:cL)(g:GV)(b:bQ)(env:Env):eO it g b env=dW (it env) (j4 g b):=nr rfl
theorem aiP(d:D)(env:Env):aU d env = .ok d env:=nr rfl
theorem Us(env:Env):Bt env = .ok (.dct []) env:=nr rfl
theorem Yc(env:Env):ao env = .ok [] env:=nr rfl
theorem Up(env:Env):cD env = .ok true env:=nr rfl
theorem Yb(env:Env):jV env = .ok none env:=nr rfl
noncomputable def Lb(d:D)(ds:List D)(e:Env):R (List D):=.ok (d::ds) e
noncomputable def Zc(r:cL)(d:D)(e:Env):R (List D):=bindR (r e) (Lb d)
theorem Tq(d:D)(ds:List D)(e:Env):Lb d ds e = .ok (d::ds) e:=nr rfl
theorem Xg(r:cL)(d:D)(e:Env):Zc r d e=bindR (r e) (Lb d):=nr rfl
theorem Ut(a:Ev)(r:cL)(env:Env):aa a r env=bindR (a env) (Zc r):=nr rfl
noncomputable def Tw(g:D→D→Option D)(x y:D)(e:Env):R D:=dY (g x y) e
noncomputable def aia(g:D→D→Option D)(b:Ev)(x:D)(e:Env):R D:=bindR (b e) (Tw g x)
theorem Xk(g:D→D→Option D)(x y:D)(e:Env):Tw g x y e=dY (g x y) e:=nr rfl
theorem acz(g:D→D→Option D)(b:Ev)(x:D)(e:Env):aia g b x e=bindR (b e) (Tw g x):=nr rfl
theorem Yg(g:D→D→Option D)(a b:Ev)(env:Env):aK g a b env=bindR (a env) (aia g b):=nr rfl
noncomputable def kUn{α β:Type}(g:α→Option β)(x:α)(e:Env):R β:=dY (g x) e
theorem ahT{α β:Type}(g:α→Option β)(x:α)(e:Env):kUn g x e=dY (g x) e:=nr rfl
theorem adM(g:D→Option D)(a:Ev)(env:Env):oA g a env=bindR (a env) (kUn g):=nr rfl
theorem Uu(g:List D→Option D)(a:cL)(env:Env):az g a env=bindR (a env) (kUn g):=nr rfl
noncomputable def Y9(b:Bool)(e:Env):R Bool:=.ok (!b) e
theorem W8(b:Bool)(e:Env):Y9 b e = .ok (!b) e:=nr rfl
theorem Uq(a:dG)(env:Env):Bs a env=bindR (a env) Y9:=nr rfl
noncomputable def abR(s:D→Option Int→Option Int→Option D)(d:D)(l u:Option Int)(e:Env):R D:=dY (s d l u) e
noncomputable def abT(s:D→Option Int→Option Int→Option D)(hi:zf)(d:D)(l:Option Int)(e:Env):R D:=bindR (hi e) (abR s d l)
noncomputable def kSl(s:D→Option Int→Option Int→Option D)(lo hi:zf)(d:D)(e:Env):R D:=bindR (lo e) (abT s hi d)
theorem abQ(s:D→Option Int→Option Int→Option D)(d:D)(l u:Option Int)(e:Env):abR s d l u e=dY (s d l u) e:=nr rfl
theorem abS(s:D→Option Int→Option Int→Option D)(hi:zf)(d:D)(l:Option Int)(e:Env):abT s hi d l e=bindR (hi e) (abR s d l):=nr rfl
theorem ahW(s:D→Option Int→Option Int→Option D)(lo hi:zf)(d:D)(e:Env):kSl s lo hi d e=bindR (lo e) (abT s hi d):=nr rfl
theorem adN(a:Ev)(lo hi:zf)(env:Env):vJ a lo hi env=bindR (a env) (kSl gSl lo hi):=nr rfl
theorem X3(a:Ev)(lo hi:zf)(env:Env):tV a lo hi env=bindR (a env) (kSl acS lo hi):=nr rfl
theorem XX(a:Ev)(lo hi:zf)(env:Env):DW a lo hi env=bindR (a env) (kSl T8 lo hi):=nr rfl
theorem X6(a:Ev)(env:Env):ql a env=bindR (a env) (kUn acY):=nr rfl
theorem adQ(a:Ev)(env:Env):fG a env=bindR (a env) (kUn Zf):=nr rfl
theorem X5(a:cL)(env:Env):d9 a env=bindR (a env) (kUn xV):=nr rfl
theorem T4(i:Nat)(d:D)(env:Env):ak i d env=some (env.set i (some (false,d))):=nr rfl
theorem gt0{α:Type}(a:α)(l:List α):(a::l)[0]? = some a:=nr rfl
theorem gtS{α:Type}(a:α)(l:List α)(i:Nat):(a::l)[i+1]? = l[i]?:=nr rfl
theorem st0{α:Type}(a b:α)(l:List α):(a::l).set 0 b=b::l:=nr rfl
theorem stS{α:Type}(a b:α)(l:List α)(i:Nat):(a::l).set (i+1) b=a::l.set i b:=nr rfl
theorem cdT{α:Type}(a b:α):(bif true then a else b)=a:=nr rfl
theorem cdF{α:Type}(a b:α):(bif false then a else b)=b:=nr rfl
end Ev
namespace Ev
open PySem L2
theorem SM{α:Type}{g:GV}{c:dG}{e:Ev}(enc:α→D)(ext:α→Env)(p:α→Bool)(out:α→D)(env:Env)(k:Nat):∀(l:List α) (vs:Env),vs.length=k→
  (∀a∈l,(ext a).length=k∧(∀vs:Env,vs.length=k→g (enc a) (env++vs)=some (env++ext a))∧c (env++ext a) = .ok (p a) (env++ext a)∧(p a=true→e (env++ext a) = .ok (out a) (env++ext a)))→
  ∃vs',vs'.length=k∧wH g c e (l.map enc) (env++vs) = .ok ((l.filter p).map out) (env++vs')
 | [],vs,hv,_=>⟨vs,hv,rfl⟩
 | a::l,vs,hv,h=>by
  obtain⟨h1,h2,h3,h4⟩:=h a List.mem_cons_self
  obtain⟨vs',h5,h6⟩:=SM enc ext p out env k l (ext a) h1 fun b hb=>h b (List.mem_cons_of_mem _ hb)
  refine⟨vs',h5,?_⟩
  rw[List.map_cons]
  unfold wH
  rw[h2 vs hv]
  show bindR (c (env++ext a)) _=_
  rw[h3,bR]
  cases hp:p a with
  | true=>rw[if_pos rfl,h4 hp,bR,h6,bR,List.filter_cons_of_pos hp,List.map_cons]
  | false=>rw[if_neg Bool.false_ne_true,h6,List.filter_cons_of_neg (by rw[hp];exact Bool.false_ne_true)]
theorem vK{α:Type}{lo n:Nat}{it:cL}{g:GV}{c:dG}{e:Ev}{env aG:Env}(l:List α)(enc:α→D)(ext:α→Env)(p:α→Bool)(out:α→D)(hit:it env = .ok (l.map enc) aG)(hlo:aG.length=lo)
  (h:∀a∈l,(ext a).length=n - lo∧(∀vs:Env,vs.length=n - lo→g (enc a) (aG++vs)=some (aG++ext a))∧c (aG++ext a) = .ok (p a) (aG++ext a)∧(p a=true→e (aG++ext a) = .ok (out a) (aG++ext a)))
  (hz:l.length≤sizeLine):fD lo n it g c e env = .ok (.lst ((l.filter p).map out)) aG:=by
 obtain⟨vs',h5,h6⟩:=SM enc ext p out aG (n - lo) l (List.replicate (n - lo) none) List.length_replicate h
 have:=xn hit hlo h6 (Nat.le_trans (by rw[List.length_map];exact List.length_filter_le _ _) hz)
 rw[this,←hlo,List.take_left]
theorem yF{α:Type}{lo n:Nat}{it:cL}{e:Ev}{env aG:Env}(l:List α)(enc:α→D)(out:α→D)(hit:it env = .ok (l.map enc) aG)(hlo:aG.length=lo)(hn:n=lo+1)
  (h:∀a∈l,e (aG++[some (false,enc a)]) = .ok (out a) (aG++[some (false,enc a)])) (hz:l.length≤sizeLine):fD lo n it (ak lo) cD e env = .ok (.lst (l.map out)) aG:=by
 subst hn hlo
 have:=vK (lo:=aG.length) (n:=aG.length+1) (it:=it) (g:=ak aG.length) (c:=cD) (e:=e) (env:=env) l enc (fun a=>[some (false,enc a)]) (fun _=>true) out hit rfl (fun a ha=>⟨by simp,fun vs hv=>?_,rfl,fun _=>h a ha⟩) hz
 ·rw[this,List.filter_eq_self.mpr (fun _ _=>rfl)]
 ·have hv:vs.length=1:=by omega
  obtain⟨v,rfl⟩:=List.length_eq_one_iff.mp hv
  unfold ak
  rw[List.set_append_right _ _ (Nat.le_refl _),Nat.sub_self]
  rfl
theorem Nq{α:Type}{lo n:Nat}{it:cL}{c:dG}{e:Ev}{env aG:Env}(l:List α)(enc:α→D)(p:α→Bool)(out:α→D)(hit:it env = .ok (l.map enc) aG)(hlo:aG.length=lo)(hn:n=lo+1)
  (hc:∀a∈l,c (aG++[some (false,enc a)]) = .ok (p a) (aG++[some (false,enc a)]))
  (h:∀a∈l,p a=true→e (aG++[some (false,enc a)]) = .ok (out a) (aG++[some (false,enc a)])) (hz:l.length≤sizeLine):fD lo n it (ak lo) c e env = .ok (.lst ((l.filter p).map out)) aG:=by
 subst hn hlo
 refine vK (lo:=aG.length) (n:=aG.length+1) l enc (fun a=>[some (false,enc a)]) p out hit rfl (fun a ha=>⟨by simp,fun vs hv=>?_,hc a ha,fun hp=>h a ha hp⟩) hz
 have hv:vs.length=1:=by omega
 obtain⟨v,rfl⟩:=List.length_eq_one_iff.mp hv
 unfold ak
 rw[List.set_append_right _ _ (Nat.le_refl _),Nat.sub_self]
 rfl
end Ev
namespace Ev
open PySem PySem.Spec PyProof.Rows L2
section
variable{X:Cx}{C:Cfg}
theorem nc0:((0:Nat):Int)=0:=nr rfl
theorem nc1:((1:Nat):Int)=1:=nr rfl
theorem nc2:((2:Nat):Int)=2:=nr rfl
theorem nc3:((3:Nat):Int)=3:=nr rfl
theorem nc4:((4:Nat):Int)=4:=nr rfl
theorem nc5:((5:Nat):Int)=5:=nr rfl
theorem nc6:((6:Nat):Int)=6:=nr rfl
theorem nc7:((7:Nat):Int)=7:=nr rfl
theorem nc8:((8:Nat):Int)=8:=nr rfl
end
end Ev
namespace Ev
open PySem L2
noncomputable def Rg(o:Out):Option (D×D):=match o with
 | .rt false d env=>(match env[0]? with
  | some (some (true,x'))=>some (d,x')
  | _=>none)
 | .nx env=>(match env[0]? with
  | some (some (true,x'))=>some (.non,x')
  | _=>none)
 | _=>none
theorem V5(n:Nat)(ev:bQ)(x:D)(r:List D):gV n ev (x::r)=Rg (ev (xq n x r)):=nr rfl
theorem amt(d x:D)(e:Env):Rg (.rt false d (some (true,x)::e))=some (d,x):=nr rfl
theorem amu(x:D)(e:Env):Rg (.nx (some (true,x)::e))=some (.non,x):=nr rfl
noncomputable def afe(o:Out):Option D:=match o with
 | .rt true d _=>some d
 | _=>none
theorem aaE(n:Nat)(ev:bQ)(ds:List D):runN n ev ds=afe (ev (envOf n ds)):=nr rfl
theorem nRt(d:D)(e:Env):afe (.rt true d e)=some d:=nr rfl
noncomputable def Y8(d:D)(e:Env):Out:=.rt true d e
theorem W7(d:D)(e:Env):Y8 d e = .rt true d e:=nr rfl
theorem J6(a:Ev)(env:Env):rR a env=dW (a env) Y8:=nr rfl
noncomputable def V8(o:Option (Option (Bool×D)))(f:Bool→D→Out):Out:=match o with
 | some (some (o,d))=>f o d
 | _=>.stuck
theorem pS(o:Bool)(d:D)(f:Bool→D→Out):V8 (some (some (o,d))) f=f o d:=nr rfl
noncomputable def dcO(o:Bool)(d:D)(f:List (D×D)→Out):Out:=match o,d with
 | true,.dct kvs=>f kvs
 | _,_=>.stuck
theorem cS(kvs:List (D×D))(f:List (D×D)→Out):dcO true (.dct kvs) f=f kvs:=nr rfl
noncomputable def kyO(d:D)(f:Key→Out):Out:=match rM d with
 | some q=>f q
 | none=>.stuck
theorem ahV(z:List Nat)(f:Key→Out):kyO (.str z) f=f (.inr (strOf z)):=nr rfl
theorem ah4(i:Int)(f:Key→Out):kyO (.int i) f=f (.inl i):=nr rfl
noncomputable def ack(i:Nat)(d kd:D)(e:Env)(kvs:List (D×D))(q:Key):Out:=szO (kvs.length+1) (.nx (e.set i (some (true,.dct (putD kvs kd q d)))))
noncomputable def Xf(i:Nat)(d kd:D)(e:Env)(kvs:List (D×D)):Out:=kyO kd (ack i d kd e kvs)
noncomputable def Tn(i:Nat)(d kd:D)(e:Env)(o:Bool)(x:D):Out:=dcO o x (Xf i d kd e)
noncomputable def acq(i:Nat)(d kd:D)(e:Env):Out:=V8 e[i]? (Tn i d kd e)
noncomputable def Tp(i:Nat)(k:Ev)(d:D)(e:Env)(_:Bool)(_:D):Out:=dW (k e) (acq i d)
noncomputable def kDp(i:Nat)(k:Ev)(d:D)(e:Env):Out:=V8 e[i]? (Tp i k d e)
theorem acj(i:Nat)(d kd:D)(e:Env)(kvs:List (D×D))(q:Key):ack i d kd e kvs q=szO (kvs.length+1) (.nx (e.set i (some (true,.dct (putD kvs kd q d))))):=nr rfl
theorem acn(i:Nat)(d kd:D)(e:Env)(kvs:List (D×D)):Xf i d kd e kvs=kyO kd (ack i d kd e kvs):=nr rfl
theorem aco(i:Nat)(d kd:D)(e:Env)(o:Bool)(x:D):Tn i d kd e o x=dcO o x (Xf i d kd e):=nr rfl
theorem acp(i:Nat)(d kd:D)(e:Env):acq i d kd e=V8 e[i]? (Tn i d kd e):=nr rfl
theorem acr(i:Nat)(k:Ev)(d:D)(e:Env)(o:Bool)(x:D):Tp i k d e o x=dW (k e) (acq i d):=nr rfl
theorem ah8(i:Nat)(k:Ev)(d:D)(e:Env):kDp i k d e=V8 e[i]? (Tp i k d e):=nr rfl
theorem Q8(i:Nat)(k a:Ev)(env:Env):o5 i k a env=dW (a env) (kDp i k):=by
 unfold o5
 congr 1
 funext d e1
 show _=V8 e1[i]? (Tp i k d e1)
 unfold V8 Tp
 cases e1[i]? with
 | none=>rfl
 | some o=>
  cases o with
  | none=>rfl
  | some p=>
   obtain⟨b,x⟩:=p
   show dW (k e1) _=dW (k e1) _
   congr 1
   funext kd e2
   show _=V8 e2[i]? (Tn i d kd e2)
   unfold V8 Tn dcO Xf
   cases e2[i]? with
   | none=>rfl
   | some o=>
    cases o with
    | none=>rfl
    | some p=>
     obtain⟨b,u⟩:=p
     cases b with
     | false=>rfl
     | true=>
      cases u with
      | dct kvs=>
       show _=kyO kd _
       unfold kyO
       cases rM kd<;>rfl
      | _=>rfl
end Ev
namespace Ev
open PySem PySem.Spec PyProof.Rows L2
section
variable{X:Cx}{C:Cfg}{pos:Pos}{x:Expr}{a:Ev}
noncomputable def Qd:D→Option Int→Option Int→Option D
 | .str z,lo,hi=>some (.str (cutD z lo hi))
 | .tup xs,lo,hi=>some (.tup (cutD xs lo hi))
 | .lst xs,lo,hi=>some (.lst (cutD xs lo hi))
 | .arr xs,lo,hi=>some (.lst (cutD xs lo hi))
 | _,_,_=>none
noncomputable def Iv(a:Ev)(lo hi:zf):Ev:=fun env=>bindR (a env) fun d aG=>bindR (lo aG) fun l cQ=>bindR (hi cQ) fun u Bw=>dY (Qd d l u) Bw
theorem QL{lo hi:Option Expr}{el eh:zf}{p2:Pos}(G:Good X C)(ha:PX X C x a)(hl:Qy X C lo el)(hh:Qy X C hi eh):PX X C (.Subscript x (.Slice lo hi none p2) pos) (Iv a el eh):=by
 have h:=wY (pos:=pos) (p2:=p2) (Mm.or (Mm.or Mv Ez) (Mm.or (Mm.or Ez G8) Q9)) ha hl hh
 rw[G.K] at h
 refine h.imp fun σ H Q hq=>?_
 obtain⟨Pr,F,env,env',d,r,e,q⟩:=hq
 obtain⟨x,aG,e1,e2⟩:=aR e
 obtain⟨l,cQ,e3,e4⟩:=aR e2
 obtain⟨u,Bw,e5,e6⟩:=aR e4
 obtain⟨e7,rfl⟩:=eQ e6
 refine⟨Pr,F,env,aG,x,r,e1,fun v H1 F1 r1 s1 p1=>⟨Pr,F1,aG,cQ,l,r1,e3,fun H2 F2 r2 s2=>⟨Pr,F2,cQ,env',u,r2,e5,fun H3 F3 r3 s3=>?_⟩⟩⟩
 have p3:=Rep.mono (s2.trans s3) _ _ p1
 have q3:∀v H' F',Rel C Pr F' env' σ H'→aO F3 F'→Rep C.K F' d v→Q v H':=fun v H' F' r' s' p'=>q v H' F' r' (((s1.trans s2).trans s3).trans s') p'
 cases x with
 | str z=>
  cases e7
  obtain⟨rfl,hz⟩:=p1
  exact .inr (.inr ⟨z,rfl,hz,q3 _ H3 F3 r3 (aO.refl _) ⟨rfl,Nat.le_trans (Jf _ _ _) hz⟩⟩)
 | tup xs=>
  exact .inr (.inl (Rb r3 p3 (by rw[Ik];exact e7) q3))
 | lst xs=>exact .inl (Ra r3 (.inl p3) e7 q3)
 | arr xs=>exact .inl (Ra r3 (.inl p3) e7 q3)
 | _=>cases e7
theorem acU(z:List Nat)(lo hi:Option Int):Qd (.str z) lo hi=some (.str (cutD z lo hi)):=nr rfl
theorem acT(z:List D)(lo hi:Option Int):Qd (.tup z) lo hi=some (.tup (cutD z lo hi)):=nr rfl
theorem acV(z:List D)(lo hi:Option Int):Qd (.lst z) lo hi=some (.lst (cutD z lo hi)):=nr rfl
theorem acW(z:List D)(lo hi:Option Int):Qd (.arr z) lo hi=some (.lst (cutD z lo hi)):=nr rfl
theorem X4(a:Ev)(lo hi:zf)(env:Env):Iv a lo hi env=bindR (a env) (kSl Qd lo hi):=nr rfl
end
end Ev
namespace Ev
open PySem PySem.Spec PyProof.Rows L2 PySem.Builtin
namespace S
structure SX(X:Cx)(C:Cfg)(e:Expr)(ev:Ev):Prop where
 u:Ev.PX X C e ev
structure Qx(X:Cx)(C:Cfg)(e:Expr)(ev:Ev):Prop where
 u:Ev.Cg X C e ev
structure Vr(X:Cx)(C:Cfg)(e:Expr)(ev:Ev):Prop where
 u:Ev.Jy X C e ev
structure Vd(X:Cx)(C:Cfg)(e:Expr)(ev:dG):Prop where
 u:Ev.Oa X C e ev
structure SXW(X:Cx)(C:Cfg)(e:Expr)(ev:dG):Prop where
 u:Ev.PXW X C e ev
structure N8(X:Cx)(C:Cfg)(e:List Expr)(ev:cL):Prop where
 u:Ev.Dg X C e ev
structure Ca(X:Cx)(C:Cfg)(e:List Expr)(ev:cL):Prop where
 u:Ev.wG X C e ev
structure SXL(X:Cx)(C:Cfg)(e:List Expr)(ev:cL):Prop where
 u:Ev.PXL X C e ev
structure Mp(X:Cx)(C:Cfg)(e:Stmt)(ev:bQ):Prop where
 u:Ev.Ce X C e ev
structure fu(X:Cx)(C:Cfg)(e:List Stmt)(ev:bQ):Prop where
 u:Ev.uy X C e ev
structure Ve(X:Cx)(C:Cfg)(e:List Expr)(ev:dG):Prop where
 u:Ev.Jq X C e ev
structure Vq(X:Cx)(C:Cfg)(e:Option Expr)(ev:zf):Prop where
 u:Ev.Qy X C e ev
structure Vf(X:Cx)(C:Cfg)(tg e:Expr)(ev:cL):Prop where
 u:Ev.GC X C tg e ev
structure Vs(X:Cx)(C:Cfg)(lo:Nat)(e:Expr)(ev:GV):Prop where
 u:Ev.Jr X C lo e ev
structure Yw(X:Cx)(C:Cfg)(lo:Nat)(e:List Expr)(ev:Oc):Prop where
 u:Ev.Qz X C lo e ev
section
variable{X:Cx}{C:Cfg}{pos:Pos}
theorem aj{e:Expr}{es:List Expr}{a:Ev}{r:cL}(ha:SX X C e a)(hr:N8 X C es r)(hs:starEach (e::es) X.env=(false,eval e X.env)::starEach es X.env:=by rfl):N8 X C (e::es) (aa a r):=⟨Ev.aj ha.u hr.u hs⟩
end
section
variable{X:Cx}{C:Cfg}{pos p px:Pos}{x y z:Expr}{a b c:Ev}{t u:dG}{i:Nat}{n:Str}
theorem aJ(i:Nat)(hN:X.N[i]? = some n:=by rfl)(hv:uw X.env.scope n:=by first|exact Or.inl rfl|exact Or.inr (Or.inl rfl)|exact Or.inr (Or.inr rfl))(hd:(n == ("__debug__" : Str))=false:=by decide)(hcd:(n == ("__classdict__" : Str))=false:=by decide):SX X C (.Name n pos) (aq i):=⟨Ev.aJ i hN hv hd hcd⟩
end
section
variable{X:Cx}{C:Cfg}{pos:Pos}
theorem aB  : N8 X C [] ao:=⟨Ev.aB ⟩
end
section
variable{X:Cx}{C:Cfg}{pos:Pos}
theorem bz{e:Expr}{ev:Ev}(h:SX X C e ev):Qx X C e ev:=⟨Ev.PX.b h.u⟩
end
section
variable{X:Cx}{C:Cfg}{pos:Pos}
theorem aN{i:Int}{j:Nat}:SX X C (.Constant (.int i) j pos) (aU (.int i)):=⟨Ev.aN ⟩
end
section
variable{X:Cx}{C:Cfg}{pos:Pos}
theorem aA{st:Stmt}{rest:List Stmt}{a b:bQ}(h1:Mp X C st a)(h2:fu X C rest b):fu X C (st::rest) (aC a b):=⟨Ev.aA h1.u h2.u⟩
end
section
variable{X:Cx}{C:Cfg}{pos:Pos}
theorem aH{st:Stmt}{a:bQ}(h1:Mp X C st a):fu X C [st] a:=⟨Ev.aH h1.u⟩
end
section
variable{X:Cx}{C:Cfg}{pos p px:Pos}{x y z:Expr}{a b c:Ev}{t u:dG}{i:Nat}{n:Str}
variable{e:Expr}{es:List Expr}{ea:cL}
theorem aZ{lo:Nat}(i:Nat)(hnd:jA X.N=true:=by rfl)(hlo:Nat.ble lo i=true:=by rfl)(hfx:C.fx i=none:=by rfl)(hi:X.N[i]? = some n:=by rfl)(hx:Loc X.env.scope n:=by first|exact Or.inl rfl|exact Or.inr rfl)(hf:X.fn n=true∨X.env.scope.names.lookup n=some .local:=by first|exact .inl rfl|exact .inr rfl):Vs X C lo (.Name n pos) (ak i):=⟨Ev.aZ i hnd hlo hfx hi hx hf⟩
end
section
variable{X:Cx}{C:Cfg}{pos:Pos}
theorem bY(z:List Nat){x:Str}{j:Nat}(hz:x=strOf z)(hl:z.length≤sizeLine:=by decide):SX X C (.Constant (.str x) j pos) (aU (.str z)):=⟨Ev.bY z hz hl⟩
end
section
variable{X:Cx}{C:Cfg}{pos p px:Pos}{x y z:Expr}{a b c:Ev}{t u:dG}{i:Nat}{n:Str}
theorem cO(i:Nat)(hN:X.N[i]? = some n:=by rfl)(hv:uw X.env.scope n:=by first|exact Or.inl rfl|exact Or.inr (Or.inl rfl)|exact Or.inr (Or.inr rfl))(hd:(n == ("__debug__" : Str))=false:=by decide)(hcd:(n == ("__classdict__" : Str))=false:=by decide):Qx X C (.Name n pos) (aY i):=⟨Ev.cO i hN hv hd hcd⟩
end
section
variable{X:Cx}{C:Cfg}{pos p px:Pos}{x y z:Expr}{a b c:Ev}{t u:dG}{i:Nat}{n:Str}
variable{e:Expr}{es:List Expr}{ea:cL}
theorem bV{pos':Pos}(i:Nat)(he:SX X C e a)(hnd:jA X.N=true:=by rfl)(hfx:C.fx i=none:=by rfl)(hi:X.N[i]? = some n:=by rfl)(hx:Loc X.env.scope n:=by first|exact Or.inl rfl|exact Or.inr rfl)(hs:swapsWith e (some (.Name n pos')) pos.line X.env=pure false:=by rfl)(hf:X.fn n=true∨X.env.scope.names.lookup n=some .local:=by first|exact .inl rfl|exact .inr rfl):Mp X C (.Assign [.Name n pos'] e pos) (aL a (ak i)):=⟨Ev.bV i he.u hnd hfx hi hx hs hf⟩
end
section
variable{X:Cx}{C:Cfg}{pos:Pos}
theorem bj{e:Expr}{a:Ev}(h:SX X C e a):Mp X C (.Return (some e) pos) (bh a):=⟨Ev.bj h.u⟩
end
section
variable{X:Cx}{C:Cfg}
theorem bu{e:Expr}{a:Ev}(h:Qx X C e a)(hs:starEach [e] X.env=(false,eval e X.env)::starEach [] X.env:=by rfl):Ca X C [e] (aa a ao):=⟨Ev.bu h.u hs⟩
end
section
variable{X:Cx}{C:Cfg}{pos p px:Pos}{x y z:Expr}{a b c:Ev}{t u:dG}{i:Nat}{n:Str}
variable{e:Expr}{es:List Expr}{ea:cL}
theorem cC{k k':Nat}{m:Nat}{ps:List Str}{g:List D→Option D}(O:Own X.prog X.w X.K X.mg X.base n k ps (iJ X.K m g))(G:Good X C)(hr:iZ k' X.A)(hk:Nat.ble k k'=true)(ha:N8 X C (e::es) ea)(hn:∀env ds env',ea env = .ok ds env'→ds.length=m)(hg:Gl X n:=by rfl)(hdb:(n == ("__debug__" : Str))=false:=by decide)(he:starEach (e::es) X.env=(false,eval e X.env)::starEach es X.env:=by rfl)(hpl:(backTo pos (starEach es X.env)).any (·.1)=false:=by rfl):SX X C (.Call (.Name n p) (e::es) [] pos) (az g ea):=⟨Ev.cC O G hr hk ha.u hn hg hdb he hpl⟩
end
section
variable{X:Cx}{C:Cfg}{pos:Pos}
theorem dZ{es:List Expr}{r:cL}{k:Nat}(h:N8 X C es r):SX X C (.Tuple es k pos) (dm r):=⟨Ev.dZ h.u⟩
end
section
variable{X:Cx}{C:Cfg}{pos:Pos}
theorem aV{lo:Nat}{e:Expr}{es:List Expr}{g:GV}{gs:Oc}(h1:Vs X C lo e g)(h2:Yw X C lo es gs)(hs:(assignEach (e::es) X.env).map (·.2)=assign e X.env::(assignEach es X.env).map (·.2):=by rfl):Yw X C lo (e::es) (aQ g gs):=⟨Ev.aV h1.u h2.u hs⟩
end
section
variable{X:Cx}{C:Cfg}{pos:Pos}
theorem dw{e:Expr}{ev:Ev}(h:Vr X C e ev):SX X C e ev:=⟨Ev.Jy.px h.u⟩
end
section
variable{X:Cx}{C:Cfg}{pos p px:Pos}{x y z:Expr}{a b c:Ev}{t u:dG}{i:Nat}{n:Str}
theorem cM(i:Nat)(G:Good X C)(hb:Qx X C y b)(hN:X.N[i]? = some n:=by rfl)(hv:uw X.env.scope n:=by first|exact Or.inl rfl|exact Or.inr (Or.inl rfl)|exact Or.inr (Or.inr rfl))(hs:rE y:=by intro _ _;rfl)(hd:(n == ("__debug__" : Str))=false:=by decide)(hcd:(n == ("__classdict__" : Str))=false:=by decide):SX X C (.Subscript (.Name n px) y pos) (au cB i b):=⟨Ev.cM i G hb.u hN hv hs hd hcd⟩
end
section
variable{X:Cx}{C:Cfg}{pos p px:Pos}{x y z:Expr}{a b c:Ev}{t u:dG}{i:Nat}{n:Str}
variable{e:Expr}{es:List Expr}{ea:cL}
theorem j0{k k':Nat}{m:Nat}{ps:List Str}{g:List D→Option (D×D)}{v:Str}{pv:Pos}(i:Nat)(O:Own X.prog X.w X.K X.mg X.base n k ps (jn X.K m g))(G:Good X C)(hr:iZ k' X.A)(hk:Nat.ble k k'=true)(ha:N8 X C es ea)(hn:∀env ds env',ea env = .ok ds env'→ds.length+1=m)(hN:X.N[i]? = some v:=by rfl)(hv:uw X.env.scope v:=by first|exact Or.inl rfl|exact Or.inr (Or.inl rfl)|exact Or.inr (Or.inr rfl))(hg:Gl X n:=by rfl)(hdb:(n == ("__debug__" : Str))=false:=by decide)(he:starEach (.Name v pv::es) X.env=(false,eval (.Name v pv) X.env)::starEach es X.env:=by rfl)(hpl:(backTo pos (starEach es X.env)).any (·.1)=false:=by rfl)(hd:(v == ("__debug__" : Str))=false:=by decide)(hcd:(v == ("__classdict__" : Str))=false:=by decide):SX X C (.Call (.Name n p) (.Name v pv::es) [] pos) (cJ g i ea):=⟨Ev.j0 i O G hr hk ha.u hn hN hv hg hdb he hpl hd hcd⟩
end
section
variable{X:Cx}{C:Cfg}{pos p px:Pos}{x y z:Expr}{a b c:Ev}{t u:dG}{i:Nat}{n:Str}
theorem iD{op:Operator}{g:D→D→Option D}(o:Bi X C op g)(ha:SX X C x a)(hb:Qx X C y b):SX X C (.BinOp x op y pos) (aK g a b):=⟨Ev.iD o ha.u hb.u⟩
end
section
variable{X:Cx}{C:Cfg}{pos:Pos}
theorem mz{e:Expr}{es:List Expr}{a:Ev}{r:cL}(ha:SX X C e a)(hr:SXL X C es r)(hs:starEach (e::es) X.env=(false,eval e X.env)::starEach es X.env:=by rfl):SXL X C (e::es) (aa a r):=⟨Ev.mz ha.u hr.u hs⟩
end
section
variable{X:Cx}{C:Cfg}{pos p px:Pos}{x y z:Expr}{a b c:Ev}{t u:dG}{i:Nat}{n:Str}
theorem dI{op:Operator}{g:D→D→Option D}(i:Nat)(o:Bi X C op g)(hb:Qx X C y b)(hN:X.N[i]? = some n:=by rfl)(hv:uw X.env.scope n:=by first|exact Or.inl rfl|exact Or.inr (Or.inl rfl)|exact Or.inr (Or.inr rfl))(hd:(n == ("__debug__" : Str))=false:=by decide)(hcd:(n == ("__classdict__" : Str))=false:=by decide):SX X C (.BinOp (.Name n px) op y pos) (au g i b):=⟨Ev.dI i o hb.u hN hv hd hcd⟩
end
section
variable{X:Cx}{C:Cfg}{pos:Pos}
theorem dq{c:Expr}{a b:List Stmt}{t:dG}{ea eb:bQ}(hc:Vd X C c t)(ha:fu X C a ea)(hb:fu X C b eb):Mp X C (.If c a b pos) (cT t ea eb):=⟨Ev.dq hc.u ha.u hb.u⟩
end
section
variable{X:Cx}{C:Cfg}{pos:Pos}
theorem dz{es:List Expr}{r:cL}(h:N8 X C es r):Vr X C (.List es pos) (cG r):=⟨Ev.dz h.u⟩
end
section
variable{X:Cx}{C:Cfg}{pos:Pos}
theorem bZ  : fu X C [] bI:=⟨Ev.bZ ⟩
end
section
variable{X:Cx}{C:Cfg}{pos p px:Pos}{x y z:Expr}{a b c:Ev}{t u:dG}{i:Nat}{n:Str}
variable{e:Expr}{es:List Expr}{ea:cL}
theorem gZ{tg:Expr}(G:Good X C)(h:SX X C x a):Vf X C tg x (fG a):=⟨Ev.gZ G h.u⟩
end
section
variable{X:Cx}{C:Cfg}{pos:Pos}
theorem yU{b:Bool}{j:Nat}:SX X C (.Constant (.bool b) j pos) (aU (.bl b)):=⟨Ev.yU ⟩
end
section
variable{X:Cx}{C:Cfg}{pos p px:Pos}{x y z:Expr}{a b c:Ev}{t u:dG}{i:Nat}{n:Str}
variable{e:Expr}{es:List Expr}{ea:cL}
theorem sE{elt tg iter:Expr}{ifs:List Expr}{scope:Scope}(N':List Str){it:cL}{g:GV}{cc:dG}{ee:Ev}(lo:Nat)(ok:jG X scope N')(G:Good X C)(hi:Vf X C tg iter it)(bg:∀X',dH X scope N' X'→Vs X' C lo tg g)(bc:∀X',dH X scope N' X'→Ve X' C ifs cc)(be:∀X',dH X scope N' X'→SX X' C elt ee)(hs:∀x,foldedSetIterable iter X.env x=pure x:=by intro _;rfl):Vr X C (.ListComp elt [⟨tg,iter,ifs,0⟩] scope pos) (fD lo N'.length it g cc ee):=⟨Ev.sE N' lo ok G hi.u (fun X1 h1=>(bg X1 h1).u) (fun X1 h1=>(bc X1 h1).u) (fun X1 h1=>(be X1 h1).u) hs⟩
end
section
variable{X:Cx}{C:Cfg}{pos p px:Pos}{x y z:Expr}{a b c:Ev}{t u:dG}{i:Nat}{n:Str}
variable{e:Expr}{es:List Expr}{ea:cL}
theorem jj(G:Good X C)(hm:X.mg "len" = none)(ha:Ca X C [e] ea)(hg:Gl X "len":=by rfl)(he:starEach [e] X.env=(false,eval e X.env)::starEach [] X.env:=by rfl):SX X C (.Call (.Name "len" p) [e] [] pos) (az dM ea):=⟨Ev.jj G hm ha.u hg he⟩
end
section
variable{X:Cx}{C:Cfg}{pos:Pos}
theorem iG{e:Expr}{a:Ev}(h:SX X C e a)(he:∀whole,isTrue e X.env whole=(do let v ←whole;standAt e.pos;holding [v] (truthy v)):=by intro _;rfl):Vd X C e (cX a):=⟨Ev.iG h.u he⟩
end
section
variable{X:Cx}{C:Cfg}{pos:Pos}
theorem cU{lo:Nat}:Yw X C lo [] dh:=⟨Ev.cU ⟩
end
section
variable{X:Cx}{C:Cfg}{pos p px:Pos}{x y z:Expr}{a b c:Ev}{t u:dG}{i:Nat}{n:Str}
variable{e:Expr}{es:List Expr}{ea:cL}
theorem jT{lo:Nat}{k:Nat}{gs:Oc}{m:Nat}(G:Good X C)(h:Yw X C lo es gs)(hn:(assignEach es X.env).length=m:=by rfl)(hst:(assignEach es X.env).findIdx? (·.1)=none:=by rfl):Vs X C lo (.Tuple es k pos) (cV m gs):=⟨Ev.jT G h.u hn hst⟩
end
section
theorem dX{X:Cx}{C:Cfg}:Ve X C [] cD:=⟨Ev.dX ⟩
end
section
variable{X:Cx}{C:Cfg}{pos p px:Pos}{x y z:Expr}{a b c:Ev}{t u:dG}{i:Nat}{n:Str}
variable{e:Expr}{es:List Expr}{ea:cL}
theorem my{tg iter:Expr}{body:List Stmt}{it:cL}{g:GV}{bs:bQ}(G:Good X C)(hi:Vf X C tg iter it)(hg:Vs X C 0 tg g)(hb:fu X C body bs)(hp:PassesOwn (model X.prog X.w) X.A X.env X.xe:=by exact PassesOwn.never)(hs:∀x,foldedSetIterable iter X.env x=pure x:=by intro _;rfl):Mp X C (.For tg iter body [] pos) (eO it g bs):=⟨Ev.my G hi.u hg.u hb.u hp hs⟩
end
section
variable{X:Cx}{C:Cfg}{pos p px:Pos}{x y z:Expr}{a b c:Ev}{t u:dG}{i:Nat}{n:Str}
theorem nO{op:CmpOp}{g:D→D→Option D}(o:Cm X C op g)(ha:SX X C x a)(hb:Qx X C y b)(hm:behindInMarks op y=false:=by rfl):Vd X C (.Compare x [op] [y] pos) (cX (aK g a b)):=⟨Ev.nO o ha.u hb.u hm⟩
end
section
variable{X:Cx}{C:Cfg}{pos p px:Pos}{x y z:Expr}{a b c:Ev}{t u:dG}{i:Nat}{n:Str}
variable{e:Expr}{es:List Expr}{ea:cL}
theorem p8{pos':Pos}(i:Nat)(he:Vr X C e a)(hnd:jA X.N=true:=by rfl)(hfx:C.fx i=none:=by rfl)(hi:X.N[i]? = some n:=by rfl)(hx:Loc X.env.scope n:=by first|exact Or.inl rfl|exact Or.inr rfl)(hs:swapsWith e (some (.Name n pos')) pos.line X.env=pure false:=by rfl)(hf:X.fn n=true∨X.env.scope.names.lookup n=some .local:=by first|exact .inl rfl|exact .inr rfl):Mp X C (.Assign [.Name n pos'] e pos) (dB i a):=⟨Ev.p8 i he.u hnd hfx hi hx hs hf⟩
end
section
variable{X:Cx}{C:Cfg}{pos p px:Pos}{x y z:Expr}{a b c:Ev}{t u:dG}{i:Nat}{n:Str}
variable{e:Expr}{es:List Expr}{ea:cL}
theorem iC(G:Good X C)(hm:X.mg "tuple" = none)(ha:Ca X C [e] ea)(hg:Gl X "tuple":=by rfl)(he:starEach [e] X.env=(false,eval e X.env)::starEach [] X.env:=by rfl):SX X C (.Call (.Name "tuple" p) [e] [] pos) (az du ea):=⟨Ev.iC G hm ha.u hg he⟩
end
section
variable{X:Cx}{C:Cfg}{pos p px:Pos}{x y z:Expr}{a b c:Ev}{t u:dG}{i:Nat}{n:Str}
theorem uK(G:Good X C)(ha:SX X C x a)(hb:Qx X C y b)(hs:rE y:=by intro _ _;rfl):SX X C (.Subscript x y pos) (aK cB a b):=⟨Ev.uK G ha.u hb.u hs⟩
end
section
variable{X:Cx}{C:Cfg}{pos p px:Pos}{x y z:Expr}{a b c:Ev}{t u:dG}{i:Nat}{n:Str}
theorem eN{op:CmpOp}{g:D→D→Option D}(i:Nat)(o:Cm X C op g)(hb:Qx X C y b)(hN:X.N[i]? = some n:=by rfl)(hv:uw X.env.scope n:=by first|exact Or.inl rfl|exact Or.inr (Or.inl rfl)|exact Or.inr (Or.inr rfl))(hm:behindInMarks op y=false:=by rfl)(hd:(n == ("__debug__" : Str))=false:=by decide)(hcd:(n == ("__classdict__" : Str))=false:=by decide):Vd X C (.Compare (.Name n px) [op] [y] pos) (cX (au g i b)):=⟨Ev.eN i o hb.u hN hv hm hd hcd⟩
end
section
variable{X:Cx}{C:Cfg}{pos:Pos}
theorem lU{tg e:Expr}{a:Ev}{g:GV}(he:SX X C e a)(hg:Vs X C 0 tg g)(hs:swapsWithSole [tg] e pos.line X.env=pure false:=by rfl)(hw:swappedStores [tg] e X.env=pure none:=by rfl)(h1:(assignEach [tg] X.env).map (·.2)=[assign tg X.env]:=by rfl):Mp X C (.Assign [tg] e pos) (aL a g):=⟨Ev.lU he.u hg.u hs hw h1⟩
end
section
variable{X:Cx}{C:Cfg}{pos:Pos}
theorem iM{e:Expr}{a:Ev}(h:SX X C e a):Vq X C (some e) (uJ a):=⟨Ev.iM h.u⟩
end
section
variable{X:Cx}{C:Cfg}{pos:Pos}
theorem Ft{x:Expr}{a:dG}(h:Vd X C x a):Vd X C (.UnaryOp .Not x pos) (Bs a):=⟨Ev.Ft h.u⟩
end
section
variable{X:Cx}{C:Cfg}{pos:Pos}
theorem ux{e:Expr}{a:dG}(h:SXW X C e a):Vd X C e a:=⟨Ev.PXW.pt h.u⟩
end
section
variable{X:Cx}{C:Cfg}{pos p px:Pos}{x y z:Expr}{a b c:Ev}{t u:dG}{i:Nat}{n:Str}
variable{e:Expr}{es:List Expr}{ea:cL}
theorem lG{tg:Expr}(hm:X.mg "range" = none)(ha:N8 X C [e] ea)(hl:∀env ds env',ea env = .ok ds env'→ds.length=1)(hg:Gl X "range":=by rfl)(hs:starEach [e] X.env=[(false,eval e X.env)]:=by rfl):Vf X C tg (.Call (.Name "range" p) [e] [] pos) (d9 ea):=⟨Ev.lG hm ha.u hl hg hs⟩
end
section
variable{X:Cx}{C:Cfg}{pos p px:Pos}{x y z:Expr}{a b c:Ev}{t u:dG}{i:Nat}{n:Str}
theorem xF{op:CmpOp}{g:D→D→Option D}(i:Nat)(o:Cm X C op g)(hb:Qx X C y b)(hN:X.N[i]? = some n:=by rfl)(hv:uw X.env.scope n:=by first|exact Or.inl rfl|exact Or.inr (Or.inl rfl)|exact Or.inr (Or.inr rfl))(hm:behindInMarks op y=false:=by rfl)(hd:(n == ("__debug__" : Str))=false:=by decide)(hcd:(n == ("__classdict__" : Str))=false:=by decide):SX X C (.Compare (.Name n px) [op] [y] pos) (au g i b):=⟨Ev.xF i o hb.u hN hv hm hd hcd⟩
end
section
variable{X:Cx}{C:Cfg}{pos:Pos}
theorem o6{j:Nat}:SX X C (.Constant .none j pos) (aU .non):=⟨Ev.o6 ⟩
end
section
variable{X:Cx}{C:Cfg}
theorem xX{e:Expr}{es:List Expr}{a:Ev}{r:cL}(ha:SX X C e a)(hr:Ca X C es r)(hs:starEach (e::es) X.env=(false,eval e X.env)::starEach es X.env:=by rfl):Ca X C (e::es) (aa a r):=⟨Ev.xX ha.u hr.u hs⟩
end
section
variable{X:Cx}{C:Cfg}{pos:Pos}
theorem Ak{op:BoolOp}{x:Expr}{a:Ev}(h:SX X C x a):SX X C (.BoolOp op [x] pos) a:=⟨Ev.Ak h.u⟩
end
section
variable{X:Cx}{C:Cfg}{pos p px:Pos}{x y z:Expr}{a b c:Ev}{t u:dG}{i:Nat}{n:Str}
variable{e:Expr}{es:List Expr}{ea:cL}
theorem wW{apos cpos:Pos}(i:Nat)(G:Good X C)(he:SX X C e a)(hN:X.N[i]? = some n:=by rfl)(hv:uw X.env.scope n:=by first|exact Or.inl rfl|exact Or.inr (Or.inl rfl)|exact Or.inr (Or.inr rfl))(hs:swapsWith (.Call (.Attribute (.Name n px) "append" apos) [e] [] cpos) none pos.line X.env=pure false:=by rfl) (hfew:((backTo cpos (starEach [e] X.env)).all (fun x=>!x.1)&&(backToKw cpos (keywordEach [] X.env)).all (fun x=>x.1.isSome)
   && decide (([e]:List Expr).length+([]:List Keyword).length+(if ([]:List Keyword).isEmpty then 0 else 1)<30))=true:=by rfl) (hbase:attributeBase (.Name n px) "append" X.env (eval (.Name n px) X.env)=eval (.Name n px) X.env:=by rfl) (hline:(apos.endLine == cpos.line)=true:=by rfl) (hst:starEach [e] X.env=(false,eval e X.env)::starEach [] X.env:=by rfl) (hplain:(backTo cpos (starEach [] X.env)).any (·.1)=false:=by rfl) (hd:(n == ("__debug__" : Str))=false:=by decide) (hcd:(n == ("__classdict__" : Str))=false:=by decide):Mp X C (.Expr (.Call (.Attribute (.Name n px) "append" apos) [e] [] cpos) pos) (gq i a):=⟨Ev.wW i G he.u hN hv hs hfew hbase hline hst hplain hd hcd⟩
end
section
variable{X:Cx}{C:Cfg}{pos:Pos}
theorem j6  : Vq X C none jV:=⟨Ev.j6 ⟩
end
section
variable{X:Cx}{C:Cfg}{pos p px:Pos}{x y z:Expr}{a b c:Ev}{t u:dG}{i:Nat}{n:Str}
variable{e:Expr}{es:List Expr}{ea:cL}
theorem GK(G:Good X C)(hm:X.mg "all" = none)(ha:Ca X C [e] ea)(hg:Gl X "all":=by rfl)(he:starEach [e] X.env=(false,eval e X.env)::starEach [] X.env:=by rfl):SX X C (.Call (.Name "all" p) [e] [] pos) (az Bl ea):=⟨Ev.GK G hm ha.u hg he⟩
end
section
theorem jt{X:Cx}{C:Cfg}{c:Expr}{t:dG}(h:Vd X C c t):Ve X C [c] t:=⟨Ev.jt h.u⟩
end
section
variable{X:Cx}{C:Cfg}{pos p px:Pos}{x y z:Expr}{a b c:Ev}{t u:dG}{i:Nat}{n:Str}
variable{e:Expr}{es:List Expr}{ea:cL}
theorem Dy{k k':Nat}{m:Nat}{ps:List Str}{g:List D→Option D}(O:Own X.prog X.w X.K X.mg X.base n k ps (Vk X.K m g))(G:Good X C)(hr:iZ k' X.A)(hk:Nat.ble k k'=true)(ha:N8 X C (e::es) ea)(hn:∀env ds env',ea env = .ok ds env'→ds.length=m)(hg:Gl X n:=by rfl)(hdb:(n == ("__debug__" : Str))=false:=by decide)(he:starEach (e::es) X.env=(false,eval e X.env)::starEach es X.env:=by rfl)(hpl:(backTo pos (starEach es X.env)).any (·.1)=false:=by rfl):Vr X C (.Call (.Name n p) (e::es) [] pos) (az g ea):=⟨Ev.Dy O G hr hk ha.u hn hg hdb he hpl⟩
end
section
variable{X:Cx}{C:Cfg}{pos:Pos}
theorem jg{x y:Expr}{rest:List Expr}{a b:dG}(ha:Vd X C x a)(hb:SXW X C (.BoolOp .And (y::rest) pos) b):SXW X C (.BoolOp .And (x::y::rest) pos) (cz a b):=⟨Ev.jg ha.u hb.u⟩
end
section
variable{X:Cx}{C:Cfg}{pos:Pos}
theorem uA{x:Str}{v:V}{u:Value}(d:D)(hg:Gl X x)(hm:X.mg x=some u)(rv:RelV v u)(hr:∀F,Rep C.K F d v)(hd:(x == ("__debug__" : Str))=false:=by decide):SX X C (.Name x pos) (aU d):=⟨Ev.uA d hg hm rv hr hd⟩
end
section
variable{X:Cx}{C:Cfg}{pos p px:Pos}{x y z:Expr}{a b c:Ev}{t u:dG}{i:Nat}{n:Str}
variable{e:Expr}{es:List Expr}{ea:cL}
theorem xE{o:Expr}{apos cpos:Pos}(G:Good X C)(ho:SX X C o a)(he:Qx X C e b)(hbase:attributeBase o "join" X.env (eval o X.env)=eval o X.env:=by rfl)(hs:starEach [e] X.env=(false,eval e X.env)::starEach [] X.env:=by rfl) (hfew:((backTo cpos (starEach [e] X.env)).all (fun x=>!x.1)&&(backToKw cpos (keywordEach [] X.env)).all (fun x=>x.1.isSome)
   && decide ([e].length+([]:List Keyword).length+(if ([]:List Keyword).isEmpty then 0 else 1)<30))=true:=by rfl) (hline:(apos.endLine == cpos.line)=true:=by rfl) (hplain:(backTo cpos (starEach [] X.env)).any (·.1)=false:=by rfl):SX X C (.Call (.Attribute o "join" apos) [e] [] cpos) (aK oh a b):=⟨Ev.xE G ho.u he.u hbase hs hfew hline hplain⟩
end
section
variable{X:Cx}{C:Cfg}{pos p px:Pos}{x y z:Expr}{a b c:Ev}{t u:dG}{i:Nat}{n:Str}
theorem QM{lo hi:Option Expr}{el eh:zf}{p2:Pos}(G:Good X C)(ha:SX X C x a)(hl:Vq X C lo el)(hh:Vq X C hi eh):SX X C (.Subscript x (.Slice lo hi none p2) pos) (vJ a el eh):=⟨Ev.QM G ha.u hl.u hh.u⟩
end
section
variable{X:Cx}{C:Cfg}{pos:Pos}
theorem jr{x:Expr}{a:dG}(h:Vd X C x a):SXW X C (.BoolOp .And [x] pos) a:=⟨Ev.jr h.u⟩
end
section
variable{X:Cx}{C:Cfg}{pos:Pos}{e x y:Expr}{a b:Ev}
theorem wL(ha:SX X C x a):SX X C (.UnaryOp .USub x pos) (oA qi a):=⟨Ev.wL ha.u⟩
end
section
variable{X:Cx}{C:Cfg}{pos p px:Pos}{x y z:Expr}{a b c:Ev}{t u:dG}{i:Nat}{n:Str}
theorem zW{op:CmpOp}{g:D→D→Option D}(o:Cm X C op g)(ha:SX X C x a)(hb:Qx X C y b)(hm:behindInMarks op y=false:=by rfl):SX X C (.Compare x [op] [y] pos) (aK g a b):=⟨Ev.zW o ha.u hb.u hm⟩
end
section
variable{X:Cx}{C:Cfg}{pos:Pos}
theorem Fv  : SXL X C [] ao:=⟨Ev.Fv ⟩
end
section
variable{X:Cx}{C:Cfg}{pos:Pos}
theorem Ky{es:List Expr}{a:cL}(h:SXL X C es a):Vr X C (.List es pos) (cG a):=⟨Ev.Ky h.u⟩
end
section
variable{X:Cx}{C:Cfg}{pos p px:Pos}{x y z:Expr}{a b c:Ev}{t u:dG}{i:Nat}{n:Str}
theorem wM(i:Nat)(G:Good X C)(hb:Qx X C y b)(hN:X.N[i]? = some n:=by rfl)(hv:uw X.env.scope n:=by first|exact Or.inl rfl|exact Or.inr (Or.inl rfl)|exact Or.inr (Or.inr rfl))(hs:Vh y:=by intro _ _;rfl)(hd:(n == ("__debug__" : Str))=false:=by decide)(hcd:(n == ("__classdict__" : Str))=false:=by decide):SX X C (.Subscript (.Name n px) y pos) (au iY i b):=⟨Ev.wM i G hb.u hN hv hs hd hcd⟩
end
section
variable{X:Cx}{C:Cfg}{pos:Pos}{e x y:Expr}{a b:Ev}
theorem Dh{p2 p3 p4:Pos}{k:Nat}(ha:SX X C x a):SX X C (.Subscript x (.Slice none none (some (.UnaryOp .USub (.Constant (.int 1) k p4) p3)) p2) pos) (ql a):=⟨Ev.Dh ha.u⟩
end
section
variable{X:Cx}{C:Cfg}{pos:Pos}
theorem Aj  : Vr X C (.Dict [] [] pos) Bt:=⟨Ev.Aj ⟩
end
section
variable{X:Cx}{C:Cfg}{pos p px:Pos}{x y z:Expr}{a b c:Ev}{t u:dG}{i:Nat}{n:Str}
variable{e:Expr}{es:List Expr}{ea:cL}
theorem wK(G:Good X C)(hm:X.mg "sorted" = none)(ha:Ca X C [e] ea)(hg:Gl X "sorted":=by rfl)(he:starEach [e] X.env=(false,eval e X.env)::starEach [] X.env:=by rfl):SX X C (.Call (.Name "sorted" p) [e] [] pos) (az iH ea):=⟨Ev.wK G hm ha.u hg he⟩
end
section
variable{X:Cx}{C:Cfg}{pos:Pos}
theorem Hr{x y:Expr}{rest:List Expr}{a b:Ev}(ha:SX X C x a)(hb:SX X C (.BoolOp .Or (y::rest) pos) b):SX X C (.BoolOp .Or (x::y::rest) pos) (Iw a b):=⟨Ev.Hr ha.u hb.u⟩
end
section
variable{X:Cx}{C:Cfg}{pos:Pos}{x y:Expr}{a b:Ev}
theorem GJ{lo hi:Option Expr}{el eh:zf}{p2:Pos}(ha:SX X C x a)(hl:Vq X C lo el)(hh:Vq X C hi eh):SX X C (.Subscript x (.Slice lo hi none p2) pos) (tV a el eh):=⟨Ev.GJ ha.u hl.u hh.u⟩
end
section
variable{X:Cx}{C:Cfg}{pos p px:Pos}{x y z:Expr}{a b c:Ev}{t u:dG}{i:Nat}{n:Str}
variable{e:Expr}{es:List Expr}{ea:cL}
theorem JF(G:Good X C)(hm:X.mg "list" = none)(ha:Ca X C [e] ea)(hg:Gl X "list":=by rfl)(he:starEach [e] X.env=(false,eval e X.env)::starEach [] X.env:=by rfl):SX X C (.Call (.Name "list" p) [e] [] pos) (az uH ea):=⟨Ev.JF G hm ha.u hg he⟩
end
section
variable{X:Cx}{C:Cfg}{pos p px:Pos}{x y z:Expr}{a b c:Ev}{t u:dG}{i:Nat}{n:Str}
variable{e:Expr}{es:List Expr}{ea:cL}
theorem Kd{elt tg iter:Expr}{ifs:List Expr}{scope:Scope}(N':List Str){spos py:Pos}{it:cL}{g:GV}{cc:dG}{ee:Ev}(lo:Nat)(i:Nat)(ok:jG X scope N')(G:Good X C)(hi:Vf X C tg iter it)(bg:∀X',dH X scope N' X'→Vs X' C lo tg g)(bc:∀X',dH X scope N' X'→Ve X' C ifs cc)(be:∀X',dH X scope N' X'→SX X' C elt ee)(hnd:jA X.N=true:=by rfl)(hfx:C.fx i=none:=by rfl)(hy:X.N[i]? = some n:=by rfl)(hx:Loc X.env.scope n:=by first|exact Or.inl rfl|exact Or.inr rfl)(hsw:swapsWith (.ListComp elt [⟨tg,iter,ifs,0⟩] scope pos) (some (.Name n py)) spos.line X.env=pure true:=by rfl)(hf:X.fn n=true∨X.env.scope.names.lookup n=some .local:=by first|exact .inl rfl|exact .inr rfl)(hs:∀x,foldedSetIterable iter X.env x=pure x:=by intro _;rfl):Mp X C (.Assign [.Name n py] (.ListComp elt [⟨tg,iter,ifs,0⟩] scope pos) spos) (dB i (fD lo N'.length it g cc ee)):=⟨Ev.Kd N' lo i ok G hi.u (fun X1 h1=>(bg X1 h1).u) (fun X1 h1=>(bc X1 h1).u) (fun X1 h1=>(be X1 h1).u) hnd hfx hy hx hsw hf hs⟩
end
section
variable{X:Cx}{C:Cfg}{pos p px:Pos}{x y z:Expr}{a b c:Ev}{t u:dG}{i:Nat}{n:Str}
variable{e:Expr}{es:List Expr}{ea:cL}
theorem FZ{tg e2:Expr}(hm:X.mg "range" = none)(ha:N8 X C [e,e2] ea)(hl:∀env ds env',ea env = .ok ds env'→ds.length=2)(hg:Gl X "range":=by rfl)(hs:starEach [e,e2] X.env=[(false,eval e X.env),(false,eval e2 X.env)]:=by rfl)(hs2:starEach [e2] X.env=[(false,eval e2 X.env)]:=by rfl):Vf X C tg (.Call (.Name "range" p) [e,e2] [] pos) (d9 ea):=⟨Ev.FZ hm ha.u hl hg hs hs2⟩
end
section
variable{X:Cx}{C:Cfg}{pos p px:Pos}{x y z:Expr}{a b c:Ev}{t u:dG}{i:Nat}{n:Str}
variable{e:Expr}{es:List Expr}{ea:cL}
theorem zV{e2:Expr}(G:Good X C)(hm:X.mg "divmod" = none)(ha:Ca X C [e,e2] ea)(hg:Gl X "divmod":=by rfl)(he:starEach [e,e2] X.env=(false,eval e X.env)::starEach [e2] X.env:=by rfl)(hpl:(backTo pos (starEach [e2] X.env)).any (·.1)=false:=by rfl):SX X C (.Call (.Name "divmod" p) [e,e2] [] pos) (az nu ea):=⟨Ev.zV G hm ha.u hg he hpl⟩
end
section
variable{X:Cx}{C:Cfg}{pos:Pos}
theorem uO{e:Expr}{a:Ev}(h:Vr X C e a):Mp X C (.Return (some e) pos) (rR a):=⟨Ev.uO h.u⟩
end
section
variable{X:Cx}{C:Cfg}{pos p px:Pos}{x y z:Expr}{a b c:Ev}{t u:dG}{i:Nat}{n:Str}
variable{e:Expr}{es:List Expr}{ea:cL}
theorem acP{lo:Nat}{ix:Expr}{ev:Ev}(i:Nat)(h:SX X C ix ev)(hN:X.N[i]? = some n:=by rfl)(hv:uw X.env.scope n:=by first|exact Or.inl rfl|exact Or.inr (Or.inl rfl)|exact Or.inr (Or.inr rfl)) (ha:∀v,assign (.Subscript (.Name n px) ix pos) X.env v=(do
   let ov ←holding [v] (eval (.Name n px) X.env)
   let iv ←holding [v,ov] (eval ix X.env)
   standAt pos
   holding [v,ov,iv] (setItem ov iv v)
   release [v,ov,iv] []):=by intro _;rfl) (hd:(n == ("__debug__" : Str))=false:=by decide) (hcd:(n == ("__classdict__" : Str))=false:=by decide):Vs X C lo (.Subscript (.Name n px) ix pos) (Li i ev):=⟨Ev.acP i h.u hN hv ha hd hcd⟩
end
section
variable{X:Cx}{C:Cfg}{pos:Pos}
theorem El{p:Pos}{e:Expr}{ea:cL}(G:Good X C)(hm:X.mg "dict" = none)(ha:Ca X C [e] ea)(hg:Gl X "dict":=by rfl)(he:starEach [e] X.env=(false,eval e X.env)::starEach [] X.env:=by rfl):SX X C (.Call (.Name "dict" p) [e] [] pos) (az rH ea):=⟨Ev.El G hm ha.u hg he⟩
end
section
variable{X:Cx}{C:Cfg}{pos p px:Pos}{x y z:Expr}{a b c:Ev}{t u:dG}{i:Nat}{n:Str}
variable{e:Expr}{es:List Expr}{ea:cL}
theorem Ke{k:Expr}{ek:Ev}{pos':Pos}(i:Nat)(G:Good X C)(hk:SX X C k ek)(he:SX X C e a)(hN:X.N[i]? = some n:=by rfl)(hv:uw X.env.scope n:=by first|exact Or.inl rfl|exact Or.inr (Or.inl rfl)|exact Or.inr (Or.inr rfl))(hs:swapsWith e (some (.Subscript (.Name n px) k pos')) pos.line X.env=pure false:=by rfl)(hd:(n == ("__debug__" : Str))=false:=by decide)(hcd:(n == ("__classdict__" : Str))=false:=by decide):Mp X C (.Assign [.Subscript (.Name n px) k pos'] e pos) (o5 i ek a):=⟨Ev.Ke i G hk.u he.u hN hv hs hd hcd⟩
end
section
variable{X:Cx}{C:Cfg}{pos:Pos}{x:Expr}{a:Ev}
theorem QK{lo hi:Option Expr}{el eh:zf}{p2:Pos}(G:Good X C)(ha:SX X C x a)(hl:Vq X C lo el)(hh:Vq X C hi eh):SX X C (.Subscript x (.Slice lo hi none p2) pos) (DW a el eh):=⟨Ev.QK G ha.u hl.u hh.u⟩
end
section
variable{X:Cx}{C:Cfg}{pos p:Pos}{n:Str}{e1:Expr}{es:List Expr}{ea:cL}{c:Ev}
theorem QR{k k':Nat}{m:Nat}{ps:List Str}{g:List D→Option (D×D)}(O:Own X.prog X.w X.K X.mg X.base n k ps (jn X.K m g))(G:Good X C)(hr:iZ k' X.A)(hk:Nat.ble k k'=true)(hc:Vr X C e1 c)(ha:N8 X C es ea)(hn:∀env ds env',ea env = .ok ds env'→ds.length+1=m)(hg:Gl X n:=by rfl)(hdb:(n == ("__debug__" : Str))=false:=by decide)(he:starEach (e1::es) X.env=(false,eval e1 X.env)::starEach es X.env:=by rfl)(hpl:(backTo pos (starEach es X.env)).any (·.1)=false:=by rfl):SX X C (.Call (.Name n p) (e1::es) [] pos) (IV g c ea):=⟨Ev.QR O G hr hk hc.u ha.u hn hg hdb he hpl⟩
end
section
variable{X:Cx}{C:Cfg}{pos:Pos}{e x y:Expr}{a b:Ev}
theorem Lg{elts:List Expr}{k:Nat}{tp p:Pos}{ea:cL}(hm:X.mg "enumerate" = none)(ha:N8 X C [e] ea)(hg:Gl X "enumerate":=by rfl)(hs:starEach [e] X.env=[(false,eval e X.env)]:=by rfl):Vf X C (.Tuple elts k tp) (.Call (.Name "enumerate" p) [e] [] pos) (Gh ea):=⟨Ev.Lg hm ha.u hg hs⟩
end
section
variable{X:Cx}{C:Cfg}{pos:Pos}{x:Expr}{a:Ev}
theorem QL{lo hi:Option Expr}{el eh:zf}{p2:Pos}(G:Good X C)(ha:SX X C x a)(hl:Vq X C lo el)(hh:Vq X C hi eh):SX X C (.Subscript x (.Slice lo hi none p2) pos) (Iv a el eh):=⟨Ev.QL G ha.u hl.u hh.u⟩
end
section
variable{X:Cx}{C:Cfg}{pos p px:Pos}{x y z:Expr}{a b c:Ev}{t u:dG}{i:Nat}{n:Str}
variable{e:Expr}{es:List Expr}{ea:cL}
theorem QS(G:Good X C)(hm:X.mg "any" = none)(ha:Ca X C [e] ea)(hg:Gl X "any":=by rfl)(he:starEach [e] X.env=(false,eval e X.env)::starEach [] X.env:=by rfl):SX X C (.Call (.Name "any" p) [e] [] pos) (az Qe ea):=⟨Ev.QS G hm ha.u hg he⟩
end
section
variable{X:Cx}{C:Cfg}{pos:Pos}{n:Str}
theorem Rf{e:Expr}{a:Ev}{px apos cpos:Pos}(i:Nat)(G:Good X C)(he:SX X C e a)(hN:X.N[i]? = some n:=by rfl)(hv:uw X.env.scope n:=by first|exact Or.inl rfl|exact Or.inr (Or.inl rfl)|exact Or.inr (Or.inr rfl))(hs:swapsWith (.Call (.Attribute (.Name n px) "extend" apos) [e] [] cpos) none pos.line X.env=pure false:=by rfl) (hfew:((backTo cpos (starEach [e] X.env)).all (fun x=>!x.1)&&(backToKw cpos (keywordEach [] X.env)).all (fun x=>x.1.isSome)
   && decide (([e]:List Expr).length+([]:List Keyword).length+(if ([]:List Keyword).isEmpty then 0 else 1)<30))=true:=by rfl) (hbase:attributeBase (.Name n px) "extend" X.env (eval (.Name n px) X.env)=eval (.Name n px) X.env:=by rfl) (hline:(apos.endLine == cpos.line)=true:=by rfl) (hst:starEach [e] X.env=(false,eval e X.env)::starEach [] X.env:=by rfl) (hplain:(backTo cpos (starEach [] X.env)).any (·.1)=false:=by rfl) (hd:(n == ("__debug__" : Str))=false:=by decide) (hcd:(n == ("__classdict__" : Str))=false:=by decide):Mp X C (.Expr (.Call (.Attribute (.Name n px) "extend" apos) [e] [] cpos) pos) (Dl i a):=⟨Ev.Rf i G he.u hN hv hs hfew hbase hline hst hplain hd hcd⟩
end
section
variable{X:Cx}{C:Cfg}{pos p px:Pos}{x y z:Expr}{a b c:Ev}{t u:dG}{i:Nat}{n:Str}
variable{e:Expr}{es:List Expr}{ea:cL}
theorem Fi{cd:Expr}{body:List Stmt}{bs:bQ}(m:Nat)(G:Good X C)(hc:Vd X C cd t)(hb:fu X C body bs)(hp:PassesOwn (model X.prog X.w) X.A X.env X.xe:=by exact PassesOwn.never):Mp X C (.While cd body [] pos) (j5 t bs m):=⟨Ev.Fi m G hc.u hb.u hp⟩
end
section
variable{X:Cx}{C:Cfg}{pos:Pos}{n:Str}
theorem Mx{elt tg iter qt cN:Expr}{ifs:List Expr}{scope:Scope}(N':List Str){spos py:Pos}{it wI:cL}{g g2:GV}{c:dG}{e:Ev}(lo:Nat)(i:Nat)(ok:jG X scope N')(G:Good X C)(hi:Vf X C tg iter it)(bg:∀X',dH X scope N' X'→Vs X' C lo tg g)(bi:∀X',dH X scope N' X'→Vf X' C qt cN wI)(bg2:∀X',dH X scope N' X'→Vs X' C lo qt g2)(bc:∀X',dH X scope N' X'→Ve X' C ifs c)(be:∀X',dH X scope N' X'→SX X' C elt e)(hnd:jA X.N=true:=by rfl)(hfx:C.fx i=none:=by rfl)(hy:X.N[i]? = some n:=by rfl)(hx:Loc X.env.scope n:=by first|exact Or.inl rfl|exact Or.inr rfl)(hsw:swapsWith (.ListComp elt [⟨tg,iter,[],0⟩,⟨qt,cN,ifs,0⟩] scope pos) (some (.Name n py)) spos.line X.env=pure true:=by rfl)(hf:X.fn n=true∨X.env.scope.names.lookup n=some .local:=by first|exact .inl rfl|exact .inr rfl)(hs2:∀(X':Cx) (x:Value),dH X scope N' X'→foldedSetIterable cN X'.env x=pure x:=by intro _ _ _;rfl)(hs:∀x,foldedSetIterable iter X.env x=pure x:=by intro _;rfl):Mp X C (.Assign [.Name n py] (.ListComp elt [⟨tg,iter,[],0⟩,⟨qt,cN,ifs,0⟩] scope pos) spos) (dB i (zb lo N'.length it g wI g2 c e)):=⟨Ev.Mx N' lo i ok G hi.u (fun X1 h1=>(bg X1 h1).u) (fun X1 h1=>(bi X1 h1).u) (fun X1 h1=>(bg2 X1 h1).u) (fun X1 h1=>(bc X1 h1).u) (fun X1 h1=>(be X1 h1).u) hnd hfx hy hx hsw hf hs2 hs⟩
end
section
variable{X:Cx}{C:Cfg}{pos:Pos}
theorem Km{x:Expr}{a:Ev}(ha:SX X C x a):SX X C (.UnaryOp .Not x pos) (IK a):=⟨Ev.Km ha.u⟩
end
end S
end Ev
namespace HT
open PySem PySem.Spec PyProof PyProof.Rows PySem.Builtin
open AutoSeq1 (wpAny_loadPart')
theorem sG(l:Addr)(items:Array Value)(n:Nat)(dct:Option Addr)(sl:Array (Option Value)) :
  Meets (Builtin.«enumerate.__new__» ⟨[.type "enumerate",.ref l],[]⟩) (fun _ R s=>s.heap.get? l=some { cls:=.type "tuple",dict:=dct,data:=.seq items n,slots:=sl }∧
   R (.ok (.ret (.ref (s.heap.push { cls:=.type "tuple_iterator",data:=.fields #[.ref l,.int 0 0] }).objs.size)))
    { s with heap:=(s.heap.push { cls:=.type "tuple_iterator",data:=.fields #[.ref l,.int 0 0] }).push { cls:=.type "enumerate",data:=.fields #[.none,.bool false,.ref s.heap.objs.size,rawInt 0,.none,.none] } }):=
 .of_wp fun prog w A R s h=>by
  obtain⟨hp,g,d,tk,os⟩:=s;obtain⟨hl,h⟩:=h
  have hsub:=sub_enumerate
  have hL:Heap.IsTuple (Shared.heap ⟨hp,g,d,tk,os⟩) l items:=⟨_,hl,rfl,n,rfl⟩
  wp_walk using wpAny_loadPart' hl
  refine wpAny_stack_any fun st=>wpAny_pure ?_
  split
  ·rename_i c _ _ _ _ _
   cases(c == Value.type "enumerate")
   ·wp_walk using wpAny_loadPart' hl,wpAny_pyIter_tuple hL
    exact⟨_,rfl,h⟩
   ·wp_walk using wpAny_loadPart' hl,wpAny_pyIter_tuple hL
    exact⟨_,rfl,h⟩
  ·wp_walk using wpAny_loadPart' hl,wpAny_pyIter_tuple hL
   exact⟨_,rfl,h⟩
section
variable{prog:Program}{w:World}{A:Around}{E:Value→Shared→Prop}{s:Shared}
theorem tZ{l:Addr}{items:Array Value}{Q:Value→Shared→Prop}(hL:s.heap.IsTuple l items)
  (h:∀h',IsEnum h' (s.heap.objs.size+1) s.heap.objs.size 0 .none→h'.IsTupleIter s.heap.objs.size l 0→h'.objs.size=s.heap.objs.size+2→
   (∀b o,s.heap.get? b=some o→h'.get? b=some o)→Q (.ref (s.heap.objs.size+1)) { s with heap:=h' }) :
  wpAny (model prog w) A (call (.type "enumerate") [.ref l]) Q E s:=by
 obtain⟨⟨c,dct,dt,sl⟩,hl,hc,n,hd⟩:=hL
 replace hc:c = .type "tuple":=hc
 replace hd:dt = .seq items n:=hd
 subst hc hd
 refine callType_new F.called_enumerate (by decide) (F.typeCall_enumerate_1 _) (F.newCall_enumerate_1 _) (fun obj=>F.args_object_init_2 obj _) F.entry_enumerate_new
  (sG l items n dct sl) ⟨hl,?_⟩
 have hz:(s.heap.push { cls:=.type "tuple_iterator",data:=.fields #[.ref l,.int 0 0] }).objs.size=s.heap.objs.size+1:=Heap.size_push ..
 show _∧_
 rw[hz]
 have he:IsEnum ((s.heap.push { cls:=.type "tuple_iterator",data:=.fields #[.ref l,.int 0 0] }).push
   { cls:=.type "enumerate",data:=.fields #[.none,.bool false,.ref s.heap.objs.size,rawInt 0,.none,.none] }) (s.heap.objs.size+1) s.heap.objs.size 0 .none:=by
  have:=Heap.get?_push_size (s.heap.push { cls:=.type "tuple_iterator",data:=.fields #[.ref l,.int 0 0] })
   (o:={ cls:=.type "enumerate",data:=.fields #[.none,.bool false,.ref s.heap.objs.size,rawInt 0,.none,.none] }) rfl
  rw[hz] at this;exact this
 refine⟨⟨_,he,rfl⟩,h _ he ⟨_,Heap.get?_push_of_some _ (Heap.get?_push_size _ rfl),rfl,rfl⟩ (by rw[Heap.size_push,hz]) fun b o x=>Heap.get?_push_of_some _ (Heap.get?_push_of_some _ x)⟩
end
end HT
namespace L2
open PySem PySem.Spec PyProof.Rows PySem.Builtin ZT
noncomputable def akB(K:PySem.W.Frag)(a:Addr):It:=
 ⟨fun i H=>∃xs x,oM K H a xs∧xs[i]? = some x,fun i H v H'=>∃p x,(∀xs,oM K H a xs→xs[i]? = some x)∧H p=none∧H'=upd H p (.tup [.int i,x])∧v = .ref p,fun i H=>∃xs,oM K H a xs∧i=xs.length⟩
theorem JP{P:Program}{w:World}{K:PySem.W.Frag}{elts:List Expr}{k:Nat}{pos:Pos}(e it a:Addr)(hei:e≠it)(hai:a≠it)(hae:a≠e) :
  Turn P w K (.Tuple elts k pos) (akB K a) [e,it] e (fun i h=>(∃old,IsEnum h e it i old)∧h.IsTupleIter it a i) where
 mem:=by simp
 obj:=fun i h st b hb=>by
  obtain⟨⟨old,he⟩,o,ho,hc,hd⟩:=st
  rcases List.mem_cons.mp hb with rfl|hb
  ·exact⟨_,he,fun v z=>by cases z⟩
  ·rw[List.mem_singleton.mp hb]
   exact⟨o,ho,fun v z=>by rw[hd] at z;cases z⟩
 keep:=fun i h h' st kk=>by
  obtain⟨⟨old,he⟩,o,ho,r⟩:=st
  exact⟨⟨old,kk e (by simp) _ he⟩,o,kk it (by simp) o ho,r⟩
 item:=by
  intro X hP hw hK hc i pins s σ H E I hf st hg
  subst hP hw hK
  obtain⟨⟨old,he⟩,hit⟩:=st
  obtain⟨xs,x,hq,hx⟩:=hg
  obtain⟨its,rv,pt,hz⟩:=I.tuple hq
  obtain⟨u,hu,ru⟩:=rv.get hx
  have lu:i<its.toArray.size:=by rw[List.size_toArray];exact(List.getElem?_eq_some_iff.mp hu).1
  have D1:Draws X.prog X.w X.A.in1 it [it,a] _ _ _:=DX (A:=X.A.in1) (show X.A.in1.handled=none from I.ok.hd hc) it a hai its.toArray
  refine wpAny_pyNext_enum_itemD (A:=X.A) D1 he ⟨hit,pt⟩ lu hei (by simp[hei,hae.symm]) fun y h' tk hv ho hSt acN hsz hk=>?_
  have ey:y=u:=by
   have:its.toArray[i]? = some y:=hv
   rw[List.getElem?_toArray,hu] at this
   exact(Option.some.inj this).symm
  subst ey
  have hT:s.heap.objs.size≤s.heap.objs.size:=Nat.le_refl _
  have helt:e<s.heap.objs.size:=Heap.lt_size he
  have hilt:it<s.heap.objs.size:=by obtain⟨_,x,_⟩:=hit;exact Heap.lt_size x
  have nT:H s.heap.objs.size=none:=I.hok.fresh hT
  refine⟨_,rfl,?_⟩
  refine wpAny_letOwnedTupleGo_enum (s:={ s with heap:=h',toks:=tk+1 }) ho fun h'' acL hs''=>?_
  have oU:∀b o,b≠e→h'.get? b=some o→h''.get? b=some o:=fun b o hb q=>(hs''.2 b hb).trans q
  have hnT:s.heap.objs.size ∉ [e,it]:=fun hb=>by
   rcases List.mem_cons.mp hb with z|hb
   ·exact Nat.ne_of_gt helt z
   ·exact Nat.ne_of_gt hilt (List.mem_singleton.mp hb)
  refine⟨.ref s.heap.objs.size,upd H s.heap.objs.size (.tup [.int i,x]),I.drawn (t':=tk+1) (ch:=[e,it]) hf (fun b o hb q=>oU b o (fun z=>hb (by simp[z])) (hk b o (fun z=>hb (by simp[z])) (fun z=>hb (by simp[z])) q)) hT ?_,rfl,⟨_,x,fun zs hq2=>by rw[I.Dj hq2 hq];exact hx,nT,rfl,rfl⟩,⟨⟨_,by simpa using acL⟩,?_⟩,fun b hb=>?_⟩
  ·exact⟨by show 2≤sizeLine;decide,[.int i tk,y],.cons ⟨_,rfl⟩ (.cons ru .nil),_,oU _ _ (Nat.ne_of_gt helt) acN,rfl,⟨_,rfl⟩,rfl⟩
  ·obtain⟨⟨o,q,r⟩,_⟩:=hSt
   exact⟨o,oU it o hei.symm q,r⟩
  ·have hne:b≠s.heap.objs.size:=fun z=>by
    subst z
    exact hnT hb
   rw[bK hne];exact(hf b hb).1
 done:=by
  intro X hP hw hK hc i pins s σ H E I hf st hg
  subst hP hw hK
  obtain⟨xs,hq,hi⟩:=hg
  obtain⟨its,rv,pt,hz⟩:=I.tuple hq
  have D1:Draws X.prog X.w X.A.in1 it [it,a] _ _ _:=DX (A:=X.A.in1) (show X.A.in1.handled=none from I.ok.hd hc) it a hai its.toArray
  obtain⟨⟨old,he⟩,hit⟩:=st
  have hl:=rv.length
  have ei:i=its.toArray.size:=by rw[List.size_toArray,hi,hl]
  rw[ei] at he hit
  exact wpAny_pyNext_enum_endD (A:=X.A) D1 he ⟨hit,pt⟩ fun h' eb=>⟨rfl,I.En (t':=s.toks) (ch:=[e,it]) hf fun b o hb q=>eb b o (fun z=>hb (by simp[z])) q⟩
 self:=fun A i s Q E st h=>by
  obtain⟨⟨old,he⟩,_⟩:=st
  exact wpAny_pyIter_enum he h
section
variable{X:Cx}{tg:Expr}
noncomputable def acK(K:PySem.W.Frag)(ta:TA):TI:=fun σ H R=>ta σ H fun vs H1=>(∃z,vs=[.str z]∧R (Ite z) H1)∨∃a,vs=[.ref a]∧(∃xs,oM K H1 a xs)∧R (akB K a) H1
theorem RK{elts:List Expr}{k:Nat}{tp:Pos}{a:Expr}{ta:TA}{p pos:Pos}(hg:Gl X "enumerate")(hm:X.mg "enumerate" = none)(ha:PA X [a] ta)(hs:starEach [a] X.env=[(false,eval a X.env)]:=by rfl):PI X (.Tuple elts k tp) (.Call (.Name "enumerate" p) [a] [] pos) (acK X.K ta):=by
 intro pins s σ H R I h
 refine Call_ (uT I hg hm PyProof.Rows.boot_enumerate (PyProof.Rows.callWith_type1 (gw (ha pos pins s σ H _ I h) fun us s1 ⟨vs,H1,I1,r1,q1⟩=>?_) hs rfl))
 have own:∀b ∈ [s1.heap.objs.size+1,s1.heap.objs.size],qp X pins H1 b:=fun b hb=>by
  rcases List.mem_cons.mp hb with rfl|hb
  ·exact I1.Lp (Nat.le_succ _) (I1.hok.fresh (Nat.le_succ _))
  ·rw[List.mem_singleton.mp hb];exact I1.Lp (Nat.le_refl _) (I1.hok.fresh (Nat.le_refl _))
 rcases q1 with ⟨z,e,q⟩|⟨l,e,⟨xs,hl⟩,q⟩
 ·subst e
  cases r1 with
  | cons r rr=>
   cases rr
   obtain⟨t,rfl⟩:=r
   refine call_enumerate_str fun h' he hit hsz hk=>?_
   refine wpAny_pyIter_enum he ?_
   have I2:Inv X pins σ H1 { s1 with heap:=h' }:=I1.kept (t':=s1.toks) hk
   cases hz:z.cps.all (·< 128)
   ·have hit':h'.IsStrIter s1.heap.objs.size "str_iterator" z t 0:=by simpa[strIterType,hz] using hit
    exact⟨s1.heap.objs.size+1,[s1.heap.objs.size+1,s1.heap.objs.size],_,_,H1,rfl,I2,uz _ _ z t "str_iterator" (Nat.succ_ne_self _) (fun A hA=>Draws.strWide hA _ z t),⟨⟨_,he⟩,hit'⟩,own,q⟩
   ·have hit':h'.IsStrIter s1.heap.objs.size "str_ascii_iterator" z t 0:=by simpa[strIterType,hz] using hit
    exact⟨s1.heap.objs.size+1,[s1.heap.objs.size+1,s1.heap.objs.size],_,_,H1,rfl,I2,uz _ _ z t "str_ascii_iterator" (Nat.succ_ne_self _) (fun A hA=>Draws.strAscii hA _ z t),⟨⟨_,he⟩,hit'⟩,own,q⟩
 ·subst e
  cases r1 with
  | cons r rr=>
   cases rr
   cases r
   obtain⟨its,rv,pt,hz⟩:=I1.tuple hl
   have ll:l<s1.heap.objs.size:=pt.lt
   refine HT.tZ (show s1.heap.IsTuple l its.toArray from pt) fun h' he hit hsz hk=>?_
   refine wpAny_pyIter_enum he ?_
   have I2:Inv X pins σ H1 { s1 with heap:=h' }:=I1.kept (t':=s1.toks) hk
   exact⟨s1.heap.objs.size+1,[s1.heap.objs.size+1,s1.heap.objs.size],_,_,H1,rfl,I2,JP _ _ l (Nat.succ_ne_self _) (Nat.ne_of_lt ll) (Nat.ne_of_lt (Nat.lt_succ_of_lt ll)),⟨⟨_,he⟩,hit⟩,own,q⟩
end
end L2
namespace Ev
open PySem PySem.Spec PyProof.Rows L2 PySem.Builtin
section
variable{X:Cx}{C:Cfg}{pos:Pos}{e:Expr}
noncomputable def Bx(xs:List D):List D:=xs.zipIdx.map fun p=>.tup [.int (p.2:Nat),p.1]
noncomputable def zM(a:cL):cL:=fun env=>bindR (a env) fun ds aG=>match ds with
 | [.str x]=>.ok (qm x) aG
 | [.tup xs]=>.ok (Bx xs) aG
 | _=>.stuck
theorem Ga{elts:List Expr}{k:Nat}{tp p:Pos}{ea:cL}(G:Good X C)(hm:X.mg "enumerate" = none)(ha:Dg X C [e] ea)(hg:Gl X "enumerate":=by rfl)(hs:starEach [e] X.env=[(false,eval e X.env)]:=by rfl):GC X C (.Tuple elts k tp) (.Call (.Name "enumerate" p) [e] [] pos) (zM ea):=by
 have h:=RK (k:=k) (tp:=tp) (elts:=elts) (p:=p) (pos:=pos) hg hm ha hs
 rw[G.K] at h
 refine h.imp fun σ H R hq=>?_
 obtain⟨Pr,F,env,env',ds,r,e,q⟩:=hq
 obtain⟨as,aG,e1,e2⟩:=aR e
 refine⟨Pr,F,env,aG,as,r,e1,fun vs H1 F1 r1 s1 p1=>?_⟩
 split at e2
 ·rename_i x
  cases e2
  obtain⟨v,w,rfl,⟨rfl,hz⟩,p2⟩:=p1
  cases p2
  refine .inl ⟨strOf x,rfl,q _ H1 F1 r1 s1 fun i H2 s2=>⟨fun _ ei=>?_,fun d hd=>?_⟩⟩
  ·show i=x.toArray.size
   rw[ei];simp[qm]
  ·unfold qm at hd
   rw[List.getElem?_map] at hd
   obtain⟨⟨c,j⟩,hc,rfl⟩:=Option.map_eq_some_iff.mp hd
   rw[List.getElem?_zipIdx] at hc
   obtain⟨c',hc',h2⟩:=Option.map_eq_some_iff.mp hc
   cases h2
   refine⟨?_,fun y H3 hy=>.inr ?_⟩
   ·show i<x.toArray.size
    have:=(List.getElem?_eq_some_iff.mp hc').1
    simpa using this
   ·obtain⟨p,c2,h3,h4,rfl,rfl⟩:=hy
    have h5:x[i]? = some c2:=by simpa[strOf] using h3
    rw[hc'] at h5;cases h5
    exact⟨p,_,_,h4,rfl,rfl,rfl,by show 2≤sizeLine;decide,_,_,rfl,by simp[Rep],_,_,rfl,⟨rfl,by show 1≤sizeLine;decide⟩,rfl⟩
 ·rename_i xs
  cases e2
  obtain⟨v,w,rfl,pv,p2⟩:=p1
  cases p2
  obtain⟨hz,a,us,rfl,h1,h2⟩:=pv
  refine .inr ⟨a,rfl,⟨us,aO.tupK r1.fr h1⟩,q _ H1 F1 r1 s1 fun i H2 s2=>⟨fun _ ei=>?_,fun d hd=>?_⟩⟩
  ·refine⟨us,aO.tupK s2 h1,?_⟩
   rw[ei,h2.length];simp[Bx]
  ·unfold Bx at hd
   rw[List.getElem?_map] at hd
   obtain⟨⟨c,j⟩,hc,rfl⟩:=Option.map_eq_some_iff.mp hd
   rw[List.getElem?_zipIdx] at hc
   obtain⟨c',hc',h3⟩:=Option.map_eq_some_iff.mp hc
   cases h3
   obtain⟨u,hu,ru⟩:=h2.get hc'
   refine⟨⟨us,u,aO.tupK s2 h1,hu⟩,fun y H3 hy=>.inr ?_⟩
   obtain⟨p,x2,h3,h4,rfl,rfl⟩:=hy
   have h5:=h3 us (aO.tupK s2 h1)
   rw[hu] at h5;cases h5
   exact⟨p,_,_,h4,rfl,rfl,rfl,by show 2≤sizeLine;decide,_,_,rfl,by simp[Rep],_,_,rfl,ru,rfl⟩
 ·cases e2
end
end Ev
namespace L2
open PySem PySem.Spec PyProof.Rows PySem.Builtin
noncomputable def Yx(l:Addr)(n:Nat):HO:=.ext fun h=>∃t u v,IsRange h l 0 (n:Int) 1 t u v
section
variable{X:Cx}
noncomputable def Mz:List V→Hp→VK→Prop:=fun xs H Q=>∃n:Nat,xs=[.int n]∧∀l,H l=none→Q (.ref l) (upd H l (Yx l n))
noncomputable def Rj:List V→Hp→VK→Prop:=fun xs H Q=>∃(p:Addr) (n:Nat),xs=[.ref p]∧H p=some (Yx p n)∧n≤sizeLine∧∀l,H l=none→Q (.ref l) (upd H l (.lst ((List.range n).map fun i=>V.int (i:Nat))))
theorem Jk:jZ X (.type "range") Mz:=by
 intro pins s σ H xs us Q I r h
 obtain⟨n,rfl,q⟩:=h
 obtain⟨u,rfl,⟨t,rfl⟩⟩:=vals1 r
 refine call_range_1 ?_
 refine⟨.ref s.heap.objs.size,_,I.laid (t':=s.toks+1+1) (fun b o e=>Heap.get?_push_of_some _ e) (Nat.le_refl _) (o:=Yx s.heap.objs.size n) ⟨⟨_,_,_,IsRange.new ..⟩,⟨_,IsRange.new ..⟩,fun h1 h2 y kk=>?_⟩,rfl,q _ (I.hok.fresh (Nat.le_refl _))⟩
 obtain⟨t,u,v,e⟩:=y
 exact⟨t,u,v,kk _ e⟩
theorem DP:∀(n k:Nat) (vs:List Value),vs.length=n→(∀(j:Nat) (v:Value),vs[j]? = some v→∃t,v=Value.int (((k+j:Nat)):Int) t)→Vals ((List.range' k n).map fun i=>V.int (i:Nat)) vs
 | 0,k,vs,hl,_=>by rw[List.eq_nil_of_length_eq_zero hl];exact .nil
 | n+1,k,vs,hl,hv=>by
  cases vs with
  | nil=>simp at hl
  | cons v vs=>
   rw[List.range'_succ,List.map_cons]
   refine .cons ?_ (DP n (k+1) vs (by simpa using hl) fun j w hw=>?_)
   ·obtain⟨t,rfl⟩:=hv 0 v rfl
    exact⟨t,by simp⟩
   ·obtain⟨t,rfl⟩:=hv (j+1) w (by simpa using hw)
    exact⟨t,by congr 2;omega⟩
theorem Lz(hc:X.calm=true):jZ X (.type "list") Rj:=by
 intro pins s σ H xs us Q I r h
 obtain⟨p,n,rfl,hp,hz,q⟩:=h
 obtain⟨u,rfl,rx⟩:=vals1 r
 cases rx
 obtain⟨t,u,v,e⟩:∃t u v,IsRange s.heap p 0 (n:Int) 1 t u v:=(I.hok p _ hp).1
 have hzz:n≤2^24:=hz
 have hb:(n:Int)<2^62:=by omega
 have hrs:Builtin.Range.rangeSize 0 (n:Int) 1=(n:Int):=by rw[rangeSize_one];split<;>omega
 refine call_list_range (I.ok.hd hc) e (small_one (by decide) (by decide) (by omega) hb) hrs hzz fun h' tk acc' c' kp e2 hacc=>?_
 refine⟨.ref s.heap.objs.size,_,I.laid kp (Nat.le_refl _) (show ik X.prog X.w _ h' _ (.lst ((List.range n).map fun i=>V.int (i:Nat))) from⟨?_,acc'.toList,c',?_,by simpa using e2⟩),rfl,q _ (I.hok.fresh (Nat.le_refl _))⟩
 ·rw[List.length_map,List.length_range];exact hz
 ·obtain⟨hsz,hit⟩:=hacc
  rw[List.range_eq_range']
  refine DP n 0 _ (by simpa using hsz) fun j v hv=>?_
  obtain⟨t,rfl⟩:=hit j v (by simpa using hv)
  exact⟨t,by congr 1;omega⟩
end
end L2
namespace Ev
open PySem PySem.Spec PyProof.Rows L2 PySem.Builtin
section
variable{X:Cx}{C:Cfg}{pos p p2 pos2:Pos}{e:Expr}{a:Ev}
noncomputable def DQ:D→Option D
 | .int i=>if 0≤i∧i.toNat≤sizeLine then some (.lst ((List.range i.toNat).map fun(k:Nat)=>.int (k:Int))) else none
 | _=>none
theorem Dn{K:Fg}{F:Hp}:∀l:List Nat,bN K F (l.map fun(k:Nat)=>D.int (k:Int)) (l.map fun i=>V.int (i:Nat))
 | []=>rfl
 | k::l=>⟨_,_,rfl,rfl,Dn l⟩
theorem Kz(G:Good X C)(h1:X.mg "list" = none)(h2:X.mg "range" = none)(ha:PX X C e a)(g1:Gl X "list":=by rfl)(g2:Gl X "range":=by rfl)
  (he:starEach [e] X.env=(false,eval e X.env)::starEach [] X.env:=by rfl)
  (he2:starEach [.Call (.Name "range" p2) [e] [] pos2] X.env=(false,eval (.Call (.Name "range" p2) [e] [] pos2) X.env)::starEach [] X.env:=by rfl) :
  Jy X C (.Call (.Name "list" p) [.Call (.Name "range" p2) [e] [] pos2] [] pos) (oA DQ a):=by
 have i1:PE X (.Call (.Name "range" p2) [e] [] pos2) _:=yc (T:="range") L2.Jk g2 h2 (by decide +kernel) (lW ha uP he) (by decide) (by decide) he rfl
 have i2:PE X (.Call (.Name "list" p) [.Call (.Name "range" p2) [e] [] pos2] [] pos) _:=yc (T:="list") (L2.Lz G.calm) g1 h1 (by decide +kernel) (lW i1 uP he2) (by decide) (by decide) he2 rfl
 refine i2.imp fun σ H Q hq=>?_
 obtain⟨Pr,F,env,env',d,r,e0,q⟩:=hq
 obtain⟨x,aG,e1,e2⟩:=aR e0
 obtain⟨e3,rfl⟩:=eQ e2
 refine⟨Pr,F,env,env',x,r,e1,fun v H1 F1 r1 s1 p1=>?_⟩
 cases x with
 | int i=>
  unfold DQ at e3
  simp only at e3
  split at e3
  ·rename_i hi
   cases e3
   obtain⟨n,rfl⟩:∃n:Nat,i=(n:Int):=⟨i.toNat,by omega⟩
   rw[Int.toNat_natCast] at hi q
   cases p1
   show Mz [.int n] H1 fun x H2=>Rj [x] H2 Q
   refine⟨n,rfl,fun l hl=>?_⟩
   have r2:=r1.fresh (o:=Yx l n) hl
   refine⟨l,n,rfl,aW,hi.2,fun l2 hl2=>?_⟩
   exact q l2 _ F1 (r2.fresh hl2) s1 (QC.of r2 hl2 ⟨by rw[List.length_map,List.length_range];exact hi.2,_,aW,Dn _⟩)
  ·cases e3
 | _=>cases e3
theorem XF{n:Nat}(h:n≤sizeLine):DQ (.int (n:Int))=some (.lst ((List.range n).map fun(k:Nat)=>.int (k:Int))):=by
 show(if _ then _ else _)=_
 rw[if_pos ⟨by omega,by rw[Int.toNat_natCast];exact h⟩,Int.toNat_natCast]
end
end Ev
namespace L2
open PySem PySem.Spec PyProof.Rows PySem.Builtin ZT
noncomputable def Z8(K:PySem.W.Frag)(a1 a2:Addr):It:=
 ⟨fun i H=>∃xs ys x y,jY K H a1 xs∧jY K H a2 ys∧xs[i]? = some x∧ys[i]? = some y,
 fun i H v H'=>∃p x y,(∀xs,jY K H a1 xs→xs[i]? = some x)∧(∀ys,jY K H a2 ys→ys[i]? = some y)∧H p=none∧H'=upd H p (.tup [x,y])∧v = .ref p,
 fun i H=>∃xs ys,jY K H a1 xs∧jY K H a2 ys∧(i=xs.length∨(i<xs.length∧i=ys.length))⟩
theorem JL{P:Program}{w:World}{K:PySem.W.Frag}{elts:List Expr}{kk:Nat}{pos:Pos}(z TI TO j1 j2 a1 a2:Addr)(D:Apz z TI TO j1 j2 a1 a2) :
  Turn P w K (.Tuple elts kk pos) (Z8 K a1 a2) [z,TI,TO,j1,j2] z (fun i h=>IsZip h z TI TO .none∧IsPair h TI (.ref j1) (.ref j2)∧(∃a b,IsPair h TO a b)∧h.IsListIter j1 a1 i∧h.IsListIter j2 a2 i) where
 mem:=by simp
 obj:=fun i h st b hb=>by
  obtain⟨hz,hTI,⟨a,c,hTO⟩,⟨o1,e1,_,d1⟩,o2,e2,_,d2⟩:=st
  simp only[List.mem_cons,List.not_mem_nil,or_false] at hb
  rcases hb with rfl|rfl|rfl|rfl|rfl
  ·exact⟨_,hz,fun v q=>by cases q⟩
  ·exact⟨_,hTI,fun v q=>by cases q⟩
  ·exact⟨_,hTO,fun v q=>by cases q⟩
  ·exact⟨o1,e1,fun v q=>by rw[d1] at q;cases q⟩
  ·exact⟨o2,e2,fun v q=>by rw[d2] at q;cases q⟩
 keep:=fun i h h' st k=>by
  obtain⟨hz,hTI,⟨a,c,hTO⟩,⟨o1,e1,r1⟩,o2,e2,r2⟩:=st
  exact⟨k z (by simp) _ hz,k TI (by simp) _ hTI,⟨a,c,k TO (by simp) _ hTO⟩,⟨o1,k j1 (by simp) _ e1,r1⟩,o2,k j2 (by simp) _ e2,r2⟩
 item:=by
  intro X hP hw hK hc i pins s σ H E I hf st hg
  subst hP hw hK
  obtain⟨hz,hTI,⟨a,b,hTO⟩,i1,i2⟩:=st
  obtain⟨xs,ys,x,y,hx,hy,gx,gy⟩:=hg
  obtain⟨us,ru,pu,zu⟩:=I.list hx
  obtain⟨vs,rv,pv,zv⟩:=I.list hy
  obtain⟨u,hu,rxu⟩:=ru.get gx
  obtain⟨v,hv,ryv⟩:=rv.get gy
  have lu:i<us.toArray.size:=by rw[List.size_toArray];exact(List.getElem?_eq_some_iff.mp hu).1
  have lv:i<vs.toArray.size:=by rw[List.size_toArray];exact(List.getElem?_eq_some_iff.mp hv).1
  have D1:Draws X.prog X.w X.A.in1 j1 [j1,a1] _ _ _:=Draws.list (A:=X.A.in1) (show X.A.in1.handled=none from I.ok.hd hc) j1 a1 D.c1 us.toArray
  have D2:Draws X.prog X.w X.A.in1 j2 [j2,a2] _ _ _:=Draws.list (A:=X.A.in1) (show X.A.in1.handled=none from I.ok.hd hc) j2 a2 D.c2 vs.toArray
  refine zr (A:=X.A) D.ap D1 D2 lu lv hz hTI hTO ⟨i1,pu.isList⟩ ⟨i2,pv.isList⟩ fun x' y' g tk px py hz' amF s1 s2 hT hsz hk=>?_
  have ex:x'=u:=by
   have:us.toArray[i]? = some x':=px
   rw[List.getElem?_toArray,hu] at this
   exact(Option.some.inj this).symm
  have ey:y'=v:=by
   have:vs.toArray[i]? = some y':=py
   rw[List.getElem?_toArray,hv] at this
   exact(Option.some.inj this).symm
  subst ex ey
  refine⟨_,rfl,?_⟩
  refine wpAny_letOwnedTupleGo_zip (s:={ s with heap:=g,toks:=tk }) hz' fun g' hz'' e'=>?_
  have oU:∀b o,b≠z→g.get? b=some o→g'.get? b=some o:=fun b o hb q=>(e'.2 b hb).trans q
  have lts:∀b ∈ [z,TI,TO,j1,j2],b<s.heap.objs.size:=fun b hb=>by
   simp only[List.mem_cons,List.not_mem_nil,or_false] at hb
   rcases hb with rfl|rfl|rfl|rfl|rfl
   ·exact Heap.lt_size hz
   ·exact Heap.lt_size hTI
   ·exact Heap.lt_size hTO
   ·obtain⟨_,q,_⟩:=i1;exact Heap.lt_size q
   ·obtain⟨_,q,_⟩:=i2;exact Heap.lt_size q
  have nT:H s.heap.objs.size=none:=I.hok.fresh (Nat.le_refl _)
  refine⟨.ref s.heap.objs.size,upd H s.heap.objs.size (.tup [x,y]),I.drawn (t':=tk) (ch:=[z,TI,TO,j1,j2]) hf (fun b o hb q=>?_) (Nat.le_refl _) ?_,rfl,⟨_,x,y,fun zs hq=>by rw[I.Ay hq hx];exact gx,fun zs hq=>by rw[I.Ay hq hy];exact gy,nT,rfl,rfl⟩,⟨hz'',?_,⟨_,_,oU TO _ D.t2 amF⟩,?_,?_⟩,fun b hb=>?_⟩
  ·have n1:b≠z:=fun q=>hb (by simp[q])
   exact oU b o n1 (hk b o n1 (fun q=>hb (by simp[q])) (fun q=>hb (by simp[q])) (fun q=>hb (by simp[q])) q)
  ·exact⟨by show 2≤sizeLine;decide,[x',y'],.cons rxu (.cons ryv .nil),_,oU _ _ (Nat.ne_of_gt (lts z (by simp))) hT,rfl,⟨_,rfl⟩,rfl⟩
  ·exact oU TI _ D.t1 (hk TI _ D.t1 D.t3 (fun q=>D.b5 (by simp[q])) (fun q=>D.b6 (by simp[q])) hTI)
  ·obtain⟨o,q,r⟩:=s1.1
   exact⟨o,oU j1 o (fun q=>D.b1 (by simp[q])) q,r⟩
  ·obtain⟨o,q,r⟩:=s2.1
   exact⟨o,oU j2 o (fun q=>D.b2 (by simp[q])) q,r⟩
  ·rw[bK (Nat.ne_of_lt (lts b hb))]
   exact(hf b hb).1
 done:=by
  intro X hP hw hK hc i pins s σ H E I hf st hg
  subst hP hw hK
  obtain⟨hz,hTI,⟨a,b,hTO⟩,i1,i2⟩:=st
  obtain⟨xs,ys,hx,hy,hi⟩:=hg
  obtain⟨us,ru,pu,zu⟩:=I.list hx
  obtain⟨vs,rv,pv,zv⟩:=I.list hy
  have l1:=ru.length
  have l2:=rv.length
  have D1:Draws X.prog X.w X.A.in1 j1 [j1,a1] _ _ _:=Draws.list (A:=X.A.in1) (show X.A.in1.handled=none from I.ok.hd hc) j1 a1 D.c1 us.toArray
  have D2:Draws X.prog X.w X.A.in1 j2 [j2,a2] _ _ _:=Draws.list (A:=X.A.in1) (show X.A.in1.handled=none from I.ok.hd hc) j2 a2 D.c2 vs.toArray
  refine Ai (A:=X.A) (k:=i) D.ap D1 D2 (by rw[List.size_toArray,List.size_toArray];omega) hz hTI hTO ⟨i1,pu.isList⟩ ⟨i2,pv.isList⟩ fun g tk hk=>⟨rfl,I.En (t':=tk) (ch:=[z,TI,TO,j1,j2]) hf fun b o hb e=>?_⟩
  exact hk b o (fun q=>hb (by simp[q])) (fun q=>hb (by simp[q])) (fun q=>hb (by simp[q])) (fun q=>hb (by simp[q])) e
 self:=fun A i s Q E st h=>wpAny_pyIter_zip st.1 h
end L2
namespace ZT
open PySem PySem.Spec PyProof.Rows L2 PySem.Builtin
noncomputable abbrev Xu(h:Heap)(l1:Addr):Heap:=h.push { cls:=.type "list_iterator",data:=.fields #[.ref l1,.int 0 0] }
noncomputable abbrev Xr(h:Heap)(l1 l2:Addr):Heap:=(Xu h l1).push { cls:=.type "list_iterator",data:=.fields #[.ref l2,.int 0 0] }
noncomputable abbrev Xq(h:Heap)(l1 l2:Addr):Heap:=(Xr h l1 l2).push { cls:=.type "tuple",data:=.seq #[.ref h.objs.size,.ref (Xu h l1).objs.size] }
noncomputable abbrev Xp(h:Heap)(l1 l2:Addr):Heap:=(Xq h l1 l2).push { cls:=.type "tuple",data:=.seq #[.none,.none] }
noncomputable abbrev Lh(h:Heap)(l1 l2:Addr):Heap:=(Xp h l1 l2).push { cls:=.type "zip",data:=.fields #[.none,.bool false,.bool false,.ref (Xr h l1 l2).objs.size,.ref (Xq h l1 l2).objs.size] }
theorem abA(l1 l2:Addr)(xs ys:Array Value):Meets (Builtin.«zip.__new__» ⟨[.type "zip",.ref l1,.ref l2],[]⟩) (fun _ R s=>s.heap.IsList l1 xs∧s.heap.IsList l2 ys∧
   R (.ok (.ret (.ref (Xp s.heap l1 l2).objs.size))) { s with heap:=Lh s.heap l1 l2 }):=
 .of_wp fun prog w A R s h=>by
  obtain⟨hp,g,d,tk,os⟩:=s;obtain⟨hl1,hl2,h⟩:=h
  have hsub:=sub_zip
  have hL1:Heap.IsList (Shared.heap ⟨hp,g,d,tk,os⟩) l1 xs:=hl1
  have hL2:Heap.IsList (Shared.heap ⟨hp.push { cls:=.type "list_iterator",data:=.fields #[.ref l1,.int 0 0] },g,d,tk,os⟩) l2 ys:=Heap.IsList.push hl2 _
  wp_walk using wpAny_pyIter_list hL1,wpAny_pyIter_list hL2
  exact⟨_,rfl,h⟩
section
variable{prog:Program}{w:World}{A:Around}{E:Value→Shared→Prop}{s:Shared}
theorem UT{l1 l2:Addr}{xs ys:Array Value}{Q:Value→Shared→Prop}(hl1:s.heap.IsList l1 xs)(hl2:s.heap.IsList l2 ys)
  (h:∀g,IsZip g (s.heap.objs.size+4) (s.heap.objs.size+2) (s.heap.objs.size+3) .none→IsPair g (s.heap.objs.size+2) (.ref s.heap.objs.size) (.ref (s.heap.objs.size+1))→
   IsPair g (s.heap.objs.size+3) .none .none→g.IsListIter s.heap.objs.size l1 0→g.IsListIter (s.heap.objs.size+1) l2 0→g.objs.size=s.heap.objs.size+5→
   (∀c o,s.heap.get? c=some o→g.get? c=some o)→Q (.ref (s.heap.objs.size+4)) { s with heap:=g }) :
  wpAny (model prog w) A (call (.type "zip") [.ref l1,.ref l2]) Q E s:=by
 refine callType_new F.called_zip (by decide) (F.typeCall_zip_2 _ _) (F.newCall_zip_2 _ _) (fun obj=>F.args_object_init_3 obj _ _) F.entry_zip_new (abA l1 l2 xs ys) ⟨hl1,hl2,?_⟩
 have z1:(Xu s.heap l1).objs.size=s.heap.objs.size+1:=Heap.size_push ..
 have z2:(Xr s.heap l1 l2).objs.size=s.heap.objs.size+2:=by rw[Heap.size_push,z1]
 have z3:(Xq s.heap l1 l2).objs.size=s.heap.objs.size+3:=by rw[Heap.size_push,z2]
 have z4:(Xp s.heap l1 l2).objs.size=s.heap.objs.size+4:=by rw[Heap.size_push,z3]
 have z5:(Lh s.heap l1 l2).objs.size=s.heap.objs.size+5:=by rw[Heap.size_push,z4]
 have g5:(Lh s.heap l1 l2).get? (Xp s.heap l1 l2).objs.size=some _:=Heap.get?_push_size _ rfl
 have g4:(Lh s.heap l1 l2).get? (Xq s.heap l1 l2).objs.size=some _:=Heap.get?_push_of_some _ (Heap.get?_push_size _ rfl)
 have g3:(Lh s.heap l1 l2).get? (Xr s.heap l1 l2).objs.size=some _:=Heap.get?_push_of_some _ (Heap.get?_push_of_some _ (Heap.get?_push_size _ rfl))
 have g2:(Lh s.heap l1 l2).get? (Xu s.heap l1).objs.size=some _:=Heap.get?_push_of_some _ (Heap.get?_push_of_some _ (Heap.get?_push_of_some _ (Heap.get?_push_size _ rfl)))
 have g1:(Lh s.heap l1 l2).get? s.heap.objs.size=some _:=Heap.get?_push_of_some _ (Heap.get?_push_of_some _ (Heap.get?_push_of_some _ (Heap.get?_push_of_some _ (Heap.get?_push_size _ rfl))))
 show _∧_
 rw[z2,z3,z4] at g5
 rw[z1,z2] at g3
 rw[z3] at g4
 rw[z1] at g2
 rw[z4]
 exact⟨⟨_,g5,rfl⟩,h _ g5 g3 g4 ⟨_,g1,rfl,rfl⟩ ⟨_,g2,rfl,rfl⟩ z5 fun c o x=>Heap.get?_push_of_some _ (Heap.get?_push_of_some _ (Heap.get?_push_of_some _ (Heap.get?_push_of_some _ (Heap.get?_push_of_some _ x))))⟩
end
end ZT
namespace L2
open PySem PySem.Spec PyProof.Rows PySem.Builtin ZT
section
variable{X:Cx}
noncomputable def acJ(K:PySem.W.Frag)(ta:TA):TI:=fun σ H R=>ta σ H fun vs H1=>∃a1 a2,vs=[.ref a1,.ref a2]∧(∃xs,jY K H1 a1 xs)∧(∃ys,jY K H1 a2 ys)∧R (Z8 K a1 a2) H1
theorem Pb{elts:List Expr}{k:Nat}{tp:Pos}{a b:Expr}{ta:TA}{p pos:Pos}(hg:Gl X "zip")(hm:X.mg "zip" = none)(ha:PA X [a,b] ta)(hs:starEach [a,b] X.env=(false,eval a X.env)::starEach [b] X.env:=by rfl)(hs2:starEach [b] X.env=[(false,eval b X.env)]:=by rfl):PI X (.Tuple elts k tp) (.Call (.Name "zip" p) [a,b] [] pos) (acJ X.K ta):=by
 intro pins s σ H R I h
 refine Call_ (uT I hg hm PyProof.Rows.boot_zip (PyProof.Rows.callWith_type1 (gw (ha pos pins s σ H _ I h) fun us s1 ⟨vs,H1,I1,r1,q1⟩=>?_) hs (by rw[hs2];rfl)))
 obtain⟨a1,a2,e,⟨xs,hx⟩,⟨ys,hy⟩,q⟩:=q1
 subst e
 cases r1 with
 | cons r rr=>
  cases rr with
  | cons r' rr'=>
   cases rr'
   cases r
   cases r'
   obtain⟨u1,ru1,p1,z1⟩:=I1.list hx
   obtain⟨u2,ru2,p2,z2⟩:=I1.list hy
   have lt1:a1<s1.heap.objs.size:=by obtain⟨_,e,_⟩:=p1.isList;exact Heap.lt_size e
   have Sy:a2<s1.heap.objs.size:=by obtain⟨_,e,_⟩:=p2.isList;exact Heap.lt_size e
   refine UT p1.isList p2.isList fun g hz hTI hTO i1 i2 hsz hk=>?_
   refine wpAny_pyIter_zip hz ?_
   have I2:Inv X pins σ H1 { s1 with heap:=g }:=I1.kept (t':=s1.toks) hk
   have own:∀b,s1.heap.objs.size≤b→qp X pins H1 b:=fun b hb=>I1.Lp hb (I1.hok.fresh hb)
   generalize hn:s1.heap.objs.size=n at *
   have ne:∀{c d:Nat},c<d→(c:Addr)≠d:=fun h e=>Nat.lt_irrefl _ (by subst e;exact h)
   have ne':∀{c d:Nat},d<c→(c:Addr)≠d:=fun h e=>Nat.lt_irrefl _ (by subst e;exact h)
   have D:Apz (n+4) (n+2) (n+3) n (n+1) a1 a2:={
    t1:=ne (by omega),t2:=ne (by omega),t3:=ne (by omega),t4:=ne (by omega)
    b1:=by simp only[List.mem_cons,List.not_mem_nil,or_false,not_or];exact⟨ne' (by omega),ne' (Nat.lt_of_lt_of_le lt1 (by omega))⟩
    b2:=by simp only[List.mem_cons,List.not_mem_nil,or_false,not_or];exact⟨ne' (by omega),ne' (Nat.lt_of_lt_of_le Sy (by omega))⟩
    b3:=by simp only[List.mem_cons,List.not_mem_nil,or_false,not_or];exact⟨ne' (by omega),ne' (Nat.lt_of_lt_of_le lt1 (by omega))⟩
    b4:=by simp only[List.mem_cons,List.not_mem_nil,or_false,not_or];exact⟨ne' (by omega),ne' (Nat.lt_of_lt_of_le Sy (by omega))⟩
    b5:=by simp only[List.mem_cons,List.not_mem_nil,or_false,not_or];exact⟨ne' (by omega),ne' (Nat.lt_of_lt_of_le lt1 (by omega))⟩
    b6:=by simp only[List.mem_cons,List.not_mem_nil,or_false,not_or];exact⟨ne' (by omega),ne' (Nat.lt_of_lt_of_le Sy (by omega))⟩
    b7:=by simp only[List.mem_cons,List.not_mem_nil,or_false,not_or];exact⟨ne' (by omega),ne' (Nat.lt_of_lt_of_le lt1 (by omega))⟩
    b8:=by simp only[List.mem_cons,List.not_mem_nil,or_false,not_or];exact⟨ne (by omega),ne' Sy⟩
    c1:=ne lt1,c2:=ne (Nat.lt_of_lt_of_le Sy (by omega)) }
   refine⟨n+4,[n+4,n+2,n+3,n,n+1],_,_,H1,rfl,I2,JL _ _ _ _ _ a1 a2 D,⟨hz,hTI,⟨_,_,hTO⟩,i1,i2⟩,fun b hb=>own b ?_,q⟩
   simp only[List.mem_cons,List.not_mem_nil,or_false] at hb
   rcases hb with rfl|rfl|rfl|rfl|rfl
   ·exact Nat.le_add_right _ _
   ·exact Nat.le_add_right _ _
   ·exact Nat.le_add_right _ _
   ·exact Nat.le_refl _
   ·exact Nat.le_add_right _ _
end
end L2
namespace Ev
open PySem PySem.Spec PyProof.Rows L2 PySem.Builtin
section
variable{X:Cx}{C:Cfg}{pos:Pos}{e e2:Expr}
noncomputable def zL(a:cL):cL:=fun env=>bindR (a env) fun ds aG=>match ds with
 | [.lst x,.lst y]=>.ok (GF x y) aG
 | _=>.stuck
theorem FW{elts:List Expr}{k:Nat}{tp p:Pos}{ea:cL}(G:Good X C)(hm:X.mg "zip" = none)(ha:Dg X C [e,e2] ea)(hg:Gl X "zip":=by rfl)(hs:starEach [e,e2] X.env=(false,eval e X.env)::starEach [e2] X.env:=by rfl)(hs2:starEach [e2] X.env=[(false,eval e2 X.env)]:=by rfl):GC X C (.Tuple elts k tp) (.Call (.Name "zip" p) [e,e2] [] pos) (zL ea):=by
 have h:=Pb (elts:=elts) (k:=k) (tp:=tp) (p:=p) (pos:=pos) hg hm ha hs hs2
 rw[G.K] at h
 refine h.imp fun σ H R hq=>?_
 obtain⟨Pr,F,env,env',ds,r,e,q⟩:=hq
 obtain⟨as,aG,e1,e2⟩:=aR e
 refine⟨Pr,F,env,aG,as,r,e1,fun vs H1 F1 r1 s1 p1=>?_⟩
 split at e2
 ·rename_i xs ys
  cases e2
  obtain⟨v,w,rfl,p2,v2,w2,rfl,p3,p4⟩:=p1
  cases p4
  obtain⟨z1,a1,us,rfl,h1,h2⟩:=p2
  obtain⟨z2,a2,ws,rfl,h3,h4⟩:=p3
  have l1:=h2.length
  have l2:=h4.length
  refine⟨a1,a2,rfl,⟨us,jY.of (r1.fr _ _ h1)⟩,⟨ws,jY.of (r1.fr _ _ h3)⟩,q _ H1 F1 r1 s1 fun i H2 s2=>⟨fun _ ei=>⟨us,ws,jY.of (s2 _ _ h1),jY.of (s2 _ _ h3),?_⟩,fun d hd=>?_⟩⟩
  ·have:(GF xs ys).length=min xs.length ys.length:=by unfold GF;rw[List.length_map,List.length_zip]
   omega
  ·unfold GF at hd
   rw[List.getElem?_map] at hd
   obtain⟨⟨c,j⟩,hc,rfl⟩:=Option.map_eq_some_iff.mp hd
   obtain⟨g1,g2⟩:=List.getElem?_zip_eq_some.mp hc
   obtain⟨v1,k1,k2⟩:=Fp h2 g1
   obtain⟨v2,k3,k4⟩:=Fp h4 g2
   refine⟨⟨us,ws,v1,v2,jY.of (s2 _ _ h1),jY.of (s2 _ _ h3),k1,k3⟩,fun y H3 hy=>.inr ?_⟩
   obtain⟨p,x',y',m1,m2,m3,rfl,rfl⟩:=hy
   have n1:=m1 us (jY.of (s2 _ _ h1))
   have n2:=m2 ws (jY.of (s2 _ _ h3))
   rw[k1] at n1
   rw[k3] at n2
   cases n1
   cases n2
   exact⟨p,_,_,m3,rfl,rfl,rfl,by show 2≤sizeLine;decide,_,_,rfl,k2,_,_,rfl,k4,rfl⟩
 ·cases e2
end
end Ev
namespace Ev
open PySem PySem.Spec PyProof.Rows L2 PySem.Builtin
namespace S
section
variable{X:Cx}{C:Cfg}{pos:Pos}{e:Expr}
theorem Ga{elts:List Expr}{k:Nat}{tp p:Pos}{ea:cL}(G:Good X C)(hm:X.mg "enumerate" = none)(ha:N8 X C [e] ea)(hg:Gl X "enumerate":=by rfl)(hs:starEach [e] X.env=[(false,eval e X.env)]:=by rfl):Vf X C (.Tuple elts k tp) (.Call (.Name "enumerate" p) [e] [] pos) (zM ea):=⟨Ev.Ga G hm ha.u hg hs⟩
end
section
variable{X:Cx}{C:Cfg}{pos p p2 pos2:Pos}{e:Expr}{a:Ev}
theorem Kz(G:Good X C)(h1:X.mg "list" = none)(h2:X.mg "range" = none)(ha:SX X C e a)(g1:Gl X "list":=by rfl)(g2:Gl X "range":=by rfl)(he:starEach [e] X.env=(false,eval e X.env)::starEach [] X.env:=by rfl)(he2:starEach [.Call (.Name "range" p2) [e] [] pos2] X.env=(false,eval (.Call (.Name "range" p2) [e] [] pos2) X.env)::starEach [] X.env:=by rfl):Vr X C (.Call (.Name "list" p) [.Call (.Name "range" p2) [e] [] pos2] [] pos) (oA DQ a):=⟨Ev.Kz G h1 h2 ha.u g1 g2 he he2⟩
end
section
variable{X:Cx}{C:Cfg}{pos:Pos}{e e2:Expr}
theorem FW{elts:List Expr}{k:Nat}{tp p:Pos}{ea:cL}(G:Good X C)(hm:X.mg "zip" = none)(ha:N8 X C [e,e2] ea)(hg:Gl X "zip":=by rfl)(hs:starEach [e,e2] X.env=(false,eval e X.env)::starEach [e2] X.env:=by rfl)(hs2:starEach [e2] X.env=[(false,eval e2 X.env)]:=by rfl):Vf X C (.Tuple elts k tp) (.Call (.Name "zip" p) [e,e2] [] pos) (zL ea):=⟨Ev.FW G hm ha.u hg hs hs2⟩
end
end S
end Ev
namespace Ev
open PySem L2
section
variable{α β:Type}{g g2:GV}{wI:cL}{c:dG}{e:Ev}(enc:α→D)(ea:α→Env)(l2:α→List β)(CQ:α→β→D)(eb:α→β→Env)(p:α→β→Bool)(out:α→β→D)(env:Env)(m k:Nat)
theorem ahm(a:α)(hc:∀b∈l2 a,(eb a b).length=k∧(∀v:Env,v.length=k→g2 (CQ a b) (env++(ea a++v))=some (env++(ea a++eb a b)))∧c (env++(ea a++eb a b)) = .ok (p a b) (env++(ea a++eb a b))∧(p a b=true→e (env++(ea a++eb a b)) = .ok (out a b) (env++(ea a++eb a b))))(v:Env)(hv:v.length=k) :
  ∃v',v'.length=k∧wH g2 c e ((l2 a).map (CQ a)) (env++(ea a++v)) = .ok (((l2 a).filter (p a)).map (out a)) (env++(ea a++v')):=by
 have:=SM (g:=g2) (c:=c) (e:=e) (CQ a) (eb a) (p a) (out a) (env++ea a) k (l2 a) v hv (fun b hb=>by
  obtain⟨h1,h2,h3,h4⟩:=hc b hb
  simp only[List.append_assoc]
  exact⟨h1,h2,h3,h4⟩)
 simpa only[List.append_assoc] using this
theorem SN:∀(l:List α),(∀a∈l,(ea a).length=m∧(∀u v:Env,u.length=m→v.length=k→g (enc a) (env++(u++v))=some (env++(ea a++v)))∧(∀v:Env,v.length=k→wI (env++(ea a++v)) = .ok ((l2 a).map (CQ a)) (env++(ea a++v)))∧
   ∀b∈l2 a,(eb a b).length=k∧(∀v:Env,v.length=k→g2 (CQ a b) (env++(ea a++v))=some (env++(ea a++eb a b)))∧c (env++(ea a++eb a b)) = .ok (p a b) (env++(ea a++eb a b))∧(p a b=true→e (env++(ea a++eb a b)) = .ok (out a b) (env++(ea a++eb a b))))→
  ∀(u v:Env),u.length=m→v.length=k→∃u' v',u'.length=m∧v'.length=k∧KQ g wI g2 c e (l.map enc) (env++(u++v)) = .ok (l.flatMap fun a=>((l2 a).filter (p a)).map (out a)) (env++(u'++v'))
 | [],_,u,v,hu,hv=>⟨u,v,hu,hv,rfl⟩
 | a::l,h,u,v,hu,hv=>by
  obtain⟨h1,h2,h3,h4⟩:=h a List.mem_cons_self
  obtain⟨v1,hv1,e1⟩:=ahm (g2:=g2) (c:=c) (e:=e) ea l2 CQ eb p out env k a h4 v hv
  obtain⟨u',v',hu',hv',e2⟩:=SN l (fun a ha=>h a (List.mem_cons_of_mem _ ha)) (ea a) v1 h1 hv1
  refine⟨u',v',hu',hv',?_⟩
  rw[List.map_cons]
  unfold KQ
  rw[h2 u v hu hv]
  show bindR (wI (env++(ea a++v))) _=_
  rw[h3 v hv,bR,e1,bR,e2,bR,List.flatMap_cons]
end
theorem Nr{α β:Type}{lo n:Nat}{it wI:cL}{g g2:GV}{c:dG}{e:Ev}{env aG:Env}(m k:Nat)(l:List α)(enc:α→D)(ea:α→Env)(l2:α→List β)(CQ:α→β→D)(eb:α→β→Env)(p:α→β→Bool)(out:α→β→D)
  (hit:it env = .ok (l.map enc) aG) (hlo:aG.length=lo) (hn:n=lo+(m+k))
  (h:∀a∈l,(ea a).length=m∧(∀u v:Env,u.length=m→v.length=k→g (enc a) (aG++(u++v))=some (aG++(ea a++v)))∧(∀v:Env,v.length=k→wI (aG++(ea a++v)) = .ok ((l2 a).map (CQ a)) (aG++(ea a++v)))∧
   ∀b∈l2 a,(eb a b).length=k∧(∀v:Env,v.length=k→g2 (CQ a b) (aG++(ea a++v))=some (aG++(ea a++eb a b)))∧c (aG++(ea a++eb a b)) = .ok (p a b) (aG++(ea a++eb a b))∧(p a b=true→e (aG++(ea a++eb a b)) = .ok (out a b) (aG++(ea a++eb a b))))
  (hz:(l.flatMap fun a=>((l2 a).filter (p a)).map (out a)).length≤sizeLine):zb lo n it g wI g2 c e env = .ok (.lst (l.flatMap fun a=>((l2 a).filter (p a)).map (out a))) aG:=by
 obtain⟨u',v',hu',hv',e1⟩:=SN (g:=g) (g2:=g2) (wI:=wI) (c:=c) (e:=e) enc ea l2 CQ eb p out aG m k l h (List.replicate m none) (List.replicate k none) List.length_replicate List.length_replicate
 have er:List.replicate m (none:Option (Bool×D))++List.replicate k none=List.replicate (n - lo) none:=by
  rw[hn,Nat.add_sub_cancel_left,List.replicate_append_replicate]
 rw[er] at e1
 unfold zb
 rw[hit]
 show(if aG.length=lo then _ else _)=_
 rw[if_pos hlo,e1,bR,if_pos hz,←hlo,List.take_left]
theorem Ie(i:Nat):∀r:List Nat,Nf (.int (i:Int)) (r.map fun(k:Nat)=>D.int (k:Int))=some (decide (i∈r))
 | []=>rfl
 | k::r=>by
  rw[List.map_cons]
  unfold Nf
  rw[Ie i r]
  show some (((k:Int) == (i:Int))||decide (i∈r))=_
  congr 1
  rw[Bool.eq_iff_iff]
  simp only[Bool.or_eq_true,beq_iff_eq,decide_eq_true_eq,List.mem_cons]
  constructor
  ·rintro(h|h)
   ·exact .inl (by omega)
   ·exact .inr h
  ·rintro(h|h)
   ·exact .inl (by omega)
   ·exact .inr h
theorem oV(i:Nat)(r:List Nat):pG (.int (i:Int)) (.tup (r.map fun(k:Nat)=>D.int (k:Int)))=some (.bl (!decide (i∈r))):=by
 unfold pG zK
 show(Option.map (fun b=>D.bl (!b)) (Nf (.int (i:Int)) (r.map fun(k:Nat)=>D.int (k:Int)))).or _=_
 rw[Ie]
 rfl
theorem IW(n:Nat):∀a b:List (List Nat),wJ (bJ (n+1)) (a.map .str) (b.map .str)=some (a == b)
 | [],[]=>rfl
 | [],_::_=>rfl
 | _::_,[]=>rfl
 | x::a,y::b=>by
  rw[List.map_cons,List.map_cons]
  unfold wJ
  rw[IW n a b]
  rfl
theorem T9(a b:List (List Nat)):mJ (.lst (a.map .str)) (.lst (b.map .str))=some (.bl (a == b)):=by
 unfold mJ
 have:bJ 60 (.lst (a.map .str)) (.lst (b.map .str))=wJ (bJ 59) (a.map .str) (b.map .str):=rfl
 rw[this,IW]
 rfl
theorem Ja(n:Nat):∀a b:List Nat,wJ (bJ (n+1)) (a.map fun(k:Nat)=>D.int (k:Int)) (b.map fun(k:Nat)=>D.int (k:Int))=some (a == b)
 | [],[]=>rfl
 | [],_::_=>rfl
 | _::_,[]=>rfl
 | x::a,y::b=>by
  rw[List.map_cons,List.map_cons]
  unfold wJ
  rw[Ja n a b]
  show some (((x:Int) == (y:Int))&&(a == b))=some ((x == y)&&(a == b))
  congr 2
  rw[Bool.eq_iff_iff]
  simp only[beq_iff_eq]
  omega
noncomputable def aM(r:List Nat):D:=.tup (r.map fun(k:Nat)=>D.int (k:Int))
noncomputable def cY:Option (List Nat)→D
 | none=>.non
 | some r=>aM r
theorem adT(n:Nat)(a b:Option (List Nat)):bJ (n+2) (cY a) (cY b)=some (a == b):=by
 cases a with
 | none=>cases b<;>rfl
 | some a=>
  cases b with
  | none=>rfl
  | some b=>
   show wJ (bJ (n+1)) _ _=_
   rw[Ja]
   rfl
theorem ac0(a b:Option (List Nat)):xD (cY a) (cY b)=some (.bl (!(a == b))):=by
 unfold xD
 rw[adT 58]
 rfl
noncomputable def ah7(ds:List D)(e:Env):R (List D):=match ds with
 | [.str x]=>.ok (qm x) e
 | [.tup xs]=>.ok (Bx xs) e
 | _=>.stuck
theorem aci(xs:List D)(e:Env):ah7 [.tup xs] e = .ok (Bx xs) e:=nr rfl
theorem Qj(a:cL)(env:Env):zM a env=bindR (a env) ah7:=nr rfl
noncomputable def ahq(ds:List D)(e:Env):R (List D):=match ds with
 | [.lst x,.lst y]=>.ok (GF x y) e
 | _=>.stuck
theorem abN(x y:List D)(e:Env):ahq [.lst x,.lst y] e = .ok (GF x y) e:=nr rfl
theorem Qh(a:cL)(env:Env):zL a env=bindR (a env) ahq:=nr rfl
theorem acZ:qi (.int 1)=some (.int (-1)):=nr rfl
end Ev
namespace yR
open Ev
noncomputable def pM:bQ:=bh (Iw (au Vm 0 (aU .non)) (au gIn 1 (aY 0)))
noncomputable def dJ:List D→Option D:=cP 2 pM
noncomputable def oG:bQ:=aC (aL (aq 0) (cV 4 (aQ (ak 1) (aQ (ak 2) (aQ (ak 3) (aQ (ak 4) (dh))))))) (bh (dm (aa (aq 1) (aa (aq 2) (aa (aq 4) (aa (aq 3) (ao)))))))
noncomputable def qj:List D→Option D:=cP 5 oG
noncomputable def lM:bQ:=bh (aK mJ (aK cB (aK cB (au cB 0 (aU (.int 1))) (aU (.int 0))) (aU (.int 0))) (aU (.str [])))
noncomputable def lJ:List D→Option D:=cP 1 lM
noncomputable def yj:bQ:=aC (cT (cz (cX (az dJ (aa (aq 4) (aa (aq 8) (ao))))) (cX (az dJ (aa (aq 5) (aa (aq 9) (ao)))))) (gq 7 (aq 6)) (bI)) (aC (gq 7 (aq 9)) (aL (aq 9) (ak 8)))
noncomputable def gk:bQ:=aC (aL (aq 0) (cV 4 (aQ (ak 2) (aQ (ak 3) (aQ (ak 4) (aQ (ak 5) (dh))))))) (aC (aL (aK cB (au cB 3 (aU (.int 0))) (aU (.int 1))) (ak 6)) (aC (dB 7 (cG (ao))) (aC (aL (aU (.str [35])) (ak 8)) (aC (eO (fG (au bT 1 (aU (.str [35])))) (ak 9) (yj)) (bh (aK oh (aU (.str [])) (vJ (aq 7) (jV) (uJ (oA qi (aU (.int 1)))))))))))
noncomputable def f9:List D→Option D:=cP 10 gk
noncomputable def xf:bQ:=aC (aL (aq 11) (ak 12)) (aC (cT (cz (cX (au ou 11 (aY 6))) (cz (cX (az dJ (aa (aq 4) (aa (aq 9) (ao))))) (cX (az dJ (aa (aq 5) (aa (au cB 7 (au bT 10 (aU (.int 1)))) (ao))))))) (aL (au iY 6 (aY 11)) (ak 12)) (bI)) (aC (gq 8 (aq 12)) (cT (cX (au mJ 2 (aU (.str [111,110,99,101])))) (aL (aq 11) (ak 9)) (cT (cX (au xD 12 (aU (.str [])))) (aL (aq 12) (ak 9)) (bI)))))
noncomputable def eZ:bQ:=aC (aL (aq 0) (cV 4 (aQ (ak 2) (aQ (ak 3) (aQ (ak 4) (aQ (ak 5) (dh))))))) (aC (aL (az rH (aa (aY 3) ao)) (ak 6)) (aC (aL (au bT 1 (aU (.str [35]))) (ak 7)) (aC (dB 8 (cG (ao))) (aC (aL (aU (.str [35])) (ak 9)) (aC (eO (Gh (aa (aq 1) (ao))) (cV 2 (aQ (ak 10) (aQ (ak 11) (dh)))) (xf)) (bh (aK oh (aU (.str [])) (aY 8))))))))
noncomputable def eY:List D→Option D:=cP 13 eZ
noncomputable def gJ:bQ:=aC (cT (cX (az lJ (aa (aq 0) (ao)))) (bh (az f9 (aa (aq 0) (aa (aq 1) (ao))))) (bI)) (bh (az eY (aa (aq 0) (aa (aq 1) (ao)))))
noncomputable def fV:List D→Option D:=cP 2 gJ
noncomputable def jX:bQ:=aC (cT (cX (au mJ 0 (aU (.str [114,105,103,104,116])))) (bh (ql (az fV (aa (az qj (aa (aq 1) (ao))) (aa (ql (aq 2)) (ao)))))) (bI)) (bh (az fV (aa (aq 1) (aa (aq 2) (ao)))))
noncomputable def dR:List D→Option D:=cP 3 jX
noncomputable def PK:bQ:=gq 4 (az dR (aa (aq 2) (aa (aq 5) (aa (au cB 4 (oA qi (aU (.int 1)))) (ao)))))
noncomputable def Gr:bQ:=aC (aL (aq 0) (cV 2 (aQ (ak 2) (aQ (ak 3) (dh))))) (aC (dB 4 (cG (aa (aq 1) (ao)))) (aC (eO (fG (aq 3)) (ak 5) (PK)) (bh (az du (aa (aY 4) ao)))))
noncomputable def yE:List D→Option D:=cP 6 Gr
noncomputable def Mf:bQ:=bh (aK cB (az yE (aa (aq 0) (aa (aq 1) (ao)))) (oA qi (aU (.int 1))))
noncomputable def mZ:List D→Option D:=cP 2 Mf
noncomputable def jC:Ev:=zb 3 5 (fG (aq 1)) (ak 3) (d9 (aa (aq 0) (ao))) (ak 4) (cX (au pG 4 (aY 3))) (au bT 3 (dm (aa (aq 4) (ao))))
noncomputable def eV:bQ:=dB 1 (jC)
noncomputable def rK:bQ:=aC (aL (cG (aa (dm (ao)) (ao))) (ak 1)) (aC (eO (d9 (aa (aq 0) (ao))) (ak 2) (eV)) (bh (aq 1)))
noncomputable def ig:List D→Option D:=cP 3 rK
noncomputable def yh:Ev:=fD 4 5 (fG (aq 1)) (ak 4) (cD) (au cB 3 (aY 4))
noncomputable def U7:bQ:=aC (aL (aq 0) (cV 2 (aQ (ak 2) (aQ (ak 3) (dh))))) (bh (dm (aa (aq 2) (aa (az du (aa (yh) ao)) (ao)))))
noncomputable def Br:List D→Option D:=cP 4 U7
noncomputable def mQ:Ev:=fD 2 4 (fG (aq 1)) (cV 2 (aQ (ak 2) (aQ (ak 3) (dh)))) (cD) (aK mJ (az mZ (aa (aq 0) (aa (aq 2) (ao)))) (aY 3))
noncomputable def xA:bQ:=bh (mQ)
noncomputable def kJ:List D→Option D:=cP 2 xA
noncomputable def mU:Ev:=fD 3 4 (fG (aq 1)) (ak 3) (cD) (au cB 2 (aY 3))
noncomputable def mR:Ev:=fD 2 3 (fG (aq 0)) (ak 2) (cD) (az Bl (aa (mU) ao))
noncomputable def xB:bQ:=bh (IK (az Qe (aa (mR) ao)))
noncomputable def kO:List D→Option D:=cP 2 xB
noncomputable def qF:Ev:=fD 5 6 (fG (aq 2)) (ak 5) (cX (au xD 5 (aY 3))) (aq 5)
noncomputable def kE:bQ:=aC (dB 4 (qF)) (cT (cX (az kO (aa (aq 0) (aa (aq 4) (ao))))) (aL (aq 4) (ak 2)) (bI))
noncomputable def Eh:bQ:=aC (aL (oA DQ (aq 1)) (ak 2)) (aC (eO (d9 (aa (aq 1) (ao))) (ak 3) (kE)) (bh (az du (aa (aY 2) ao))))
noncomputable def nM:List D→Option D:=cP 5 Eh
noncomputable def qD:Ev:=fD 5 6 (fG (aq 2)) (ak 5) (cD) (az kJ (aa (az Br (aa (aq 0) (aa (aq 5) (ao)))) (aa (aq 1) (ao))))
noncomputable def nq:Ev:=fD 5 7 (zL (aa (aq 2) (aa (aq 3) (ao)))) (cV 2 (aQ (ak 5) (aQ (ak 6) (dh)))) (cX (az Bl (aa (aY 6) ao))) (aq 5)
noncomputable def Eg:bQ:=aC (aL (az ig (aa (az dM (aa (au cB 0 (aU (.int 1))) ao)) (ao))) (ak 2)) (aC (dB 3 (qD)) (aC (dB 4 (nq)) (aC (cT (cX (au xD 4 (cG (ao)))) (bh (dm (aa (aU (.str [116,111,108,100])) (aa (az du (aa (aY 4) ao)) (ao))))) (bI)) (bh (dm (aa (aU (.str [113,117,97,114,114,101,108])) (aa (az nM (aa (aq 3) (aa (az dM (aa (aY 1) ao)) (ao)))) (ao))))))))
noncomputable def lH:List D→Option D:=cP 5 Eg
noncomputable def sW:Ev:=fD 7 9 (fG (aq 2)) (cV 2 (aQ (ak 7) (aQ (ak 8) (dh)))) (cD) (aq 8)
noncomputable def sV:Ev:=fD 7 9 (fG (aq 2)) (cV 2 (aQ (ak 7) (aQ (ak 8) (dh)))) (cD) (aq 7)
noncomputable def jR:bQ:=cT (cX (au mJ 6 (aY 3))) (bh (aq 5)) (bI)
noncomputable def sU:Ev:=fD 11 12 (fG (aq 8)) (ak 11) (cD) (az dR (aa (aq 0) (aa (aq 10) (aa (aq 11) (ao)))))
noncomputable def sS:Ev:=zb 7 11 (fG (aq 4)) (cV 2 (aQ (ak 7) (aQ (ak 8) (dh)))) (zM (aa (aq 1) (ao))) (cV 2 (aQ (ak 9) (aQ (ak 10) (dh)))) (cX (au pG 9 (aY 7))) (dm (aa (au bT 7 (dm (aa (aq 9) (ao)))) (aa (sU) (ao))))
noncomputable def rP:bQ:=aC (eO (fG (aq 4)) (cV 2 (aQ (ak 5) (aQ (ak 6) (dh)))) (jR)) (dB 4 (sS))
noncomputable def Jo:bQ:=aC (dB 3 (sW)) (aC (aL (cG (aa (dm (aa (dm (ao)) (aa (sV) (ao)))) (ao))) (ak 4)) (aC (j5 (cX (au xD 4 (cG (ao)))) (rP) 20) (bh (aU .non))))
noncomputable def fW:List D→Option D:=cP 7 Jo
noncomputable def o4:bQ:=bh (aK ac1 (au vG 0 (aU (.int 262406895267124108351839057402211873468251940277165213587343))) (aK Lk (aU (.int 10)) (aU (.int 60))))
noncomputable def gG:List D→Option D:=cP 1 o4
noncomputable def CN:bQ:=aL (aK bT (au vG 2 (aK Lk (aU (.int 10)) (aU (.int 60)))) (az gG (aa (aK cB (aK bT (vJ (aq 0) (uJ (aq 3)) (uJ (au bT 3 (aU (.int 1))))) (cG (aa (aK bT (aK vG (aU (.int 7919)) (aY 3)) (aU (.int 61))) (ao)))) (aU (.int 0))) (ao)))) (ak 2)
noncomputable def lN:bQ:=aC (aL (aU (.int 0)) (ak 2)) (aC (eO (fG (cG (aa (au bT 1 (aU (.int 1))) (aa (aq 1) (ao))))) (ak 3) (CN)) (rR (cG (aa (aq 2) (ao)))))
noncomputable def di:List D→Option D:=runN 4 lN
noncomputable def gm:bQ:=aC (aL (az nu (aa (au cB 0 (aU (.int 0))) (aa (aY 1) ao))) (cV 2 (aQ (Li 0 (aU (.int 0))) (aQ (ak 2) (dh))))) (bh (aq 2))
noncomputable def aF:List D→Option (D×D):=gV 3 gm
noncomputable def Ba:Ev:=fD 7 8 (d9 (aa (aU (.int 5)) (ao))) (ak 7) (cX (aK mJ (aK Im (au Il 5 (aY 7)) (aU (.int 1))) (aU (.int 1)))) (au cB 2 (aY 7))
noncomputable def Bd:bQ:=aC (aL (cJ aF 0 (aa (aU (.int 32)) (ao))) (ak 5)) (aC (aL (az iH (aa (Ba) ao)) (ak 6)) (gq 3 (dm (aa (aq 4) (aa (az du (aa (vJ (aq 6) (jV) (uJ (aU (.int 4)))) ao)) (ao))))))
noncomputable def oY:bQ:=aC (aL (aK cB (cG (aa (aU (.str [97])) (aa (aU (.str [97,98])) (aa (aU (.str [97,98])) (aa (aU (.str [97,98,99])) (aa (aU (.str [97,101,112,116])) (aa (aU (.str [109,110,122])) (ao)))))))) (cJ aF 0 (aa (aU (.int 6)) (ao)))) (ak 1)) (aC (aL (cG (aa (aU (.str [115,116,111,112])) (aa (aU (.str [115,116,111,112,115])) (aa (aU (.str [115])) (aa (aU (.str [111,112,101,110])) (aa (aU (.str [97,98,99,100,101,102,103,104])) (ao))))))) (ak 2)) (aC (dB 3 (cG (ao))) (aC (eO (fG (aq 1)) (ak 4) (Bd)) (bh (az du (aa (aY 3) ao))))))
noncomputable def gF:List D→Option (D×D):=gV 7 oY
noncomputable def zx:Ev:=fD 1 3 (fG (aq 0)) (cV 2 (aQ (ak 1) (aQ (ak 2) (dh)))) (cD) (aq 1)
noncomputable def rm:bQ:=bh (aK oh (aU (.str [])) (zx))
noncomputable def fP:List D→Option D:=cP 1 rm
noncomputable def Bb:Ev:=fD 4 5 (d9 (aa (az dM (aa (aY 3) ao)) (ao))) (ak 4) (cX (aK mJ (aK Im (au Il 2 (aY 4)) (aU (.int 1))) (aU (.int 1)))) (au cB 3 (aY 4))
noncomputable def gH:bQ:=aC (cT (cX (aK mJ (cJ aF 0 (aa (aU (.int 2)) (ao))) (aU (.int 0)))) (bh (aU .non)) (bI)) (aC (aL (aK bT (aU (.int 1)) (cJ aF 0 (aa (aK tQ (aK Xx (aU (.int 2)) (az dM (aa (aY 1) ao))) (aU (.int 1))) (ao)))) (ak 2)) (aC (aL (aK bT (aU (.str [35])) (aY 1)) (ak 3)) (bh (az du (aa (Bb) ao)))))
noncomputable def fQ:List D→Option (D×D):=gV 4 gH
noncomputable def yg:Ev:=fD 6 7 (fG (aK bT (az uH (aa (aY 1) ao)) (cG (aa (aU (.str [])) (ao))))) (ak 6) (cX (au xD 6 (aY 4))) (aq 6)
noncomputable def yl:bQ:=aC (aL (au cB 1 (cJ aF 0 (aa (az dM (aa (aY 1) ao)) (ao)))) (ak 4)) (aC (dB 5 (yg)) (o5 2 (aq 4) (au cB 5 (cJ aF 0 (aa (az dM (aa (aY 5) ao)) (ao))))))
noncomputable def yf:Ev:=fD 6 7 (fG (az iH (aa (aY 2) ao))) (ak 6) (cD) (dm (aa (aq 6) (aa (au iY 2 (aY 6)) (ao))))
noncomputable def eE:bQ:=aC (cT (cX (aK mJ (cJ aF 0 (aa (aU (.int 5)) (ao))) (aU (.int 0)))) (bh (dm (aa (dm (aa (aU (.str [])) (aa (au cB 1 (cJ aF 0 (aa (az dM (aa (aY 1) ao)) (ao)))) (ao)))) (ao)))) (bI)) (aC (dB 2 (Bt)) (aC (eO (d9 (aa (aK bT (aU (.int 1)) (cJ aF 0 (aa (aU (.int 3)) (ao)))) (ao))) (ak 3) (yl)) (bh (az du (aa (yf) ao)))))
noncomputable def gh:List D→Option (D×D):=gV 6 eE
noncomputable def jF:bQ:=aC (aL (aK cB (cG (aa (aU (.str [111,110,99,101])) (aa (aU (.str [97,108,111,110,103])) (ao)))) (cJ aF 0 (aa (aU (.int 2)) (ao)))) (ak 2)) (aC (aL (cJ gh 0 (aa (aq 1) (ao))) (ak 3)) (bh (dm (aa (aq 2) (aa (aq 3) (aa (cJ fQ 0 (aa (aq 1) (ao))) (aa (cJ fQ 0 (aa (aq 1) (ao))) (ao))))))))
noncomputable def dD:List D→Option (D×D):=gV 4 jF
noncomputable def Bc:Ev:=fD 4 5 (d9 (aa (cJ aF 0 (aa (au bT 2 (aU (.int 1))) (ao))) (ao))) (ak 4) (cD) (cJ dD 0 (aa (aq 1) (ao)))
noncomputable def oZ:bQ:=aC (aL (aK cB (cG (aa (aU (.str [108,101,102,116])) (aa (aU (.str [114,105,103,104,116])) (ao)))) (cJ aF 0 (aa (aU (.int 2)) (ao)))) (ak 3)) (bh (dm (aa (aq 3) (aa (az du (aa (Bc) ao)) (ao)))))
noncomputable def fU:List D→Option (D×D):=gV 4 oZ
noncomputable def CJ:Ev:=fD 3 4 (d9 (aa (cJ aF 0 (aa (au bT 2 (aU (.int 1))) (ao))) (ao))) (ak 3) (cD) (au cB 1 (cJ aF 0 (aa (az dM (aa (aY 1) ao)) (ao))))
noncomputable def qY:bQ:=bh (aK oh (aU (.str [])) (CJ))
noncomputable def gO:List D→Option (D×D):=gV 3 qY
noncomputable def oH:bQ:=yR.pM
noncomputable def bW:List D→Option D:=cP 2 oH
noncomputable def zy:bQ:=aC (cT (cz (cX (az bW (aa (au cB 0 (aU (.int 2))) (aa (au cB 2 (au tQ 4 (aU (.int 1)))) (ao))))) (cX (az bW (aa (au cB 0 (aU (.int 3))) (aa (au cB 2 (aY 4)) (ao)))))) (aL (au bT 3 (aK cB (aK cB (au cB 0 (aU (.int 1))) (aU (.int 0))) (aU (.int 1)))) (ak 3)) (bI)) (aL (au bT 3 (au cB 2 (aY 4))) (ak 3))
noncomputable def gR:bQ:=aC (aL (aK bT (aK bT (aU (.str [35])) (aY 1)) (aU (.str [35]))) (ak 2)) (aC (aL (aU (.str [])) (ak 3)) (aC (eO (d9 (aa (aU (.int 1)) (aa (az dM (aa (aY 2) ao)) (ao)))) (ak 4) (zy)) (bh (tV (aq 3) (jV) (uJ (oA qi (aU (.int 1))))))))
noncomputable def gP:List D→Option D:=cP 5 gR
noncomputable def ym:bQ:=aC (aL (au cB 7 (au tQ 9 (aU (.int 1)))) (ak 10)) (aC (cT (cX (au mJ 2 (aU (.str [97,108,111,110,103])))) (aL (au cB 8 (oA qi (aU (.int 1)))) (ak 10)) (bI)) (cT (cz (cX (aK ou (au cB 7 (aY 9)) (aY 6))) (cz (cX (az bW (aa (aq 4) (aa (aq 10) (ao))))) (cX (az bW (aa (aq 5) (aa (au cB 7 (au bT 9 (aU (.int 1)))) (ao))))))) (aL (au bT 8 (au iY 6 (au cB 7 (aY 9)))) (ak 8)) (aL (au bT 8 (au cB 7 (aY 9))) (ak 8))))
noncomputable def eF:bQ:=aC (aL (aq 0) (cV 4 (aQ (ak 2) (aQ (ak 3) (aQ (ak 4) (aQ (ak 5) (dh))))))) (aC (cT (cX (aK mJ (aK cB (au cB 3 (aU (.int 0))) (aU (.int 0))) (aU (.str [])))) (bh (az gP (aa (aq 0) (aa (aq 1) (ao))))) (bI)) (aC (aL (az rH (aa (aY 3) ao)) (ak 6)) (aC (aL (aK bT (aK bT (aU (.str [35])) (aY 1)) (aU (.str [35]))) (ak 7)) (aC (aL (aU (.str [35])) (ak 8)) (aC (eO (d9 (aa (aU (.int 1)) (aa (aK tQ (az dM (aa (aY 7) ao)) (aU (.int 1))) (ao)))) (ak 9) (ym)) (bh (tV (aq 8) (uJ (aU (.int 1))) (jV))))))))
noncomputable def cZ:List D→Option D:=cP 11 eF
noncomputable def gQ:bQ:=bh (dm (aa (au cB 0 (aU (.int 0))) (aa (au cB 0 (aU (.int 1))) (aa (au cB 0 (aU (.int 3))) (aa (au cB 0 (aU (.int 2))) (ao))))))
noncomputable def ji:List D→Option D:=cP 1 gQ
noncomputable def eG:bQ:=aC (cT (cX (au mJ 0 (aU (.str [114,105,103,104,116])))) (bh (ql (az cZ (aa (az ji (aa (aq 1) (ao))) (aa (ql (aq 2)) (ao)))))) (bI)) (bh (az cZ (aa (aq 1) (aa (aq 2) (ao)))))
noncomputable def dF:List D→Option D:=cP 3 eG
noncomputable def CK:bQ:=gq 2 (az dF (aa (au cB 0 (aU (.int 0))) (aa (aq 3) (aa (au cB 2 (oA qi (aU (.int 1)))) (ao)))))
noncomputable def qZ:bQ:=aC (dB 2 (cG (aa (aq 1) (ao)))) (aC (eO (fG (au cB 0 (aU (.int 1)))) (ak 3) (CK)) (bh (az du (aa (aY 2) ao))))
noncomputable def jD:List D→Option D:=cP 4 qZ
noncomputable def BR:bQ:=bh (aK cB (az jD (aa (aq 0) (aa (aq 1) (ao)))) (oA qi (aU (.int 1))))
noncomputable def lK:List D→Option D:=cP 2 BR
noncomputable def jB:Ev:=fD 5 6 (d9 (aa (aq 0) (ao))) (ak 5) (cX (au pG 5 (aY 4))) (au bT 4 (dm (aa (aq 5) (ao))))
noncomputable def gM:bQ:=Dl 3 (jB)
noncomputable def eU:bQ:=aC (dB 3 (cG (ao))) (aC (eO (fG (aq 1)) (ak 4) (gM)) (aL (aq 3) (ak 1)))
noncomputable def rJ:bQ:=aC (aL (cG (aa (dm (ao)) (ao))) (ak 1)) (aC (eO (d9 (aa (aq 0) (ao))) (ak 2) (eU)) (bh (aq 1)))
noncomputable def ie:List D→Option D:=cP 5 rJ
noncomputable def o9:Ev:=fD 2 3 (fG (aq 1)) (ak 2) (cD) (aK cB (au cB 0 (aU (.int 1))) (aY 2))
noncomputable def BV:bQ:=bh (dm (aa (au cB 0 (aU (.int 0))) (aa (az du (aa (o9) ao)) (ao))))
noncomputable def gb:List D→Option D:=cP 2 BV
noncomputable def jy:bQ:=aC (dB 11 (az di (aa (aq 0) (aa (aK bT (au bT 1 (aU (.int 2))) (aY 10)) (ao))))) (aC (aL (cJ gO 11 (aa (aq 3) (aa (aU (.int 7)) (ao)))) (ak 12)) (aC (aL (aq 7) (ak 13)) (aC (cT (cX (au mJ 8 (aU (.int 1)))) (aL (au cB 6 (cJ aF 11 (aa (az dM (aa (aY 6) ao)) (ao)))) (ak 13)) (bI)) (aC (aL (az lK (aa (az gb (aa (aq 2) (aa (aq 13) (ao)))) (aa (aq 12) (ao)))) (ak 14)) (aC (cT (cz (cX (au mJ 8 (aU (.int 2)))) (cX (aK mJ (cJ aF 11 (aa (aU (.int 3)) (ao))) (aU (.int 0))))) (aL (Iv (au bT 14 (au cB 3 (cJ aF 11 (aa (az dM (aa (aY 3) ao)) (ao))))) (uJ (cJ aF 11 (aa (aU (.int 2)) (ao)))) (jV)) (ak 14)) (bI)) (gq 9 (dm (aa (aq 12) (aa (tV (aq 14) (jV) (uJ (aU (.int 20)))) (ao))))))))))
noncomputable def BW:bQ:=aC (dB 5 (az di (aa (aq 0) (aa (aq 1) (ao))))) (aC (aL (az ie (aa (az dM (aa (au cB 2 (aU (.int 1))) ao)) (ao))) (ak 6)) (aC (aL (au cB 6 (cJ aF 5 (aa (az dM (aa (aY 6) ao)) (ao)))) (ak 7)) (aC (aL (cJ aF 5 (aa (aU (.int 4)) (ao))) (ak 8)) (aC (dB 9 (cG (ao))) (aC (eO (d9 (aa (aK bT (aU (.int 1)) (cJ aF 5 (aa (aq 4) (ao)))) (ao))) (ak 10) (jy)) (bh (az du (aa (aY 9) ao))))))))
noncomputable def jE:List D→Option D:=cP 15 BW
noncomputable def BP:bQ:=aC (cT (cX (au Vm 0 (aU .non))) (bh (aU (.int 99))) (bI)) (bh (az dM (aa (aY 0) ao)))
noncomputable def cu:List D→Option D:=cP 1 BP
noncomputable def wZ:Ev:=fD 12 14 (fG (aq 6)) (cV 2 (aQ (ak 12) (aQ (ak 13) (dh)))) (cD) (aK mJ (az mZ (aa (aq 9) (aa (aq 12) (ao)))) (aY 13))
noncomputable def Z3:bQ:=aC (dB 1 (az di (aa (aq 0) (aa (aU (.int 0)) (ao))))) (aC (aL (az fP (aa (cJ gF 1 (ao)) (ao))) (ak 2)) (aC (aL (cJ fU 1 (aa (aq 2) (aa (aU (.int 3)) (ao)))) (ak 3)) (aC (aL (aq 3) (cV 2 (aQ (ak 4) (aQ (ak 5) (dh))))) (aC (aL (az jE (aa (aq 0) (aa (aU (.int 2)) (aa (aq 3) (aa (aq 2) (aa (aU (.int 5)) (ao))))))) (ak 6)) (aC (aL (az fW (aa (aq 4) (aa (aq 5) (aa (aq 6) (ao))))) (ak 7)) (aC (aL (az lH (aa (aq 3) (aa (aq 6) (ao)))) (ak 8)) (aC (cT (cz (cX (aK mJ (au cB 8 (aU (.int 0))) (aU (.str [116,111,108,100])))) (cX (au Vm 7 (aU .non)))) (bh (aU (.bl false))) (bI)) (aC (cT (cX (au pH 7 (aU .non))) (aC (aL (az gb (aa (aq 3) (aa (aq 7) (ao)))) (ak 9)) (aC (cT (Bs (cX (az Bl (aa (wZ) ao)))) (bh (aU (.bl false))) (bI)) (aC (cT (cX (aK xD (az cu (aa (az fW (aa (aq 4) (aa (au cB 9 (aU (.int 1))) (aa (aq 6) (ao))))) (ao))) (az dM (aa (aY 7) ao)))) (bh (aU (.bl false))) (bI)) (cT (cz (cX (aK mJ (az dM (aa (aY 7) ao)) (az dM (aa (aY 5) ao)))) (cX (aK xD (au cB 8 (aU (.int 0))) (aU (.str [116,111,108,100]))))) (bh (aU (.bl false))) (bI))))) (bI)) (aC (aL (IV dD (az di (aa (aq 0) (aa (aU (.int 12)) (ao)))) (aa (aq 2) (ao))) (ak 10)) (aC (aL (az fW (aa (aq 4) (aa (au bT 5 (dm (aa (aq 10) (ao)))) (aa (aq 6) (ao))))) (ak 11)) (aC (cT (cX (aK gGt (az cu (aa (aq 11) (ao))) (az cu (aa (aq 7) (ao))))) (bh (aU (.bl false))) (bI)) (aC (cT (cz (cX (au pH 11 (aU .non))) (cz (cX (aK pG (az dM (aa (aY 5) ao)) (aY 11))) (cX (au xD 11 (aY 7))))) (bh (aU (.bl false))) (bI)) (bh (Iw (aK gLt (az dM (aa (aY 6) ao)) (aU (.int 2))) (aK gLe (az cu (aa (az fW (aa (aq 4) (aa (aq 5) (aa (DW (aq 6) (uJ (aU (.int 1))) (jV)) (ao))))) (ao))) (az cu (aa (aq 7) (ao))))))))))))))))))
noncomputable def Iu:List D→Option D:=cP 12 Z3
end yR
namespace yR
open PySem PySem.Spec PyProof.Rows L2 Ev
noncomputable def top(i:Nat):Stmt:=PySem.Challenge.pw_soundrules_k49_whole_fewest_and_orders.main.body.getD i (.Pass ⟨0,0,0,0⟩)
noncomputable abbrev xU:Stmt:=top 2
noncomputable abbrev p7:Stmt:=top 3
noncomputable abbrev nG:Stmt:=top 4
noncomputable abbrev ir:Stmt:=top 6
noncomputable abbrev gD:Stmt:=top 7
noncomputable abbrev jM:Stmt:=top 8
noncomputable abbrev nH:Stmt:=top 9
noncomputable abbrev xQ:Stmt:=top 10
noncomputable abbrev xR:Stmt:=top 11
noncomputable abbrev fK:Stmt:=top 13
noncomputable abbrev xT:Stmt:=top 14
noncomputable abbrev jb:Stmt:=top 16
noncomputable abbrev jf:Stmt:=top 17
noncomputable abbrev nD:Stmt:=top 18
noncomputable abbrev nC:Stmt:=top 19
noncomputable abbrev qb:Stmt:=top 20
noncomputable abbrev jL:Stmt:=top 22
noncomputable abbrev lB:Stmt:=top 23
noncomputable abbrev lr:Stmt:=top 24
noncomputable abbrev jH:Stmt:=top 25
noncomputable abbrev jd:Stmt:=top 26
noncomputable abbrev jJ:Stmt:=top 27
noncomputable abbrev iu:Stmt:=top 28
noncomputable abbrev lA:Stmt:=top 29
noncomputable abbrev jK:Stmt:=top 30
noncomputable abbrev lg:Stmt:=top 31
noncomputable abbrev lE:Stmt:=top 32
noncomputable abbrev je:Stmt:=top 33
noncomputable abbrev iw:Stmt:=top 34
noncomputable abbrev jc:Stmt:=top 35
noncomputable abbrev iy:Stmt:=top 36
noncomputable abbrev lq:Stmt:=top 37
noncomputable abbrev lC:Stmt:=top 38
noncomputable abbrev fJ:Stmt:=top 39
noncomputable abbrev lD:Stmt:=top 40
noncomputable abbrev lF:Stmt:=top 41
noncomputable abbrev lz:Stmt:=top 42
noncomputable abbrev wV:Stmt:=top 43
section
variable{P:Program}{w:World}{K:Fg}{mg:Str→Option Value}{base:Heap}
theorem V3:bC ["signs","sign"] ["signs","sign"] (aD xU):=gU
theorem o7(F:bD K mg "fits" xU ["signs","sign"]):Own P w K mg base "fits" 1 ["signs","sign"] (iJ K 2 dJ):=by
 exact bU (k:=0) F V3 (fun f cdv A outer s H E hr G=>(S.fu.u (S.aH (S.bj (S.Hr (S.xF 0 Yr (S.bz S.o6)) (S.Ak (S.xF 1 (ajY G) (S.cO 0))))))))
theorem Ox:bC ["rule","way","changes","left","right"] ["rule"] (aD p7):=gU
theorem sr(F:bD K mg "turned" p7 ["rule"]):Own P w K mg base "turned" 1 ["rule"] (iJ K 1 qj):=by
 exact bU (k:=0) F Ox (fun f cdv A outer s H E hr G=>(S.fu.u (S.aA (S.lU (S.aJ 0) (S.jT G (S.aV (S.aZ 1) (S.aV (S.aZ 2) (S.aV (S.aZ 3) (S.aV (S.aZ 4) S.cU))))))
   (S.aH (S.bj (S.dZ (S.aj (S.aJ 1) (S.aj (S.aJ 2) (S.aj (S.aJ 4) (S.aj (S.aJ 3) S.aB))))))))))
theorem Ka:bC ["rule"] ["rule"] (aD nG):=gU
theorem qg(F:bD K mg "puts_in" nG ["rule"]):Own P w K mg base "puts_in" 1 ["rule"] (iJ K 1 lJ):=by
 exact bU (k:=0) F Ka (fun f cdv A outer s H E hr G=>(S.fu.u (S.aH (S.bj (S.zW (rN G) (S.uK G (S.uK G (S.cM 0 G (S.bz S.aN)) (S.bz S.aN)) (S.bz S.aN)) (S.bz (S.bY [] (by decide +kernel))))))))
theorem Ab:bC ["rule","word","way","changes","left","right","new","made_of","ahead","sign"] ["rule","word"] (aD ir):=gU
theorem ju(F:bD K mg "with_put_in" ir ["rule","word"])(dO:Glb K mg "EDGE" (.str [35]))(o7:Own P w K mg base "fits" 1 ["signs","sign"] (iJ K 2 dJ)):Own P w K mg base "with_put_in" 2 ["rule","word"] (iJ K 2 f9):=by
 obtain⟨aac,aae,dO⟩:=dO
 exact bU (k:=1) F Ab (fun f cdv A outer s H E hr G=>(S.fu.u (S.aA (S.lU (S.aJ 0) (S.jT G (S.aV (S.aZ 2) (S.aV (S.aZ 3) (S.aV (S.aZ 4) (S.aV (S.aZ 5) S.cU))))))
   (S.aA (S.bV 6 (S.uK G (S.cM 3 G (S.bz S.aN)) (S.bz S.aN)))
   (S.aA (S.p8 7 (S.dz S.aB))
   (S.aA (S.bV 8 (S.uA (.str [35]) rfl dO.1 dO.2.1 (fun F=>dO.2.2 F)))
   (S.aA (S.my G (S.gZ G (S.dI 1 (fc G) (S.bz (S.uA (.str [35]) rfl dO.1 dO.2.1 (fun F=>dO.2.2 F))))) (S.aZ 9) (S.aA (S.dq (S.ux (S.jg (S.iG (S.cC o7 G hr (by rfl) (S.aj (S.aJ 4) (S.aj (S.aJ 8) S.aB)) (bf (bf len0)))) (S.jr (S.iG (S.cC o7 G hr (by rfl) (S.aj (S.aJ 5) (S.aj (S.aJ 9) S.aB)) (bf (bf len0))))))) (S.aH (S.wW 7 G (S.aJ 6))) S.bZ)
   (S.aA (S.wW 7 G (S.aJ 9))
   (S.aH (S.bV 8 (S.aJ 9))))))
   (S.aH (S.bj (S.xE G (S.bY [] (by decide +kernel)) (S.bz (S.QM G (S.aJ 7) S.j6 (S.iM (S.wL S.aN))))))))))))))
theorem zp:bC ["rule","word","way","changes","left","right","becomes","signs","made_of","ahead","at","sound","new"] ["rule","word"] (aD gD):=gU
theorem iQ(F:bD K mg "with_changes" gD ["rule","word"])(uC:mg "dict" = none)(jh:mg "enumerate" = none)(dO:Glb K mg "EDGE" (.str [35]))(o7:Own P w K mg base "fits" 1 ["signs","sign"] (iJ K 2 dJ)):Own P w K mg base "with_changes" 2 ["rule","word"] (iJ K 2 eY):=by
 obtain⟨aac,aae,dO⟩:=dO
 exact bU (k:=1) F zp (fun f cdv A outer s H E hr G=>(S.fu.u (S.aA (S.lU (S.aJ 0) (S.jT G (S.aV (S.aZ 2) (S.aV (S.aZ 3) (S.aV (S.aZ 4) (S.aV (S.aZ 5) S.cU))))))
   (S.aA (S.bV 6 (S.El G uC (S.bu (S.cO 3))))
   (S.aA (S.bV 7 (S.dI 1 (fc G) (S.bz (S.uA (.str [35]) rfl dO.1 dO.2.1 (fun F=>dO.2.2 F)))))
   (S.aA (S.p8 8 (S.dz S.aB))
   (S.aA (S.bV 9 (S.uA (.str [35]) rfl dO.1 dO.2.1 (fun F=>dO.2.2 F)))
   (S.aA (S.my G (S.Lg jh (S.aj (S.aJ 1) S.aB)) (S.jT G (S.aV (S.aZ 10) (S.aV (S.aZ 11) S.cU))) (S.aA (S.bV 12 (S.aJ 11))
   (S.aA (S.dq (S.ux (S.jg (S.eN 11 (NT G) (S.cO 6)) (S.jg (S.iG (S.cC o7 G hr (by rfl) (S.aj (S.aJ 4) (S.aj (S.aJ 9) S.aB)) (bf (bf len0)))) (S.jr (S.iG (S.cC o7 G hr (by rfl) (S.aj (S.aJ 5) (S.aj (S.cM 7 G (S.bz (S.dI 10 (fc G) (S.bz S.aN)))) S.aB)) (bf (bf len0)))))))) (S.aH (S.bV 12 (S.wM 6 G (S.cO 11)))) S.bZ)
   (S.aA (S.wW 8 G (S.aJ 12))
   (S.aH (S.dq (S.eN 2 (rN G) (S.bz (S.bY [111,110,99,101] (by decide +kernel)))) (S.aH (S.bV 9 (S.aJ 11))) (S.aH (S.dq (S.eN 12 (Jm G) (S.bz (S.bY [] (by decide +kernel)))) (S.aH (S.bV 9 (S.aJ 12))) S.bZ))))))))
   (S.aH (S.bj (S.xE G (S.bY [] (by decide +kernel)) (S.cO 8))))))))))))
theorem Ff:bC ["rule","word"] ["rule","word"] (aD jM):=gU
theorem jO(F:bD K mg "from_left" jM ["rule","word"])(qg:Own P w K mg base "puts_in" 1 ["rule"] (iJ K 1 lJ))(iQ:Own P w K mg base "with_changes" 2 ["rule","word"] (iJ K 2 eY))(ju:Own P w K mg base "with_put_in" 2 ["rule","word"] (iJ K 2 f9)):Own P w K mg base "from_left" 3 ["rule","word"] (iJ K 2 fV):=by
 exact bU (k:=2) F Ff (fun f cdv A outer s H E hr G=>(S.fu.u (S.aA (S.dq (S.iG (S.cC qg G hr (by rfl) (S.aj (S.aJ 0) S.aB) (bf len0))) (S.aH (S.bj (S.cC ju G hr (by rfl) (S.aj (S.aJ 0) (S.aj (S.aJ 1) S.aB)) (bf (bf len0))))) S.bZ)
   (S.aH (S.bj (S.cC iQ G hr (by rfl) (S.aj (S.aJ 0) (S.aj (S.aJ 1) S.aB)) (bf (bf len0))))))))
theorem Kc:bC ["side","rule","word"] ["side","rule","word"] (aD nH):=gU
theorem jP(F:bD K mg "changed" nH ["side","rule","word"])(jO:Own P w K mg base "from_left" 3 ["rule","word"] (iJ K 2 fV))(sr:Own P w K mg base "turned" 1 ["rule"] (iJ K 1 qj)):Own P w K mg base "changed" 4 ["side","rule","word"] (iJ K 3 dR):=by
 exact bU (k:=3) F Kc (fun f cdv A outer s H E hr G=>(S.fu.u (S.aA (S.dq (S.eN 0 (rN G) (S.bz (S.bY [114,105,103,104,116] (by decide +kernel)))) (S.aH (S.bj (S.Dh (S.cC jO G hr (by rfl) (S.aj (S.cC sr G hr (by rfl) (S.aj (S.aJ 1) S.aB) (bf len0)) (S.aj (S.Dh (S.aJ 2)) S.aB)) (bf (bf len0)))))) S.bZ)
   (S.aH (S.bj (S.cC jO G hr (by rfl) (S.aj (S.aJ 1) (S.aj (S.aJ 2) S.aB)) (bf (bf len0))))))))
theorem V0:bC ["order","word","side","rules","words","rule"] ["order","word"] (aD xQ):=gU
theorem Ar(F:bD K mg "walk" xQ ["order","word"])(bL:mg "tuple" = none)(jP:Own P w K mg base "changed" 4 ["side","rule","word"] (iJ K 3 dR)):Own P w K mg base "walk" 5 ["order","word"] (iJ K 2 yE):=by
 exact bU (k:=4) F V0 (fun f cdv A outer s H E hr G=>(S.fu.u (S.aA (S.lU (S.aJ 0) (S.jT G (S.aV (S.aZ 2) (S.aV (S.aZ 3) S.cU))))
   (S.aA (S.p8 4 (S.dz (S.aj (S.aJ 1) S.aB)))
   (S.aA (S.my G (S.gZ G (S.aJ 3)) (S.aZ 5) (S.aH (S.wW 4 G (S.cC jP G hr (by rfl) (S.aj (S.aJ 2) (S.aj (S.aJ 5) (S.aj (S.cM 4 G (S.bz (S.wL S.aN))) S.aB))) (bf (bf (bf len0)))))))
   (S.aH (S.bj (S.iC G bL (S.bu (S.cO 4))))))))))
theorem V1:bC ["order","word"] ["order","word"] (aD xR):=gU
theorem su(F:bD K mg "made" xR ["order","word"])(Ar:Own P w K mg base "walk" 5 ["order","word"] (iJ K 2 yE)):Own P w K mg base "made" 6 ["order","word"] (iJ K 2 mZ):=by
 exact bU (k:=5) F V1 (fun f cdv A outer s H E hr G=>(S.fu.u (S.aH (S.bj (S.uK G (S.cC Ar G hr (by rfl) (S.aj (S.aJ 0) (S.aj (S.aJ 1) S.aB)) (bf (bf len0))) (S.bz (S.wL S.aN)))))))
theorem xP:bC ["many","rows","turn"] ["many"] (aD fK):=gU
theorem gY(F:bD K mg "all_orderings" fK ["many"])(bH:mg "range" = none):Own P w K mg base "all_orderings" 1 ["many"] (iJ K 1 ig):=by
 exact bU (k:=0) F xP (fun f cdv A outer s H E hr G=>(S.fu.u (S.aA (S.bV 1 (S.dw (S.dz (S.aj (S.dZ S.aB) S.aB))))
   (S.aA (S.my G (S.lG bH (S.aj (S.aJ 0) S.aB) (bf len0)) (S.aZ 2) (S.aH (S.Mx ["many","rows","turn","row","number"] 3 1 fH G (S.gZ G (S.aJ 1)) (fun X1 h1=>by have G:=G.at h1;obtain⟨_,_,_,_,_,rfl⟩:=h1;exact(S.aZ 3)) (fun X1 h1=>by have G:=G.at h1;obtain⟨_,_,_,_,_,rfl⟩:=h1;exact(S.lG bH (S.aj (S.aJ 0) S.aB) (bf len0))) (fun X1 h1=>by have G:=G.at h1;obtain⟨_,_,_,_,_,rfl⟩:=h1;exact(S.aZ 4)) (fun X1 h1=>by have G:=G.at h1;obtain⟨_,_,_,_,_,rfl⟩:=h1;exact(S.jt (S.eN 4 (zP G) (S.cO 3)))) (fun X1 h1=>by have G:=G.at h1;obtain⟨_,_,_,_,_,rfl⟩:=h1;exact(S.dI 3 (fc G) (S.bz (S.dZ (S.aj (S.aJ 4) S.aB))))))))
   (S.aH (S.bj (S.aJ 1)))))))
theorem V2:bC ["order","ordering","side","rules"] ["order","ordering"] (aD xT):=gU
theorem Av(F:bD K mg "laid" xT ["order","ordering"])(bL:mg "tuple" = none):Own P w K mg base "laid" 1 ["order","ordering"] (iJ K 2 Br):=by
 exact bU (k:=0) F V2 (fun f cdv A outer s H E hr G=>(S.fu.u (S.aA (S.lU (S.aJ 0) (S.jT G (S.aV (S.aZ 2) (S.aV (S.aZ 3) S.cU))))
   (S.aH (S.bj (S.dZ (S.aj (S.aJ 2) (S.aj (S.iC G bL (S.bu (S.bz (S.dw (S.sE ["order","ordering","side","rules","number"] 4 fH G (S.gZ G (S.aJ 1)) (fun X1 h1=>by have G:=G.at h1;obtain⟨_,_,_,_,_,rfl⟩:=h1;exact(S.aZ 4)) (fun X1 h1=>by have G:=G.at h1;obtain⟨_,_,_,_,_,rfl⟩:=h1;exact S.dX) (fun X1 h1=>by have G:=G.at h1;obtain⟨_,_,_,_,_,rfl⟩:=h1;exact(S.cM 3 G (S.cO 4)))))))) S.aB))))))))
theorem Cv:bC ["order","book"] ["order","book"] (aD jb):=gU
theorem j8(F:bD K mg "pairs_told" jb ["order","book"])(su:Own P w K mg base "made" 6 ["order","word"] (iJ K 2 mZ)):Own P w K mg base "pairs_told" 7 ["order","book"] (iJ K 2 kJ):=by
 exact bU (k:=6) F Cv (fun f cdv A outer s H E hr G=>(S.fu.u (S.aH (S.bj (S.dw (S.sE ["order","book","word","form"] 2 fH G (S.gZ G (S.aJ 1)) (fun X1 h1=>by have G:=G.at h1;obtain⟨_,_,_,_,_,rfl⟩:=h1;exact(S.jT G (S.aV (S.aZ 2) (S.aV (S.aZ 3) S.cU)))) (fun X1 h1=>by have G:=G.at h1;obtain⟨_,_,_,_,_,rfl⟩:=h1;exact S.dX) (fun X1 h1=>by have G:=G.at h1;obtain⟨_,_,_,_,_,rfl⟩:=h1;exact(S.zW (rN G) (S.cC su G hr (by rfl) (S.aj (S.aJ 0) (S.aj (S.aJ 2) S.aB)) (bf (bf len0))) (S.cO 3)))))))))
theorem CG:bC ["tellings","numbers"] ["tellings","numbers"] (aD jf):=gU
theorem km(F:bD K mg "is_quarrel" jf ["tellings","numbers"])(qz:mg "all" = none)(Kw:mg "any" = none):Own P w K mg base "is_quarrel" 1 ["tellings","numbers"] (iJ K 2 kO):=by
 exact bU (k:=0) F CG (fun f cdv A outer s H E hr G=>(S.fu.u (S.aH (S.bj (S.Km (S.QS G Kw (S.bu (S.bz (S.dw (S.sE ["tellings","numbers","telling"] 2 fH G (S.gZ G (S.aJ 0)) (fun X1 h1=>by have G:=G.at h1;obtain⟨_,_,_,_,_,rfl⟩:=h1;exact(S.aZ 2)) (fun X1 h1=>by have G:=G.at h1;obtain⟨_,_,_,_,_,rfl⟩:=h1;exact S.dX) (fun X1 h1=>by have G:=G.at h1;obtain⟨_,_,_,_,_,rfl⟩:=h1;exact(S.GK G qz (S.bu (S.bz (S.dw (S.sE ["tellings","numbers","telling","number"] 3 fH G (S.gZ G (S.aJ 1)) (fun X1 h1=>by have G:=G.at h1;obtain⟨_,_,_,_,_,rfl⟩:=h1;exact(S.aZ 3)) (fun X1 h1=>by have G:=G.at h1;obtain⟨_,_,_,_,_,rfl⟩:=h1;exact S.dX) (fun X1 h1=>by have G:=G.at h1;obtain⟨_,_,_,_,_,rfl⟩:=h1;exact(S.cM 2 G (S.cO 3)))))))))))))))))))
theorem J9:bC ["tellings","many","numbers","number","others"] ["tellings","many"] (aD nD):=gU
theorem qe(F:bD K mg "quarrel" nD ["tellings","many"])(uB:mg "list" = none)(bH:mg "range" = none)(bL:mg "tuple" = none)(km:Own P w K mg base "is_quarrel" 1 ["tellings","numbers"] (iJ K 2 kO)):Own P w K mg base "quarrel" 2 ["tellings","many"] (iJ K 2 nM):=by
 exact bU (k:=1) F J9 (fun f cdv A outer s H E hr G=>(S.fu.u (S.aA (S.bV 2 (S.dw (S.Kz G uB bH (S.aJ 1))))
   (S.aA (S.my G (S.lG bH (S.aj (S.aJ 1) S.aB) (bf len0)) (S.aZ 3) (S.aA (S.Kd ["tellings","many","numbers","number","others","each"] 5 4 fH G (S.gZ G (S.aJ 2)) (fun X1 h1=>by have G:=G.at h1;obtain⟨_,_,_,_,_,rfl⟩:=h1;exact(S.aZ 5)) (fun X1 h1=>by have G:=G.at h1;obtain⟨_,_,_,_,_,rfl⟩:=h1;exact(S.jt (S.eN 5 (Jm G) (S.cO 3)))) (fun X1 h1=>by have G:=G.at h1;obtain⟨_,_,_,_,_,rfl⟩:=h1;exact(S.aJ 5)))
   (S.aH (S.dq (S.iG (S.cC km G hr (by rfl) (S.aj (S.aJ 0) (S.aj (S.aJ 4) S.aB)) (bf (bf len0)))) (S.aH (S.bV 2 (S.aJ 4))) S.bZ))))
   (S.aH (S.bj (S.iC G bL (S.bu (S.cO 2)))))))))
theorem J8:bC ["order","book","orderings","tellings","telling_all"] ["order","book"] (aD nC):=gU
theorem qd(F:bD K mg "told_by" nC ["order","book"])(qz:mg "all" = none)(cA:mg "len" = none)(bL:mg "tuple" = none)(Kv:mg "zip" = none)(gY:Own P w K mg base "all_orderings" 1 ["many"] (iJ K 1 ig))(Av:Own P w K mg base "laid" 1 ["order","ordering"] (iJ K 2 Br))(j8:Own P w K mg base "pairs_told" 7 ["order","book"] (iJ K 2 kJ))(qe:Own P w K mg base "quarrel" 2 ["tellings","many"] (iJ K 2 nM)):Own P w K mg base "told_by" 8 ["order","book"] (iJ K 2 lH):=by
 exact bU (k:=7) F J8 (fun f cdv A outer s H E hr G=>(S.fu.u (S.aA (S.bV 2 (S.cC gY G hr (by rfl) (S.aj (S.jj G cA (S.bu (S.bz (S.cM 0 G (S.bz S.aN))))) S.aB) (bf len0)))
   (S.aA (S.Kd ["order","book","orderings","tellings","telling_all","ordering"] 5 3 fH G (S.gZ G (S.aJ 2)) (fun X1 h1=>by have G:=G.at h1;obtain⟨_,_,_,_,_,rfl⟩:=h1;exact(S.aZ 5)) (fun X1 h1=>by have G:=G.at h1;obtain⟨_,_,_,_,_,rfl⟩:=h1;exact S.dX) (fun X1 h1=>by have G:=G.at h1;obtain⟨_,_,_,_,_,rfl⟩:=h1;exact(S.cC j8 G hr (by rfl) (S.aj (S.cC Av G hr (by rfl) (S.aj (S.aJ 0) (S.aj (S.aJ 5) S.aB)) (bf (bf len0))) (S.aj (S.aJ 1) S.aB)) (bf (bf len0)))))
   (S.aA (S.Kd ["order","book","orderings","tellings","telling_all","ordering","telling"] 5 4 fH G (S.FW G Kv (S.aj (S.aJ 2) (S.aj (S.aJ 3) S.aB))) (fun X1 h1=>by have G:=G.at h1;obtain⟨_,_,_,_,_,rfl⟩:=h1;exact(S.jT G (S.aV (S.aZ 5) (S.aV (S.aZ 6) S.cU)))) (fun X1 h1=>by have G:=G.at h1;obtain⟨_,_,_,_,_,rfl⟩:=h1;exact(S.jt (S.iG (S.GK G qz (S.bu (S.cO 6)))))) (fun X1 h1=>by have G:=G.at h1;obtain⟨_,_,_,_,_,rfl⟩:=h1;exact(S.aJ 5)))
   (S.aA (S.dq (S.eN 4 (Jm G) (S.bz (S.dw (S.dz S.aB)))) (S.aH (S.bj (S.dZ (S.aj (S.bY [116,111,108,100] (by decide +kernel)) (S.aj (S.iC G bL (S.bu (S.cO 4))) S.aB))))) S.bZ)
   (S.aH (S.bj (S.dZ (S.aj (S.bY [113,117,97,114,114,101,108] (by decide +kernel)) (S.aj (S.cC qe G hr (by rfl) (S.aj (S.aJ 3) (S.aj (S.jj G cA (S.bu (S.cO 1))) S.aB)) (bf (bf len0))) S.aB)))))))))))
theorem Oz:bC ["side","rules","book","forms","rows","row","words"] ["side","rules","book"] (aD qb):=gU
theorem mH(F:bD K mg "fewest" qb ["side","rules","book"])(jh:mg "enumerate" = none)(jP:Own P w K mg base "changed" 4 ["side","rule","word"] (iJ K 3 dR)):Own P w K mg base "fewest" 5 ["side","rules","book"] (iJ K 3 fW):=by
 exact bU (k:=4) F Oz (fun f cdv A outer s H E hr G=>(S.fu.u (S.aA (S.Kd ["side","rules","book","forms","rows","row","words","word","form"] 7 3 fH G (S.gZ G (S.aJ 2)) (fun X1 h1=>by have G:=G.at h1;obtain⟨_,_,_,_,_,rfl⟩:=h1;exact(S.jT G (S.aV (S.aZ 7) (S.aV (S.aZ 8) S.cU)))) (fun X1 h1=>by have G:=G.at h1;obtain⟨_,_,_,_,_,rfl⟩:=h1;exact S.dX) (fun X1 h1=>by have G:=G.at h1;obtain⟨_,_,_,_,_,rfl⟩:=h1;exact(S.aJ 8)))
   (S.aA (S.bV 4 (S.dw (S.dz (S.aj (S.dZ (S.aj (S.dZ S.aB) (S.aj (S.dw (S.sE ["side","rules","book","forms","rows","row","words","word","form"] 7 fH G (S.gZ G (S.aJ 2)) (fun X1 h1=>by have G:=G.at h1;obtain⟨_,_,_,_,_,rfl⟩:=h1;exact(S.jT G (S.aV (S.aZ 7) (S.aV (S.aZ 8) S.cU)))) (fun X1 h1=>by have G:=G.at h1;obtain⟨_,_,_,_,_,rfl⟩:=h1;exact S.dX) (fun X1 h1=>by have G:=G.at h1;obtain⟨_,_,_,_,_,rfl⟩:=h1;exact(S.aJ 7)))) S.aB))) S.aB))))
   (S.aA (S.Fi 20 G (S.eN 4 (Jm G) (S.bz (S.dw (S.dz S.aB)))) (S.aA (S.my G (S.gZ G (S.aJ 4)) (S.jT G (S.aV (S.aZ 5) (S.aV (S.aZ 6) S.cU))) (S.aH (S.dq (S.eN 6 (rN G) (S.cO 3)) (S.aH (S.bj (S.aJ 5))) S.bZ)))
   (S.aH (S.Mx ["side","rules","book","forms","rows","%5","%6","row","words","number","rule"] 7 4 fH G (S.gZ G (S.aJ 4)) (fun X1 h1=>by have G:=G.at h1;obtain⟨_,_,_,_,_,rfl⟩:=h1;exact(S.jT G (S.aV (S.aZ 7) (S.aV (S.aZ 8) S.cU)))) (fun X1 h1=>by have G:=G.at h1;obtain⟨_,_,_,_,_,rfl⟩:=h1;exact(S.Ga G jh (S.aj (S.aJ 1) S.aB))) (fun X1 h1=>by have G:=G.at h1;obtain⟨_,_,_,_,_,rfl⟩:=h1;exact(S.jT G (S.aV (S.aZ 9) (S.aV (S.aZ 10) S.cU)))) (fun X1 h1=>by have G:=G.at h1;obtain⟨_,_,_,_,_,rfl⟩:=h1;exact(S.jt (S.eN 9 (zP G) (S.cO 7)))) (fun X1 h1=>by have G:=G.at h1;obtain⟨_,_,_,_,_,rfl⟩:=h1;exact(S.dZ (S.aj (S.dI 7 (fc G) (S.bz (S.dZ (S.aj (S.aJ 9) S.aB)))) (S.aj (S.dw (S.sE ["side","rules","book","forms","rows","%5","%6","row","words","number","rule","word"] 11 fH G (S.gZ G (S.aJ 8)) (fun X1 h1=>by have G:=G.at h1;obtain⟨_,_,_,_,_,rfl⟩:=h1;exact(S.aZ 11)) (fun X1 h1=>by have G:=G.at h1;obtain⟨_,_,_,_,_,rfl⟩:=h1;exact S.dX) (fun X1 h1=>by have G:=G.at h1;obtain⟨_,_,_,_,_,rfl⟩:=h1;exact(S.cC jP G hr (by rfl) (S.aj (S.aJ 0) (S.aj (S.aJ 10) (S.aj (S.aJ 11) S.aB))) (bf (bf (bf len0))))))) S.aB))))))))
   (S.aH (S.bj S.o6)))))))
theorem Fe:bC ["_law_cell"] ["_law_cell"] (aD jL):=gU
theorem mG(F:bD K mg "_law_mixed" jL ["_law_cell"]):Own P w K mg base "_law_mixed" 1 ["_law_cell"] (iJ K 1 gG):=by
 exact bU (k:=0) F Fe (fun f cdv A outer s H E hr G=>(S.fu.u (S.aH (S.bj (S.iD aj2 (S.dI 0 U5 (S.bz S.aN)) (S.bz (S.iD Z2 S.aN (S.bz S.aN))))))))
theorem Hj:bC ["_law_script","_law_k","_law_found","_law_at"] ["_law_script","_law_k"] (aD lB):=gU
theorem fX(F:bD K mg "_law_pack" lB ["_law_script","_law_k"])(mG:Own P w K mg base "_law_mixed" 1 ["_law_cell"] (iJ K 1 gG)):Own P w K mg base "_law_pack" 2 ["_law_script","_law_k"] (Vk K 2 di):=by
 exact WK (k:=1) F Hj (fun f cdv A outer s H E hr G=>(S.fu.u (S.aA (S.bV 2 S.aN)
   (S.aA (S.my G (S.gZ G (S.dw (S.dz (S.aj (S.dI 1 (fc G) (S.bz S.aN)) (S.aj (S.aJ 1) S.aB))))) (S.aZ 3) (S.aH (S.bV 2 (S.iD (fc G) (S.dI 2 U5 (S.bz (S.iD Z2 S.aN (S.bz S.aN)))) (S.bz (S.cC mG G hr (by rfl) (S.aj (S.uK G (S.iD (fc G) (S.QM G (S.aJ 0) (S.iM (S.aJ 3)) (S.iM (S.dI 3 (fc G) (S.bz S.aN)))) (S.bz (S.dw (S.dz (S.aj (S.iD (fc G) (S.iD U5 S.aN (S.cO 3)) (S.bz S.aN)) S.aB))))) (S.bz S.aN)) S.aB) (bf len0)))))))
   (S.aH (S.uO (S.dz (S.aj (S.aJ 2) S.aB))))))))
theorem Hg:bC ["_law_pack_here","_law_size_here","_law_digit"] ["_law_pack_here","_law_size_here"] (aD lr):=gU
theorem aX(F:bD K mg "_law_take" lr ["_law_pack_here","_law_size_here"])(yd:mg "divmod" = none):Own P w K mg base "_law_take" 1 ["_law_pack_here","_law_size_here"] (jn K 2 aF):=by
 exact uQ (k:=0) F Hg (fun f cdv A outer s H E a hr G=>(S.fu.u (S.aA (S.lU (S.zV G yd (S.xX (S.cM 0 G (S.bz S.aN)) (S.bu (S.cO 1)))) (S.jT G (S.aV (S.acP 0 S.aN) (S.aV (S.aZ 2) S.cU))))
   (S.aH (S.bj (S.aJ 2))))))
theorem EY:bC ["_law_pack_here","_law_sounds_here","_law_known","_law_found","_law_sound","_law_number","_law_marks"] ["_law_pack_here"] (aD jH):=gU
theorem mD(F:bD K mg "_law_stock" jH ["_law_pack_here"])(bH:mg "range" = none)(nJ:mg "sorted" = none)(bL:mg "tuple" = none)(aX:Own P w K mg base "_law_take" 1 ["_law_pack_here","_law_size_here"] (jn K 2 aF)):Own P w K mg base "_law_stock" 2 ["_law_pack_here"] (jn K 1 gF):=by
 exact uQ (k:=1) F EY (fun f cdv A outer s H E a hr G=>(S.fu.u (S.aA (S.bV 1 (S.uK G (S.dw (S.Ky (S.mz (S.bY [97] (by decide +kernel)) (S.mz (S.bY [97,98] (by decide +kernel)) (S.mz (S.bY [97,98] (by decide +kernel)) (S.mz (S.bY [97,98,99] (by decide +kernel)) (S.mz (S.bY [97,101,112,116] (by decide +kernel)) (S.mz (S.bY [109,110,122] (by decide +kernel)) S.Fv)))))))) (S.bz (S.j0 0 aX G hr (by rfl) (S.aj S.aN S.aB) (fO (bf len0))))))
   (S.aA (S.bV 2 (S.dw (S.dz (S.aj (S.bY [115,116,111,112] (by decide +kernel)) (S.aj (S.bY [115,116,111,112,115] (by decide +kernel)) (S.aj (S.bY [115] (by decide +kernel)) (S.aj (S.bY [111,112,101,110] (by decide +kernel)) (S.aj (S.bY [97,98,99,100,101,102,103,104] (by decide +kernel)) S.aB))))))))
   (S.aA (S.p8 3 (S.dz S.aB))
   (S.aA (S.my G (S.gZ G (S.aJ 1)) (S.aZ 4) (S.aA (S.bV 5 (S.j0 0 aX G hr (by rfl) (S.aj S.aN S.aB) (fO (bf len0))))
   (S.aA (S.bV 6 (S.wK G nJ (S.bu (S.bz (S.dw (S.sE ["_law_pack_here","_law_sounds_here","_law_known","_law_found","_law_sound","_law_number","_law_marks","_law_k"] 7 fH G (S.lG bH (S.aj S.aN S.aB) (bf len0)) (fun X1 h1=>by have G:=G.at h1;obtain⟨_,_,_,_,_,rfl⟩:=h1;exact(S.aZ 7)) (fun X1 h1=>by have G:=G.at h1;obtain⟨_,_,_,_,_,rfl⟩:=h1;exact(S.jt (S.nO (rN G) (S.iD Z4 (S.dI 5 Z1 (S.cO 7)) (S.bz S.aN)) (S.bz S.aN)))) (fun X1 h1=>by have G:=G.at h1;obtain⟨_,_,_,_,_,rfl⟩:=h1;exact(S.cM 2 G (S.cO 7)))))))))
   (S.aH (S.wW 3 G (S.dZ (S.aj (S.aJ 4) (S.aj (S.iC G bL (S.bu (S.bz (S.QM G (S.aJ 6) S.j6 (S.iM S.aN))))) S.aB))))))))
   (S.aH (S.bj (S.iC G bL (S.bu (S.cO 3)))))))))))
theorem Cy:bC ["_law_stock_here"] ["_law_stock_here"] (aD jd):=gU
theorem kh(F:bD K mg "_law_sounds" jd ["_law_stock_here"]):Own P w K mg base "_law_sounds" 1 ["_law_stock_here"] (iJ K 1 fP):=by
 exact bU (k:=0) F Cy (fun f cdv A outer s H E hr G=>(S.fu.u (S.aH (S.bj (S.xE G (S.bY [] (by decide +kernel)) (S.bz (S.dw (S.sE ["_law_stock_here","_law_sound","_law_marks"] 1 fH G (S.gZ G (S.aJ 0)) (fun X1 h1=>by have G:=G.at h1;obtain⟨_,_,_,_,_,rfl⟩:=h1;exact(S.jT G (S.aV (S.aZ 1) (S.aV (S.aZ 2) S.cU)))) (fun X1 h1=>by have G:=G.at h1;obtain⟨_,_,_,_,_,rfl⟩:=h1;exact S.dX) (fun X1 h1=>by have G:=G.at h1;obtain⟨_,_,_,_,_,rfl⟩:=h1;exact(S.aJ 1))))))))))
theorem Fb:bC ["_law_pack_here","_law_sounds_here","_law_number","_law_signs_here"] ["_law_pack_here","_law_sounds_here"] (aD jJ):=gU
theorem jN(F:bD K mg "_law_signs" jJ ["_law_pack_here","_law_sounds_here"])(cA:mg "len" = none)(bH:mg "range" = none)(bL:mg "tuple" = none)(aX:Own P w K mg base "_law_take" 1 ["_law_pack_here","_law_size_here"] (jn K 2 aF)):Own P w K mg base "_law_signs" 2 ["_law_pack_here","_law_sounds_here"] (jn K 2 fQ):=by
 exact uQ (k:=1) F Fb (fun f cdv A outer s H E a hr G=>(S.fu.u (S.aA (S.dq (S.nO (rN G) (S.j0 0 aX G hr (by rfl) (S.aj S.aN S.aB) (fO (bf len0))) (S.bz S.aN)) (S.aH (S.bj S.o6)) S.bZ)
   (S.aA (S.bV 2 (S.iD (fc G) S.aN (S.bz (S.j0 0 aX G hr (by rfl) (S.aj (S.iD N6 (S.iD aj1 S.aN (S.bz (S.jj G cA (S.bu (S.cO 1))))) (S.bz S.aN)) S.aB) (fO (bf len0))))))
   (S.aA (S.bV 3 (S.iD (fc G) (S.bY [35] (by decide +kernel)) (S.cO 1)))
   (S.aH (S.bj (S.iC G bL (S.bu (S.bz (S.dw (S.sE ["_law_pack_here","_law_sounds_here","_law_number","_law_signs_here","_law_k"] 4 fH G (S.lG bH (S.aj (S.jj G cA (S.bu (S.cO 3))) S.aB) (bf len0)) (fun X1 h1=>by have G:=G.at h1;obtain⟨_,_,_,_,_,rfl⟩:=h1;exact(S.aZ 4)) (fun X1 h1=>by have G:=G.at h1;obtain⟨_,_,_,_,_,rfl⟩:=h1;exact(S.jt (S.nO (rN G) (S.iD Z4 (S.dI 2 Z1 (S.cO 4)) (S.bz S.aN)) (S.bz S.aN)))) (fun X1 h1=>by have G:=G.at h1;obtain⟨_,_,_,_,_,rfl⟩:=h1;exact(S.cM 3 G (S.cO 4)))))))))))))))
theorem Ac:bC ["_law_pack_here","_law_sounds_here","_law_found","_law_turn","_law_one","_law_others"] ["_law_pack_here","_law_sounds_here"] (aD iu):=gU
theorem jw(F:bD K mg "_law_changes" iu ["_law_pack_here","_law_sounds_here"])(cA:mg "len" = none)(uB:mg "list" = none)(bH:mg "range" = none)(nJ:mg "sorted" = none)(bL:mg "tuple" = none)(aX:Own P w K mg base "_law_take" 1 ["_law_pack_here","_law_size_here"] (jn K 2 aF)):Own P w K mg base "_law_changes" 2 ["_law_pack_here","_law_sounds_here"] (jn K 2 gh):=by
 exact uQ (k:=1) F Ac (fun f cdv A outer s H E a hr G=>(S.fu.u (S.aA (S.dq (S.nO (rN G) (S.j0 0 aX G hr (by rfl) (S.aj S.aN S.aB) (fO (bf len0))) (S.bz S.aN)) (S.aH (S.bj (S.dZ (S.aj (S.dZ (S.aj (S.bY [] (by decide +kernel)) (S.aj (S.cM 1 G (S.bz (S.j0 0 aX G hr (by rfl) (S.aj (S.jj G cA (S.bu (S.cO 1))) S.aB) (fO (bf len0))))) S.aB))) S.aB)))) S.bZ)
   (S.aA (S.p8 2 S.Aj)
   (S.aA (S.my G (S.lG bH (S.aj (S.iD (fc G) S.aN (S.bz (S.j0 0 aX G hr (by rfl) (S.aj S.aN S.aB) (fO (bf len0))))) S.aB) (bf len0)) (S.aZ 3) (S.aA (S.bV 4 (S.cM 1 G (S.bz (S.j0 0 aX G hr (by rfl) (S.aj (S.jj G cA (S.bu (S.cO 1))) S.aB) (fO (bf len0))))))
   (S.aA (S.Kd ["_law_pack_here","_law_sounds_here","_law_found","_law_turn","_law_one","_law_others","_law_sound"] 6 5 fH G (S.gZ G (S.iD (fc G) (S.JF G uB (S.bu (S.cO 1))) (S.bz (S.dw (S.dz (S.aj (S.bY [] (by decide +kernel)) S.aB)))))) (fun X1 h1=>by have G:=G.at h1;obtain⟨_,_,_,_,_,rfl⟩:=h1;exact(S.aZ 6)) (fun X1 h1=>by have G:=G.at h1;obtain⟨_,_,_,_,_,rfl⟩:=h1;exact(S.jt (S.eN 6 (Jm G) (S.cO 4)))) (fun X1 h1=>by have G:=G.at h1;obtain⟨_,_,_,_,_,rfl⟩:=h1;exact(S.aJ 6)))
   (S.aH (S.Ke 2 G (S.aJ 4) (S.cM 5 G (S.bz (S.j0 0 aX G hr (by rfl) (S.aj (S.jj G cA (S.bu (S.cO 5))) S.aB) (fO (bf len0))))))))))
   (S.aH (S.bj (S.iC G bL (S.bu (S.bz (S.dw (S.sE ["_law_pack_here","_law_sounds_here","_law_found","_law_turn","%4","_law_others","_law_one"] 6 fH G (S.gZ G (S.wK G nJ (S.bu (S.cO 2)))) (fun X1 h1=>by have G:=G.at h1;obtain⟨_,_,_,_,_,rfl⟩:=h1;exact(S.aZ 6)) (fun X1 h1=>by have G:=G.at h1;obtain⟨_,_,_,_,_,rfl⟩:=h1;exact S.dX) (fun X1 h1=>by have G:=G.at h1;obtain⟨_,_,_,_,_,rfl⟩:=h1;exact(S.dZ (S.aj (S.aJ 6) (S.aj (S.wM 2 G (S.cO 6)) S.aB))))))))))))))))
theorem Hi:bC ["_law_pack_here","_law_sounds_here","_law_how","_law_changes_here"] ["_law_pack_here","_law_sounds_here"] (aD lA):=gU
theorem iR(F:bD K mg "_law_rule" lA ["_law_pack_here","_law_sounds_here"])(jw:Own P w K mg base "_law_changes" 2 ["_law_pack_here","_law_sounds_here"] (jn K 2 gh))(jN:Own P w K mg base "_law_signs" 2 ["_law_pack_here","_law_sounds_here"] (jn K 2 fQ))(aX:Own P w K mg base "_law_take" 1 ["_law_pack_here","_law_size_here"] (jn K 2 aF)):Own P w K mg base "_law_rule" 3 ["_law_pack_here","_law_sounds_here"] (jn K 2 dD):=by
 exact uQ (k:=2) F Hi (fun f cdv A outer s H E a hr G=>(S.fu.u (S.aA (S.bV 2 (S.uK G (S.dw (S.dz (S.aj (S.bY [111,110,99,101] (by decide +kernel)) (S.aj (S.bY [97,108,111,110,103] (by decide +kernel)) S.aB)))) (S.bz (S.j0 0 aX G hr (by rfl) (S.aj S.aN S.aB) (fO (bf len0))))))
   (S.aA (S.bV 3 (S.j0 0 jw G hr (by rfl) (S.aj (S.aJ 1) S.aB) (fO (bf len0))))
   (S.aH (S.bj (S.dZ (S.aj (S.aJ 2) (S.aj (S.aJ 3) (S.aj (S.j0 0 jN G hr (by rfl) (S.aj (S.aJ 1) S.aB) (fO (bf len0))) (S.aj (S.j0 0 jN G hr (by rfl) (S.aj (S.aJ 1) S.aB) (fO (bf len0))) S.aB)))))))))))
theorem Fd:bC ["_law_pack_here","_law_sounds_here","_law_most","_law_side"] ["_law_pack_here","_law_sounds_here","_law_most"] (aD jK):=gU
theorem mF(F:bD K mg "_law_order" jK ["_law_pack_here","_law_sounds_here","_law_most"])(bH:mg "range" = none)(bL:mg "tuple" = none)(iR:Own P w K mg base "_law_rule" 3 ["_law_pack_here","_law_sounds_here"] (jn K 2 dD))(aX:Own P w K mg base "_law_take" 1 ["_law_pack_here","_law_size_here"] (jn K 2 aF)):Own P w K mg base "_law_order" 4 ["_law_pack_here","_law_sounds_here","_law_most"] (jn K 3 fU):=by
 exact uQ (k:=3) F Fd (fun f cdv A outer s H E a hr G=>(S.fu.u (S.aA (S.bV 3 (S.uK G (S.dw (S.dz (S.aj (S.bY [108,101,102,116] (by decide +kernel)) (S.aj (S.bY [114,105,103,104,116] (by decide +kernel)) S.aB)))) (S.bz (S.j0 0 aX G hr (by rfl) (S.aj S.aN S.aB) (fO (bf len0))))))
   (S.aH (S.bj (S.dZ (S.aj (S.aJ 3) (S.aj (S.iC G bL (S.bu (S.bz (S.dw (S.sE ["_law_pack_here","_law_sounds_here","_law_most","_law_side","_law_turn"] 4 fH G (S.lG bH (S.aj (S.j0 0 aX G hr (by rfl) (S.aj (S.dI 2 (fc G) (S.bz S.aN)) S.aB) (fO (bf len0))) S.aB) (bf len0)) (fun X1 h1=>by have G:=G.at h1;obtain⟨_,_,_,_,_,rfl⟩:=h1;exact(S.aZ 4)) (fun X1 h1=>by have G:=G.at h1;obtain⟨_,_,_,_,_,rfl⟩:=h1;exact S.dX) (fun X1 h1=>by have G:=G.at h1;obtain⟨_,_,_,_,_,rfl⟩:=h1;exact(S.j0 0 iR G hr (by rfl) (S.aj (S.aJ 1) S.aB) (fO (bf len0))))))))) S.aB))))))))
theorem Hd:bC ["_law_pack_here","_law_sounds_here","_law_most"] ["_law_pack_here","_law_sounds_here","_law_most"] (aD lg):=gU
theorem nU(F:bD K mg "_law_word" lg ["_law_pack_here","_law_sounds_here","_law_most"])(cA:mg "len" = none)(bH:mg "range" = none)(aX:Own P w K mg base "_law_take" 1 ["_law_pack_here","_law_size_here"] (jn K 2 aF)):Own P w K mg base "_law_word" 2 ["_law_pack_here","_law_sounds_here","_law_most"] (jn K 3 gO):=by
 exact uQ (k:=1) F Hd (fun f cdv A outer s H E a hr G=>(S.fu.u (S.aH (S.bj (S.xE G (S.bY [] (by decide +kernel)) (S.bz (S.dw (S.sE ["_law_pack_here","_law_sounds_here","_law_most","_law_turn"] 3 fH G (S.lG bH (S.aj (S.j0 0 aX G hr (by rfl) (S.aj (S.dI 2 (fc G) (S.bz S.aN)) S.aB) (fO (bf len0))) S.aB) (bf len0)) (fun X1 h1=>by have G:=G.at h1;obtain⟨_,_,_,_,_,rfl⟩:=h1;exact(S.aZ 3)) (fun X1 h1=>by have G:=G.at h1;obtain⟨_,_,_,_,_,rfl⟩:=h1;exact S.dX) (fun X1 h1=>by have G:=G.at h1;obtain⟨_,_,_,_,_,rfl⟩:=h1;exact(S.cM 1 G (S.bz (S.j0 0 aX G hr (by rfl) (S.aj (S.jj G cA (S.bu (S.cO 1))) S.aB) (fO (bf len0))))))))))))))
theorem Hm:bC ["_law_signs_here","_law_sign"] ["_law_signs_here","_law_sign"] (aD lE):=gU
theorem fY(F:bD K mg "_law_fits" lE ["_law_signs_here","_law_sign"]):Own P w K mg base "_law_fits" 1 ["_law_signs_here","_law_sign"] (iJ K 2 bW):=by
 exact bU (k:=0) F Hm (fun f cdv A outer s H E hr G=>(S.fu.u (S.aH (S.bj (S.Hr (S.xF 0 Yr (S.bz S.o6)) (S.Ak (S.xF 1 (ajY G) (S.cO 0))))))))
theorem Cz:bC ["_law_rule_here","_law_word_here","_law_signs_here","_law_found","_law_k"] ["_law_rule_here","_law_word_here"] (aD je):=gU
theorem kj(F:bD K mg "_law_put_in" je ["_law_rule_here","_law_word_here"])(cA:mg "len" = none)(bH:mg "range" = none)(fY:Own P w K mg base "_law_fits" 1 ["_law_signs_here","_law_sign"] (iJ K 2 bW)):Own P w K mg base "_law_put_in" 2 ["_law_rule_here","_law_word_here"] (iJ K 2 gP):=by
 exact bU (k:=1) F Cz (fun f cdv A outer s H E hr G=>(S.fu.u (S.aA (S.bV 2 (S.iD (fc G) (S.iD (fc G) (S.bY [35] (by decide +kernel)) (S.cO 1)) (S.bz (S.bY [35] (by decide +kernel)))))
   (S.aA (S.bV 3 (S.bY [] (by decide +kernel)))
   (S.aA (S.my G (S.FZ bH (S.aj S.aN (S.aj (S.jj G cA (S.bu (S.cO 2))) S.aB)) (bf (bf len0))) (S.aZ 4) (S.aA (S.dq (S.ux (S.jg (S.iG (S.cC fY G hr (by rfl) (S.aj (S.cM 0 G (S.bz S.aN)) (S.aj (S.cM 2 G (S.bz (S.dI 4 N6 (S.bz S.aN)))) S.aB)) (bf (bf len0)))) (S.jr (S.iG (S.cC fY G hr (by rfl) (S.aj (S.cM 0 G (S.bz S.aN)) (S.aj (S.cM 2 G (S.cO 4)) S.aB)) (bf (bf len0))))))) (S.aH (S.bV 3 (S.dI 3 (fc G) (S.bz (S.uK G (S.uK G (S.cM 0 G (S.bz S.aN)) (S.bz S.aN)) (S.bz S.aN)))))) S.bZ)
   (S.aH (S.bV 3 (S.dI 3 (fc G) (S.bz (S.cM 2 G (S.cO 4))))))))
   (S.aH (S.bj (S.GJ (S.aJ 3) S.j6 (S.iM (S.wL S.aN))))))))))
theorem Ad:bC ["_law_rule_here","_law_word_here","_law_how","_law_changes_here","_law_first","_law_second","_law_known","_law_signs_here","_law_found","_law_k","_law_near"] ["_law_rule_here","_law_word_here"] (aD iw):=gU
theorem iz(F:bD K mg "_law_changed" iw ["_law_rule_here","_law_word_here"])(uC:mg "dict" = none)(cA:mg "len" = none)(bH:mg "range" = none)(fY:Own P w K mg base "_law_fits" 1 ["_law_signs_here","_law_sign"] (iJ K 2 bW))(kj:Own P w K mg base "_law_put_in" 2 ["_law_rule_here","_law_word_here"] (iJ K 2 gP)):Own P w K mg base "_law_changed" 3 ["_law_rule_here","_law_word_here"] (iJ K 2 cZ):=by
 exact bU (k:=2) F Ad (fun f cdv A outer s H E hr G=>(S.fu.u (S.aA (S.lU (S.aJ 0) (S.jT G (S.aV (S.aZ 2) (S.aV (S.aZ 3) (S.aV (S.aZ 4) (S.aV (S.aZ 5) S.cU))))))
   (S.aA (S.dq (S.nO (rN G) (S.uK G (S.cM 3 G (S.bz S.aN)) (S.bz S.aN)) (S.bz (S.bY [] (by decide +kernel)))) (S.aH (S.bj (S.cC kj G hr (by rfl) (S.aj (S.aJ 0) (S.aj (S.aJ 1) S.aB)) (bf (bf len0))))) S.bZ)
   (S.aA (S.bV 6 (S.El G uC (S.bu (S.cO 3))))
   (S.aA (S.bV 7 (S.iD (fc G) (S.iD (fc G) (S.bY [35] (by decide +kernel)) (S.cO 1)) (S.bz (S.bY [35] (by decide +kernel)))))
   (S.aA (S.bV 8 (S.bY [35] (by decide +kernel)))
   (S.aA (S.my G (S.FZ bH (S.aj S.aN (S.aj (S.iD N6 (S.jj G cA (S.bu (S.cO 7))) (S.bz S.aN)) S.aB)) (bf (bf len0))) (S.aZ 9) (S.aA (S.bV 10 (S.cM 7 G (S.bz (S.dI 9 N6 (S.bz S.aN)))))
   (S.aA (S.dq (S.eN 2 (rN G) (S.bz (S.bY [97,108,111,110,103] (by decide +kernel)))) (S.aH (S.bV 10 (S.cM 8 G (S.bz (S.wL S.aN))))) S.bZ)
   (S.aH (S.dq (S.ux (S.jg (S.nO (NT G) (S.cM 7 G (S.cO 9)) (S.cO 6)) (S.jg (S.iG (S.cC fY G hr (by rfl) (S.aj (S.aJ 4) (S.aj (S.aJ 10) S.aB)) (bf (bf len0)))) (S.jr (S.iG (S.cC fY G hr (by rfl) (S.aj (S.aJ 5) (S.aj (S.cM 7 G (S.bz (S.dI 9 (fc G) (S.bz S.aN)))) S.aB)) (bf (bf len0)))))))) (S.aH (S.bV 8 (S.dI 8 (fc G) (S.bz (S.wM 6 G (S.bz (S.cM 7 G (S.cO 9)))))))) (S.aH (S.bV 8 (S.dI 8 (fc G) (S.bz (S.cM 7 G (S.cO 9)))))))))))
   (S.aH (S.bj (S.GJ (S.aJ 8) (S.iM S.aN) S.j6)))))))))))
theorem Cw:bC ["_law_rule_here"] ["_law_rule_here"] (aD jc):=gU
theorem j9(F:bD K mg "_law_turned" jc ["_law_rule_here"]):Own P w K mg base "_law_turned" 1 ["_law_rule_here"] (iJ K 1 ji):=by
 exact bU (k:=0) F Cw (fun f cdv A outer s H E hr G=>(S.fu.u (S.aH (S.bj (S.dZ (S.aj (S.cM 0 G (S.bz S.aN)) (S.aj (S.cM 0 G (S.bz S.aN)) (S.aj (S.cM 0 G (S.bz S.aN)) (S.aj (S.cM 0 G (S.bz S.aN)) S.aB)))))))))
theorem Ae:bC ["_law_side","_law_rule_here","_law_word_here"] ["_law_side","_law_rule_here","_law_word_here"] (aD iy):=gU
theorem jx(F:bD K mg "_law_by_side" iy ["_law_side","_law_rule_here","_law_word_here"])(iz:Own P w K mg base "_law_changed" 3 ["_law_rule_here","_law_word_here"] (iJ K 2 cZ))(j9:Own P w K mg base "_law_turned" 1 ["_law_rule_here"] (iJ K 1 ji)):Own P w K mg base "_law_by_side" 4 ["_law_side","_law_rule_here","_law_word_here"] (iJ K 3 dF):=by
 exact bU (k:=3) F Ae (fun f cdv A outer s H E hr G=>(S.fu.u (S.aA (S.dq (S.eN 0 (rN G) (S.bz (S.bY [114,105,103,104,116] (by decide +kernel)))) (S.aH (S.bj (S.Dh (S.cC iz G hr (by rfl) (S.aj (S.cC j9 G hr (by rfl) (S.aj (S.aJ 1) S.aB) (bf len0)) (S.aj (S.Dh (S.aJ 2)) S.aB)) (bf (bf len0)))))) S.bZ)
   (S.aH (S.bj (S.cC iz G hr (by rfl) (S.aj (S.aJ 1) (S.aj (S.aJ 2) S.aB)) (bf (bf len0))))))))
theorem Hf:bC ["_law_order_here","_law_word_here","_law_found","_law_rule_here"] ["_law_order_here","_law_word_here"] (aD lq):=gU
theorem nW(F:bD K mg "_law_walk" lq ["_law_order_here","_law_word_here"])(bL:mg "tuple" = none)(jx:Own P w K mg base "_law_by_side" 4 ["_law_side","_law_rule_here","_law_word_here"] (iJ K 3 dF)):Own P w K mg base "_law_walk" 5 ["_law_order_here","_law_word_here"] (iJ K 2 jD):=by
 exact bU (k:=4) F Hf (fun f cdv A outer s H E hr G=>(S.fu.u (S.aA (S.p8 2 (S.dz (S.aj (S.aJ 1) S.aB)))
   (S.aA (S.my G (S.gZ G (S.cM 0 G (S.bz S.aN))) (S.aZ 3) (S.aH (S.wW 2 G (S.cC jx G hr (by rfl) (S.aj (S.cM 0 G (S.bz S.aN)) (S.aj (S.aJ 3) (S.aj (S.cM 2 G (S.bz (S.wL S.aN))) S.aB))) (bf (bf (bf len0)))))))
   (S.aH (S.bj (S.iC G bL (S.bu (S.cO 2)))))))))
theorem Hk:bC ["_law_order_here","_law_word_here"] ["_law_order_here","_law_word_here"] (aD lC):=gU
theorem nY(F:bD K mg "_law_made" lC ["_law_order_here","_law_word_here"])(nW:Own P w K mg base "_law_walk" 5 ["_law_order_here","_law_word_here"] (iJ K 2 jD)):Own P w K mg base "_law_made" 6 ["_law_order_here","_law_word_here"] (iJ K 2 lK):=by
 exact bU (k:=5) F Hk (fun f cdv A outer s H E hr G=>(S.fu.u (S.aH (S.bj (S.uK G (S.cC nW G hr (by rfl) (S.aj (S.aJ 0) (S.aj (S.aJ 1) S.aB)) (bf (bf len0))) (S.bz (S.wL S.aN)))))))
theorem xO:bC ["_law_many","_law_found","_law_turn","_law_further","_law_some"] ["_law_many"] (aD fJ):=gU
theorem gW(F:bD K mg "_law_orderings" fJ ["_law_many"])(bH:mg "range" = none):Own P w K mg base "_law_orderings" 1 ["_law_many"] (iJ K 1 ie):=by
 exact bU (k:=0) F xO (fun f cdv A outer s H E hr G=>(S.fu.u (S.aA (S.bV 1 (S.dw (S.dz (S.aj (S.dZ S.aB) S.aB))))
   (S.aA (S.my G (S.lG bH (S.aj (S.aJ 0) S.aB) (bf len0)) (S.aZ 2) (S.aA (S.p8 3 (S.dz S.aB))
   (S.aA (S.my G (S.gZ G (S.aJ 1)) (S.aZ 4) (S.aH (S.Rf 3 G (S.dw (S.sE ["_law_many","_law_found","_law_turn","_law_further","_law_some","_law_number"] 5 fH G (S.lG bH (S.aj (S.aJ 0) S.aB) (bf len0)) (fun X1 h1=>by have G:=G.at h1;obtain⟨_,_,_,_,_,rfl⟩:=h1;exact(S.aZ 5)) (fun X1 h1=>by have G:=G.at h1;obtain⟨_,_,_,_,_,rfl⟩:=h1;exact(S.jt (S.eN 5 (zP G) (S.cO 4)))) (fun X1 h1=>by have G:=G.at h1;obtain⟨_,_,_,_,_,rfl⟩:=h1;exact(S.dI 4 (fc G) (S.bz (S.dZ (S.aj (S.aJ 5) S.aB))))))))))
   (S.aH (S.bV 1 (S.aJ 3))))))
   (S.aH (S.bj (S.aJ 1)))))))
theorem Hl:bC ["_law_order_here","_law_ordering"] ["_law_order_here","_law_ordering"] (aD lD):=gU
theorem iU(F:bD K mg "_law_laid" lD ["_law_order_here","_law_ordering"])(bL:mg "tuple" = none):Own P w K mg base "_law_laid" 1 ["_law_order_here","_law_ordering"] (iJ K 2 gb):=by
 exact bU (k:=0) F Hl (fun f cdv A outer s H E hr G=>(S.fu.u (S.aH (S.bj (S.dZ (S.aj (S.cM 0 G (S.bz S.aN)) (S.aj (S.iC G bL (S.bu (S.bz (S.dw (S.sE ["_law_order_here","_law_ordering","_law_number"] 2 fH G (S.gZ G (S.aJ 1)) (fun X1 h1=>by have G:=G.at h1;obtain⟨_,_,_,_,_,rfl⟩:=h1;exact(S.aZ 2)) (fun X1 h1=>by have G:=G.at h1;obtain⟨_,_,_,_,_,rfl⟩:=h1;exact S.dX) (fun X1 h1=>by have G:=G.at h1;obtain⟨_,_,_,_,_,rfl⟩:=h1;exact(S.uK G (S.cM 0 G (S.bz S.aN)) (S.cO 2)))))))) S.aB)))))))
theorem Hn:bC ["_law_script","_law_k","_law_order_here","_law_sounds_here","_law_amount","_law_head","_law_some","_law_first","_law_kind","_law_found","_law_j","_law_pack_here","_law_word_here","_law_ordering","_law_form"] ["_law_script","_law_k","_law_order_here","_law_sounds_here","_law_amount"] (aD lF):=gU
theorem nZ(F:bD K mg "_law_book" lF ["_law_script","_law_k","_law_order_here","_law_sounds_here","_law_amount"])(cA:mg "len" = none)(bH:mg "range" = none)(bL:mg "tuple" = none)(iU:Own P w K mg base "_law_laid" 1 ["_law_order_here","_law_ordering"] (iJ K 2 gb))(nY:Own P w K mg base "_law_made" 6 ["_law_order_here","_law_word_here"] (iJ K 2 lK))(gW:Own P w K mg base "_law_orderings" 1 ["_law_many"] (iJ K 1 ie))(fX:Own P w K mg base "_law_pack" 2 ["_law_script","_law_k"] (Vk K 2 di))(aX:Own P w K mg base "_law_take" 1 ["_law_pack_here","_law_size_here"] (jn K 2 aF))(nU:Own P w K mg base "_law_word" 2 ["_law_pack_here","_law_sounds_here","_law_most"] (jn K 3 gO)):Own P w K mg base "_law_book" 7 ["_law_script","_law_k","_law_order_here","_law_sounds_here","_law_amount"] (iJ K 5 jE):=by
 exact bU (k:=6) F Hn (fun f cdv A outer s H E hr G=>(S.fu.u (S.aA (S.p8 5 (S.Dy fX G hr (by rfl) (S.aj (S.aJ 0) (S.aj (S.aJ 1) S.aB)) (bf (bf len0))))
   (S.aA (S.bV 6 (S.cC gW G hr (by rfl) (S.aj (S.jj G cA (S.bu (S.bz (S.cM 2 G (S.bz S.aN))))) S.aB) (bf len0)))
   (S.aA (S.bV 7 (S.cM 6 G (S.bz (S.j0 5 aX G hr (by rfl) (S.aj (S.jj G cA (S.bu (S.cO 6))) S.aB) (fO (bf len0))))))
   (S.aA (S.bV 8 (S.j0 5 aX G hr (by rfl) (S.aj S.aN S.aB) (fO (bf len0))))
   (S.aA (S.p8 9 (S.dz S.aB))
   (S.aA (S.my G (S.lG bH (S.aj (S.iD (fc G) S.aN (S.bz (S.j0 5 aX G hr (by rfl) (S.aj (S.aJ 4) S.aB) (fO (bf len0))))) S.aB) (bf len0)) (S.aZ 10) (S.aA (S.p8 11 (S.Dy fX G hr (by rfl) (S.aj (S.aJ 0) (S.aj (S.iD (fc G) (S.dI 1 (fc G) (S.bz S.aN)) (S.cO 10)) S.aB)) (bf (bf len0))))
   (S.aA (S.bV 12 (S.j0 11 nU G hr (by rfl) (S.aj (S.aJ 3) (S.aj S.aN S.aB)) (fO (bf (bf len0)))))
   (S.aA (S.bV 13 (S.aJ 7))
   (S.aA (S.dq (S.eN 8 (rN G) (S.bz S.aN)) (S.aH (S.bV 13 (S.cM 6 G (S.bz (S.j0 11 aX G hr (by rfl) (S.aj (S.jj G cA (S.bu (S.cO 6))) S.aB) (fO (bf len0))))))) S.bZ)
   (S.aA (S.bV 14 (S.cC nY G hr (by rfl) (S.aj (S.cC iU G hr (by rfl) (S.aj (S.aJ 2) (S.aj (S.aJ 13) S.aB)) (bf (bf len0))) (S.aj (S.aJ 12) S.aB)) (bf (bf len0))))
   (S.aA (S.dq (S.ux (S.jg (S.eN 8 (rN G) (S.bz S.aN)) (S.jr (S.nO (rN G) (S.j0 11 aX G hr (by rfl) (S.aj S.aN S.aB) (fO (bf len0))) (S.bz S.aN))))) (S.aH (S.bV 14 (S.QL G (S.dI 14 (fc G) (S.bz (S.cM 3 G (S.bz (S.j0 11 aX G hr (by rfl) (S.aj (S.jj G cA (S.bu (S.cO 3))) S.aB) (fO (bf len0))))))) (S.iM (S.j0 11 aX G hr (by rfl) (S.aj S.aN S.aB) (fO (bf len0)))) S.j6))) S.bZ)
   (S.aH (S.wW 9 G (S.dZ (S.aj (S.aJ 12) (S.aj (S.GJ (S.aJ 14) S.j6 (S.iM S.aN)) S.aB))))))))))))
   (S.aH (S.bj (S.iC G bL (S.bu (S.cO 9)))))))))))))
theorem Hh:bC ["_law_row"] ["_law_row"] (aD lz):=gU
theorem gK(F:bD K mg "_law_size" lz ["_law_row"])(cA:mg "len" = none):Own P w K mg base "_law_size" 1 ["_law_row"] (iJ K 1 cu):=by
 exact bU (k:=0) F Hh (fun f cdv A outer s H E hr G=>(S.fu.u (S.aA (S.dq (S.eN 0 Yr (S.bz S.o6)) (S.aH (S.bj S.aN)) S.bZ)
   (S.aH (S.bj (S.jj G cA (S.bu (S.cO 0))))))))
theorem aaA:bC ["_law_script","_law_pack_here","_law_sounds_here","_law_order_here","_law_side","_law_rules","_law_book_here","_law_found","_law_told","_law_laid_so","_law_more","_law_greater"] ["_law_script"] (aD wV):=gU
theorem adL{f:Addr}{fd:FuncData}(F:Vu K "law" "law" wV f fd)(qz:mg "all" = none)(cA:mg "len" = none)(nZ:Own P w K mg base "_law_book" 7 ["_law_script","_law_k","_law_order_here","_law_sounds_here","_law_amount"] (iJ K 5 jE))(iU:Own P w K mg base "_law_laid" 1 ["_law_order_here","_law_ordering"] (iJ K 2 gb))(mF:Own P w K mg base "_law_order" 4 ["_law_pack_here","_law_sounds_here","_law_most"] (jn K 3 fU))(fX:Own P w K mg base "_law_pack" 2 ["_law_script","_law_k"] (Vk K 2 di))(iR:Own P w K mg base "_law_rule" 3 ["_law_pack_here","_law_sounds_here"] (jn K 2 dD))(gK:Own P w K mg base "_law_size" 1 ["_law_row"] (iJ K 1 cu))(kh:Own P w K mg base "_law_sounds" 1 ["_law_stock_here"] (iJ K 1 fP))(mD:Own P w K mg base "_law_stock" 2 ["_law_pack_here"] (jn K 1 gF))(mH:Own P w K mg base "fewest" 5 ["side","rules","book"] (iJ K 3 fW))(su:Own P w K mg base "made" 6 ["order","word"] (iJ K 2 mZ))(qd:Own P w K mg base "told_by" 8 ["order","book"] (iJ K 2 lH)):rF P w K mg base GD 9 f fd ["_law_script"] (iJ K 1 Iu):=by
 exact Jd (k:=8) F aaA (fun cdv A outer s H E hr=>by
  have G:=zJ (P:=P) (w:=w) (K:=K) (mg:=mg) (base:=base) (N:=["_law_script","_law_pack_here","_law_sounds_here","_law_order_here","_law_side","_law_rules","_law_book_here","_law_found","_law_told","_law_laid_so","_law_more","_law_greater"]) (outer:=outer) (H:=H) (E:=E) (C:=C0 K) rfl hr
  exact(S.fu.u (S.aA (S.p8 1 (S.Dy fX G hr (by rfl) (S.aj (S.aJ 0) (S.aj S.aN S.aB)) (bf (bf len0))))
   (S.aA (S.bV 2 (S.cC kh G hr (by rfl) (S.aj (S.j0 1 mD G hr (by rfl) S.aB (fO len0)) S.aB) (bf len0)))
   (S.aA (S.bV 3 (S.j0 1 mF G hr (by rfl) (S.aj (S.aJ 2) (S.aj S.aN S.aB)) (fO (bf (bf len0)))))
   (S.aA (S.lU (S.aJ 3) (S.jT G (S.aV (S.aZ 4) (S.aV (S.aZ 5) S.cU))))
   (S.aA (S.bV 6 (S.cC nZ G hr (by rfl) (S.aj (S.aJ 0) (S.aj S.aN (S.aj (S.aJ 3) (S.aj (S.aJ 2) (S.aj S.aN S.aB))))) (bf (bf (bf (bf (bf len0)))))))
   (S.aA (S.bV 7 (S.cC mH G hr (by rfl) (S.aj (S.aJ 4) (S.aj (S.aJ 5) (S.aj (S.aJ 6) S.aB))) (bf (bf (bf len0)))))
   (S.aA (S.bV 8 (S.cC qd G hr (by rfl) (S.aj (S.aJ 3) (S.aj (S.aJ 6) S.aB)) (bf (bf len0))))
   (S.aA (S.dq (S.ux (S.jg (S.nO (rN G) (S.cM 8 G (S.bz S.aN)) (S.bz (S.bY [116,111,108,100] (by decide +kernel)))) (S.jr (S.eN 7 Yr (S.bz S.o6))))) (S.aH (S.bj S.yU)) S.bZ)
   (S.aA (S.dq (S.eN 7 NQ (S.bz S.o6)) (S.aA (S.bV 9 (S.cC iU G hr (by rfl) (S.aj (S.aJ 3) (S.aj (S.aJ 7) S.aB)) (bf (bf len0))))
   (S.aA (S.dq (S.Ft (S.iG (S.GK G qz (S.bu (S.bz (S.dw (S.sE ["_law_script","_law_pack_here","_law_sounds_here","_law_order_here","_law_side","_law_rules","_law_book_here","_law_found","_law_told","_law_laid_so","_law_more","_law_greater","_law_word_here","_law_form"] 12 fH G (S.gZ G (S.aJ 6)) (fun X1 h1=>by have G:=G.at h1;obtain⟨_,_,_,_,_,rfl⟩:=h1;exact(S.jT G (S.aV (S.aZ 12) (S.aV (S.aZ 13) S.cU)))) (fun X1 h1=>by have G:=G.at h1;obtain⟨_,_,_,_,_,rfl⟩:=h1;exact S.dX) (fun X1 h1=>by have G:=G.at h1;obtain⟨_,_,_,_,_,rfl⟩:=h1;exact(S.zW (rN G) (S.cC su G hr (by rfl) (S.aj (S.aJ 9) (S.aj (S.aJ 12) S.aB)) (bf (bf len0))) (S.cO 13)))))))))) (S.aH (S.bj S.yU)) S.bZ)
   (S.aA (S.dq (S.nO (Jm G) (S.cC gK G hr (by rfl) (S.aj (S.cC mH G hr (by rfl) (S.aj (S.aJ 4) (S.aj (S.cM 9 G (S.bz S.aN)) (S.aj (S.aJ 6) S.aB))) (bf (bf (bf len0)))) S.aB) (bf len0)) (S.bz (S.jj G cA (S.bu (S.cO 7))))) (S.aH (S.bj S.yU)) S.bZ)
   (S.aH (S.dq (S.ux (S.jg (S.nO (rN G) (S.jj G cA (S.bu (S.cO 7))) (S.bz (S.jj G cA (S.bu (S.cO 5))))) (S.jr (S.nO (Jm G) (S.cM 8 G (S.bz S.aN)) (S.bz (S.bY [116,111,108,100] (by decide +kernel))))))) (S.aH (S.bj S.yU)) S.bZ))))) S.bZ)
   (S.aA (S.bV 10 (S.QR iR G hr (by rfl) (S.Dy fX G hr (by rfl) (S.aj (S.aJ 0) (S.aj S.aN S.aB)) (bf (bf len0))) (S.aj (S.aJ 2) S.aB) (fO (bf len0))))
   (S.aA (S.bV 11 (S.cC mH G hr (by rfl) (S.aj (S.aJ 4) (S.aj (S.dI 5 (fc G) (S.bz (S.dZ (S.aj (S.aJ 10) S.aB)))) (S.aj (S.aJ 6) S.aB))) (bf (bf (bf len0)))))
   (S.aA (S.dq (S.nO anv (S.cC gK G hr (by rfl) (S.aj (S.aJ 11) S.aB) (bf len0)) (S.bz (S.cC gK G hr (by rfl) (S.aj (S.aJ 7) S.aB) (bf len0)))) (S.aH (S.bj S.yU)) S.bZ)
   (S.aA (S.dq (S.ux (S.jg (S.eN 11 NQ (S.bz S.o6)) (S.jg (S.nO (zP G) (S.jj G cA (S.bu (S.cO 5))) (S.cO 11)) (S.jr (S.eN 11 (Jm G) (S.cO 7)))))) (S.aH (S.bj S.yU)) S.bZ)
   (S.aH (S.bj (S.Hr (S.zW ant (S.jj G cA (S.bu (S.cO 6))) (S.bz S.aN)) (S.Ak (S.zW anu (S.cC gK G hr (by rfl) (S.aj (S.cC mH G hr (by rfl) (S.aj (S.aJ 4) (S.aj (S.aJ 5) (S.aj (S.QK G (S.aJ 6) (S.iM S.aN) S.j6) S.aB))) (bf (bf (bf len0)))) S.aB) (bf len0)) (S.bz (S.cC gK G hr (by rfl) (S.aj (S.aJ 7) S.aB) (bf len0)))))))))))))))))))))))
end
end yR
namespace ni
open Ev
noncomputable def o4:bQ:=yR.o4
noncomputable def gG:List D→Option D:=cP 1 o4
noncomputable def lN:bQ:=aC (aL (aU (.int 0)) (ak 2)) (aC (eO (fG (cG (aa (au bT 1 (aU (.int 1))) (aa (aq 1) (ao))))) (ak 3) (aL (aK bT (au vG 2 (aK Lk (aU (.int 10)) (aU (.int 60)))) (az gG (aa (aK cB (aK bT (vJ (aq 0) (uJ (aq 3)) (uJ (au bT 3 (aU (.int 1))))) (cG (aa (aK bT (aK vG (aU (.int 7919)) (aY 3)) (aU (.int 61))) (ao)))) (aU (.int 0))) (ao)))) (ak 2))) (rR (cG (aa (aq 2) (ao)))))
noncomputable def di:List D→Option D:=runN 4 lN
noncomputable def gm:bQ:=aC (aL (az nu (aa (au cB 0 (aU (.int 0))) (aa (aY 1) ao))) (cV 2 (aQ (Li 0 (aU (.int 0))) (aQ (ak 2) (dh))))) (bh (aq 2))
noncomputable def aF:List D→Option (D×D):=gV 3 gm
noncomputable def oY:bQ:=aC (aL (aK cB (cG (aa (aU (.str [97])) (aa (aU (.str [97,98])) (aa (aU (.str [97,98])) (aa (aU (.str [97,98,99])) (aa (aU (.str [97,101,112,116])) (aa (aU (.str [109,110,122])) (ao)))))))) (cJ aF 0 (aa (aU (.int 6)) (ao)))) (ak 1)) (aC (aL (cG (aa (aU (.str [115,116,111,112])) (aa (aU (.str [115,116,111,112,115])) (aa (aU (.str [115])) (aa (aU (.str [111,112,101,110])) (aa (aU (.str [97,98,99,100,101,102,103,104])) (ao))))))) (ak 2)) (aC (dB 3 (cG (ao))) (aC (eO (fG (aq 1)) (ak 4) (aC (aL (cJ aF 0 (aa (aU (.int 32)) (ao))) (ak 5)) (aC (aL (az iH (aa (fD 7 8 (d9 (aa (aU (.int 5)) (ao))) (ak 7) (cX (aK mJ (aK Im (au Il 5 (aY 7)) (aU (.int 1))) (aU (.int 1)))) (au cB 2 (aY 7))) ao)) (ak 6)) (gq 3 (dm (aa (aq 4) (aa (az du (aa (vJ (aq 6) (jV) (uJ (aU (.int 4)))) ao)) (ao)))))))) (bh (az du (aa (aY 3) ao))))))
noncomputable def gF:List D→Option (D×D):=gV 7 oY
noncomputable def rm:bQ:=bh (aK oh (aU (.str [])) (fD 1 3 (fG (aq 0)) (cV 2 (aQ (ak 1) (aQ (ak 2) (dh)))) (cD) (aq 1)))
noncomputable def fP:List D→Option D:=cP 1 rm
noncomputable def gH:bQ:=aC (cT (cX (aK mJ (cJ aF 0 (aa (aU (.int 2)) (ao))) (aU (.int 0)))) (bh (aU .non)) (bI)) (aC (aL (aK bT (aU (.int 1)) (cJ aF 0 (aa (aK tQ (aK Xx (aU (.int 2)) (az dM (aa (aY 1) ao))) (aU (.int 1))) (ao)))) (ak 2)) (aC (aL (aK bT (aU (.str [35])) (aY 1)) (ak 3)) (bh (az du (aa (fD 4 5 (d9 (aa (az dM (aa (aY 3) ao)) (ao))) (ak 4) (cX (aK mJ (aK Im (au Il 2 (aY 4)) (aU (.int 1))) (aU (.int 1)))) (au cB 3 (aY 4))) ao)))))
noncomputable def fQ:List D→Option (D×D):=gV 4 gH
noncomputable def eE:bQ:=aC (cT (cX (aK mJ (cJ aF 0 (aa (aU (.int 5)) (ao))) (aU (.int 0)))) (bh (dm (aa (dm (aa (aU (.str [])) (aa (au cB 1 (cJ aF 0 (aa (az dM (aa (aY 1) ao)) (ao)))) (ao)))) (ao)))) (bI)) (aC (dB 2 (Bt)) (aC (eO (d9 (aa (aK bT (aU (.int 1)) (cJ aF 0 (aa (aU (.int 3)) (ao)))) (ao))) (ak 3) (aC (aL (au cB 1 (cJ aF 0 (aa (az dM (aa (aY 1) ao)) (ao)))) (ak 4)) (aC (dB 5 (fD 6 7 (fG (aK bT (az uH (aa (aY 1) ao)) (cG (aa (aU (.str [])) (ao))))) (ak 6) (cX (au xD 6 (aY 4))) (aq 6))) (o5 2 (aq 4) (au cB 5 (cJ aF 0 (aa (az dM (aa (aY 5) ao)) (ao)))))))) (bh (az du (aa (fD 6 7 (fG (az iH (aa (aY 2) ao))) (ak 6) (cD) (dm (aa (aq 6) (aa (au iY 2 (aY 6)) (ao))))) ao)))))
noncomputable def gh:List D→Option (D×D):=gV 6 eE
noncomputable def jF:bQ:=aC (aL (aK cB (cG (aa (aU (.str [111,110,99,101])) (aa (aU (.str [97,108,111,110,103])) (ao)))) (cJ aF 0 (aa (aU (.int 2)) (ao)))) (ak 2)) (aC (aL (cJ gh 0 (aa (aq 1) (ao))) (ak 3)) (bh (dm (aa (aq 2) (aa (aq 3) (aa (cJ fQ 0 (aa (aq 1) (ao))) (aa (cJ fQ 0 (aa (aq 1) (ao))) (ao))))))))
noncomputable def dD:List D→Option (D×D):=gV 4 jF
end ni
namespace ni
open Ev PySem L2
theorem uD{i:Int}{b:Nat}(h:i.natAbs<2^b):Builtin.Int.intBits i≤b:=by
 unfold Builtin.Int.intBits
 split
 ·exact Nat.zero_le _
 ·rename_i h0
  have hz:i.natAbs≠0:=fun z=>h0 (by rw[Int.natAbs_eq_zero.mp z];rfl)
  exact(Nat.log2_lt hz).mpr h
theorem uR{i j:Int}{a b:Nat}(h1:Builtin.Int.intBits i≤a)(h2:Builtin.Int.intBits j≤b)(h:a+b≤134217728):lX i j=true:=
 decide_eq_true (by omega)
noncomputable def KD(i:Int):Int:=i*262406895267124108351839057402211873468251940277165213587343 % 10^60
theorem WY(i:Int):(KD i).natAbs<2^200:=by
 unfold KD
 have h1:0≤i*262406895267124108351839057402211873468251940277165213587343 % 10^60:=Int.emod_nonneg _ (by decide)
 have h2:i*262406895267124108351839057402211873468251940277165213587343 % 10^60<10^60:=Int.emod_lt_of_pos _ (by decide)
 have h3:(10:Int)^60≤2^200:=by decide
 omega
theorem mixed{i:Int}(h:Builtin.Int.intBits i≤2^20):gG [.int i]=some (.int (KD i)):=by
 have hm:lX i 262406895267124108351839057402211873468251940277165213587343=true:=uR h (uD (b:=198) (by decide)) (by decide)
 have e1:au vG 0 (aU (.int 262406895267124108351839057402211873468251940277165213587343)) [some (false,.int i)] = .ok (.int (i*262406895267124108351839057402211873468251940277165213587343)) [some (false,.int i)]:=by
  show dY (gI lX (fun i j=>D.int (i*j)) (.int i) (.int _)) _=_
  unfold gI
  simp only
  rw[if_pos hm]
  rfl
 show(match bh _ [some (false,.int i)] with|.rt false d _=>some d|.nx _=>some .non|_=>none)=_
 rw[cR (d:=.int (KD i)) (e:=[some (false,.int i)])]
 unfold aK
 rw[e1]
 rfl
theorem Ym{α:Type}{xs:List α}{lo hi:Option Int}{x:α}(h:x∈cutD xs lo hi):x∈xs:=List.mem_of_mem_drop (List.mem_of_mem_take h)
theorem U8{α:Type}(x:α)(r:List α):pN (x::r) 0=some x:=mj (j:=0) rfl
noncomputable def nR:bQ:=aL (aK bT (au vG 2 (aK Lk (aU (.int 10)) (aU (.int 60)))) (az gG (aa (aK cB (aK bT (vJ (aq 0) (uJ (aq 3)) (uJ (au bT 3 (aU (.int 1))))) (cG (aa (aK bT (aK vG (aU (.int 7919)) (aY 3)) (aU (.int 61))) (ao)))) (aU (.int 0))) (ao)))) (ak 2)
theorem Dw(ns:List Int)(hl:ns.length≤63)(hb:Ju ns)(k a f:Int)(ha:a.natAbs<2^10)(hf:Builtin.Int.intBits f≤2^20) :
  ∃f':Int,nR [some (false,.arr (ns.map .int)),some (false,.int k),some (false,.int f),some (false,.int a)] = .nx [some (false,.arr (ns.map .int)),some (false,.int k),some (false,.int f'),some (false,.int a)]∧(f=0→f'.natAbs<2^200):=by
 generalize hE:([some (false,.arr (ns.map .int)),some (false,.int k),some (false,.int f),some (false,.int a)]:Ev.Env)=env
 have m1:lX 7919 a=true:=uR (a:=20) (b:=10) (uD (by decide)) (uD ha) (by decide)
 have m2:lX f (10^(60:Int).toNat)=true:=uR (b:=200) hf (uD (by decide)) (by decide)
 have e1:vJ (aq 0) (uJ (aq 3)) (uJ (au bT 3 (aU (.int 1)))) env = .ok (.lst (cutD (ns.map .int) (some a) (some (a+1)))) env:=by rw[←hE];rfl
 have e2:cG (aa (aK bT (aK vG (aU (.int 7919)) (aY 3)) (aU (.int 61))) (ao)) env = .ok (.lst [.int (7919*a+61)]) env:=by
  refine Ur (bA (cH (cH (x:=.int 7919) (y:=.int a) (e1:=env) (e2:=env) rfl (by rw[←hE];rfl) (Nk m1)) (y:=.int 61) rfl rfl) cW) (by show 1≤sizeLine;decide)
 generalize hL:cutD (ns.map D.int) (some a) (some (a+1))=L at e1
 have hLl:L.length≤63:=by
  rw[←hL];exact Nat.le_trans (tY _ _ _) (by rw[List.length_map];exact hl)
 have e3:aK bT (vJ (aq 0) (uJ (aq 3)) (uJ (au bT 3 (aU (.int 1))))) (cG (aa (aK bT (aK vG (aU (.int 7919)) (aY 3)) (aU (.int 61))) (ao))) env = .ok (.lst (L++[.int (7919*a+61)])) env:=by
  exact cH e1 e2 (Uc (by show L.length+1≤sizeLine;exact Nat.le_trans (Nat.succ_le_succ hLl) (by decide)))
 obtain⟨c,hc,hcb⟩:∃c:Int,pN (L++[.int (7919*a+61)]) 0=some (.int c)∧Builtin.Int.intBits c≤2^20:=by
  cases hLc:L with
  | nil=>
   refine⟨7919*a+61,rfl,Nat.le_trans (uD (b:=30) ?_) (by decide)⟩
   omega
  | cons y r=>
   have hy:y∈ns.map D.int:=Ym (lo:=some a) (hi:=some (a+1)) (by rw[hL,hLc];exact List.mem_cons_self ..)
   obtain⟨i,hi,rfl⟩:=List.mem_map.mp hy
   exact⟨i,U8 _ _,hb i hi⟩
 have e4:az gG (aa (aK cB (aK bT (vJ (aq 0) (uJ (aq 3)) (uJ (au bT 3 (aU (.int 1))))) (cG (aa (aK bT (aK vG (aU (.int 7919)) (aY 3)) (aU (.int 61))) (ao)))) (aU (.int 0))) (ao)) env = .ok (.int (KD c)) env:=by
  exact bG (bA (cH (y:=.int 0) e3 rfl hc) cW) (mixed hcb)
 refine⟨f*10^(60:Int).toNat+KD c,?_,fun h0=>?_⟩
 ·unfold nR
  refine dg (d:=.int (f*10^(60:Int).toNat+KD c)) (e:=env) ?_ (by rw[←hE];rfl)
  have e5:au vG 2 (aK Lk (aU (.int 10)) (aU (.int 60))) env = .ok (.int (f*10^(60:Int).toNat)) env:=by
   rw[←hE]
   exact bM (o:=false) (o':=false) (x:=.int f) (x0:=.int f) rfl rfl rfl (Nk m2)
  exact cH e5 e4 rfl
 ·rw[h0,Int.zero_mul,Int.zero_add]
  exact WY c
theorem pack(ns:List Int)(hl:ns.length≤63)(hb:Ju ns)(k:Int)(h0:0≤k)(h1:k≤500):∃p:Int,di [.arr (ns.map .int),.int k]=some (.lst [.int p]):=by
 obtain⟨f1,e1,b1⟩:=Dw ns hl hb k (k+1) 0 (by omega) (by decide)
 obtain⟨f2,e2,_⟩:=Dw ns hl hb k k f1 (by omega) (Nat.le_trans (uD (b1 rfl)) (by decide))
 refine⟨f2,?_⟩
 have h:lN [some (false,.arr (ns.map .int)),some (false,.int k),none,none] = .rt true (.lst [.int f2]) [some (false,.arr (ns.map .int)),some (false,.int k),some (false,.int f2),some (false,.int k)]:=by
  unfold lN
  refine(aP (e:=[some (false,.arr (ns.map .int)),some (false,.int k),some (false,.int 0),none]) (by rfl)).trans ?_
  refine(aP (e:=[some (false,.arr (ns.map .int)),some (false,.int k),some (false,.int f2),some (false,.int k)]) ?_).trans rfl
  refine(jm (ds:=[.int (k+1),.int k]) (e:=[some (false,.arr (ns.map .int)),some (false,.int k),some (false,.int 0),none]) (by rfl)).trans ?_
  show j4 (ak 3) nR [.int (k+1),.int k] _=_
  unfold j4
  show(match nR [some (false,.arr (ns.map .int)),some (false,.int k),some (false,.int 0),some (false,.int (k+1))] with|.nx e2=>j4 (ak 3) nR [.int k] e2|.ct e2=>_|.bk e2=>_|.rt o d e2=>_|.stuck=>_)=_
  rw[e1]
  simp only
  unfold j4
  show(match nR [some (false,.arr (ns.map .int)),some (false,.int k),some (false,.int f1),some (false,.int k)] with|.nx e2=>j4 (ak 3) nR [] e2|.ct e2=>_|.bk e2=>_|.rt o d e2=>_|.stuck=>_)=_
  rw[e2]
  rfl
 show(match lN _ with|.rt true d _=>some d|_=>none)=_
 have e:envOf 4 [D.arr (ns.map .int),.int k]=[some (false,.arr (ns.map .int)),some (false,.int k),none,none]:=rfl
 rw[e,h]
noncomputable def known:D:=.lst [.str [115,116,111,112],.str [115,116,111,112,115],.str [115],.str [111,112,101,110],.str [97,98,99,100,101,102,103,104]]
noncomputable def zE:bQ:=aL (az iH (aa (fD 7 8 (d9 (aa (aU (.int 5)) (ao))) (ak 7) (cX (aK mJ (aK Im (au Il 5 (aY 7)) (aU (.int 1))) (aU (.int 1)))) (au cB 2 (aY 7))) ao)) (ak 6)
noncomputable def mk(d:Nat):D:=match zE [none,none,some (false,known),none,none,some (false,.int d),none] with
 | .nx e=>(match e[6]? with|some (some (_,z))=>z|_=>.non)
 | _=>.non
noncomputable def AllB(P:Nat→Prop):Nat→Prop
 | 0=>True
 | n+1=>AllB P n∧P n
theorem v7{P:Nat→Prop}:∀{n:Nat},AllB P n→∀d,d<n→P d
 | 0,_,d,h=>absurd h (Nat.not_lt_zero d)
 | n+1,⟨a,b⟩,d,h=>by
  by_cases e:d=n
  ·subst e;exact b
  ·exact v7 a d (by omega)
theorem marks(d:Nat)(hd:d<32)(a b c e f:Option (Bool×D)):zE [a,b,some (false,known),c,e,some (false,.int d),f] = .nx [a,b,some (false,known),c,e,some (false,.int d),some (false,mk d)]:=by
 refine v7 (P:=fun d=>zE [a,b,some (false,known),c,e,some (false,.int (d:Nat)),f] = .nx [a,b,some (false,known),c,e,some (false,.int (d:Nat)),some (false,mk d)]) (n:=32) ?_ d hd
 refine⟨⟨⟨⟨⟨⟨⟨⟨⟨⟨⟨⟨⟨⟨⟨⟨⟨⟨⟨⟨⟨⟨⟨⟨⟨⟨⟨⟨⟨⟨⟨⟨trivial,?_⟩,?_⟩,?_⟩,?_⟩,?_⟩,?_⟩,?_⟩,?_⟩,?_⟩,?_⟩,?_⟩,?_⟩,?_⟩,?_⟩,?_⟩,?_⟩,?_⟩,?_⟩,?_⟩,?_⟩,?_⟩,?_⟩,?_⟩,?_⟩,?_⟩,?_⟩,?_⟩,?_⟩,?_⟩,?_⟩,?_⟩,?_⟩<;>kernel_rfl
noncomputable def aij:D→Bool
 | .lst _=>true
 | _=>false
theorem abB(d:Nat)(hd:d<32):∃zs,mk d = .lst zs:=by
 have h:((List.range 32).all fun d=>aij (mk d))=true:=by decide +kernel
 have h1:=List.all_eq_true.mp h d (List.mem_range.mpr hd)
 cases e:mk d with
 | lst zs=>exact⟨zs,rfl⟩
 | _=>rw[e] at h1;cases h1
inductive Rows:List D→List D→Prop where
 | nil:Rows [] []
 | cons {s m:D} {ss rs:List D}:Rows ss rs→Rows (s::ss) (.tup [s,m]::rs)
theorem Rows.snoc{ss rs:List D}(h:Rows ss rs)(s m:D):Rows (ss++[s]) (rs++[.tup [s,m]]):=by
 induction h with
 | nil=>exact .cons .nil
 | cons _ ih=>exact .cons ih
theorem Rows.len{ss rs:List D}(h:Rows ss rs):rs.length=ss.length:=by
 induction h with
 | nil=>rfl
 | cons _ ih=>rw[List.length_cons,List.length_cons,ih]
theorem gC{i:Nat}{a:Ev}{env e:Ev.Env}{d:D}{xs x0:List D}(h0:env[i]? = some (some (true,.lst x0)))(h1:a env = .ok d e)(h2:e[i]? = some (some (true,.lst xs)))(hz:xs.length<sizeLine):gq i a env = .nx (e.set i (some (true,.lst (xs++[d])))):=by
 unfold gq
 rw[h0]
 show dW (a env) _=_
 rw[h1]
 show(match e[i]? with|some (some (true,.lst xs))=>if xs.length<sizeLine then Out.nx (e.set i (some (true,.lst (xs++[d])))) else .stuck|_=>.stuck)=_
 rw[h2]
 show(if xs.length<sizeLine then _ else _)=_
 rw[if_pos hz]
noncomputable def xM:bQ:=aC (aL (cJ aF 0 (aa (aU (.int 32)) (ao))) (ak 5)) (aC zE (gq 3 (dm (aa (aq 4) (aa (az du (aa (vJ (aq 6) (jV) (uJ (aU (.int 4)))) ao)) (ao))))))
theorem J4(n:Int)(b v5 v6:Option (Bool×D))(acc:List D)(s:D)(ha:acc.length≤10):∃m v5' v6',xM [some (true,.lst [.int n]),b,some (false,known),some (true,.lst acc),some (false,s),v5,v6] = .nx [some (true,.lst [.int (n / 32)]),b,some (false,known),some (true,.lst (acc++[.tup [s,m]])),some (false,s),v5',v6']:=by
 obtain⟨d,hd,e⟩:=dig n 32 (by decide)
 obtain⟨zs,hz⟩:=abB d hd
 refine⟨.tup (cutD zs none (some 4)),some (false,.int d),some (false,.lst zs),?_⟩
 unfold xM
 refine(aP (e:=[some (true,.lst [.int (n / 32)]),b,some (false,known),some (true,.lst acc),some (false,s),some (false,.int (n % (32:Nat))),v6]) (by rfl)).trans ?_
 rw[e]
 refine(aP (marks d hd _ _ _ _ _)).trans ?_
 rw[hz]
 exact gC (x0:=acc) (xs:=acc) (e:=[some (true,.lst [.int (n / 32)]),b,some (false,known),some (true,.lst acc),some (false,s),some (false,.int d),some (false,.lst zs)]) rfl rfl rfl (Nat.lt_of_le_of_lt ha (by decide))
noncomputable def XS:List (List Nat):=[[97],[97,98],[97,98,99],[97,101,112,116],[109,110,122]]
theorem wF:∀x∈XS,x.length≤4:=by decide
theorem stock(n:Int):∃x rows n',x∈XS∧gF [.lst [.int n]]=some (.tup rows,.lst [.int n'])∧Rows (Cu x) rows:=by
 obtain⟨d,hd,e⟩:=dig n 6 (by decide)
 obtain⟨x,hx,h1⟩:∃x,x∈XS∧∀m:Int,(fun(k:Int) (m:Int)=>dW (dY (cB (.lst [.str [97],.str [97,98],.str [97,98],.str [97,98,99],.str [97,101,112,116],.str [109,110,122]]) (.int k)) ([some (true,.lst [.int m]),none,none,none,none,none,none]:Ev.Env)) fun d aG=>Dz (ak 1 d aG)) (d:Int) m = .nx [some (true,.lst [.int m]),some (false,.str x),none,none,none,none,none]:=by
  have hc:d=0∨d=1∨d=2∨d=3∨d=4∨d=5:=by omega
  rcases hc with rfl|rfl|rfl|rfl|rfl|rfl
  ·exact⟨[97],by decide,fun m=>rfl⟩
  ·exact⟨[97,98],by decide,fun m=>rfl⟩
  ·exact⟨[97,98],by decide,fun m=>rfl⟩
  ·exact⟨[97,98,99],by decide,fun m=>rfl⟩
  ·exact⟨[97,101,112,116],by decide,fun m=>rfl⟩
  ·exact⟨[109,110,122],by decide,fun m=>rfl⟩
 have hxl:x.length≤4:=wF x hx
 obtain⟨e',f1,n',acc,v4,v5,v6,rfl,hr⟩:=jU (g:=ak 4) (b:=xM) (Cu x) (fun done env=>∃n acc v4 v5 v6,env=[some (true,.lst [.int n]),some (false,.str x),some (false,known),some (true,.lst acc),v4,v5,v6]∧Rows done acc)
  (fun done s rest hall env ⟨n,acc,v4,v5,v6,he,hr⟩=>by
   subst he
   have hd:done.length≤4:=by
    have:=congrArg List.length hall
    unfold Cu at this
    rw[List.length_map,List.length_append,List.length_cons] at this
    omega
   obtain⟨m,w5,w6,hb⟩:=J4 n (some (false,.str x)) v5 v6 acc s (by rw[hr.len];omega)
   exact⟨_,_,rfl,hb,n / 32,_,_,_,_,rfl,hr.snoc s m⟩)
  [some (true,.lst [.int (n / 6)]),some (false,.str x),some (false,known),some (true,.lst []),none,none,none] ⟨_,[],_,_,_,rfl,.nil⟩
 refine⟨x,acc,n',hx,jq (env:=[some (true,.lst [.int n']),some (false,.str x),some (false,known),some (true,.lst acc),v4,v5,v6]) ?_ rfl,hr⟩
 unfold oY
 refine(aP (e:=[some (true,.lst [.int (n / 6)]),some (false,.str x),none,none,none,none,none]) ?_).trans ?_
 ·have h2:=h1 (n / 6)
  rw[←e] at h2
  exact h2
 refine(aP (e:=[some (true,.lst [.int (n / 6)]),some (false,.str x),some (false,known),none,none,none,none]) (by rfl)).trans ?_
 refine(aP (e:=[some (true,.lst [.int (n / 6)]),some (false,.str x),some (false,known),some (true,.lst []),none,none,none]) (by rfl)).trans ?_
 refine(aP (e:=[some (true,.lst [.int n']),some (false,.str x),some (false,known),some (true,.lst acc),v4,v5,v6]) ?_).trans ?_
 ·exact(jm (ds:=Cu x) (by rfl)).trans f1
 ·rfl
end ni
namespace ni
open Ev PySem L2
theorem V7{ss rs:List D}(h:Rows ss rs):∀(a v1 v2:Option (Bool×D)),∃w1 w2,wH (cV 2 (aQ (ak 1) (aQ (ak 2) dh))) cD (aq 1) rs [a,v1,v2] = .ok ss [a,w1,w2]:=by
 induction h with
 | nil=>exact fun a v1 v2=>⟨v1,v2,rfl⟩
 | cons _ ih=>
  rename_i s m ss rs _
  intro a v1 v2
  obtain⟨w1,w2,e⟩:=ih a (some (false,s)) (some (false,m))
  refine⟨w1,w2,?_⟩
  unfold wH
  show bindR (wH _ cD (aq 1) rs [a,some (false,s),some (false,m)]) _=_
  rw[e]
  rfl
theorem OD{x:List Nat}{rs:List D}(hx:x∈XS)(h:Rows (Cu x) rs):fD 1 3 (fG (aq 0)) (cV 2 (aQ (ak 1) (aQ (ak 2) dh))) cD (aq 1) [some (false,.tup rs)] = .ok (.lst (Cu x)) [some (false,.tup rs)]:=by
 obtain⟨w1,w2,e⟩:=V7 h (some (false,.tup rs)) none none
 exact xn (lo:=1) (n:=3) (ds:=rs) (ys:=Cu x) (aG:=[some (false,.tup rs)]) (cQ:=[some (false,.tup rs),w1,w2]) (by rfl) (by rfl) (by exact e) (by unfold Cu;rw[List.length_map];exact Nat.le_trans (wF x hx) (by decide))
theorem join_eq:∀x∈XS,oh (.str []) (.lst (Cu x))=some (.str x):=by
 intro x hx
 unfold XS at hx
 simp only[List.mem_cons,List.not_mem_nil,or_false] at hx
 rcases hx with rfl|rfl|rfl|rfl|rfl<;>kernel_rfl
theorem KY{x:List Nat}{rs:List D}(hx:x∈XS)(h:Rows (Cu x) rs):fP [.tup rs]=some (.str x):=
 gA (cR (cH (x:=.str []) rfl (OD hx h) (join_eq x hx)))
noncomputable def isT:Option D→Bool
 | some (.bl true)=>true
 | _=>false
theorem acE{o:Option D}(h:isT o=true):o=some (.bl true):=by
 cases o with
 | none=>cases h
 | some d=>cases d with
  | bl b=>cases b with
   | true=>rfl
   | false=>cases h
  | _=>cases h
noncomputable def M(x:List Nat):Nat:=2*2^x.length - 1
noncomputable def uM:bQ:=aC (aL (aK bT (aU (.str [35])) (aY 1)) (ak 3)) (bh (az du (aa (fD 4 5 (d9 (aa (az dM (aa (aY 3) ao)) (ao))) (ak 4) (cX (aK mJ (aK Im (au Il 2 (aY 4)) (aU (.int 1))) (aU (.int 1)))) (au cB 3 (aY 4))) ao)))
noncomputable def YF(x:List Nat)(d:Nat):D:=match uM [none,some (false,.str x),some (false,.int (1+(d:Int))),none] with
 | .rt _ r _=>r
 | _=>.non
noncomputable def SG(x:List Nat):List D:=.non::(List.range (M x)).map (YF x)
theorem VV(a:Option (Bool×D)):∀x∈XS,∀d,d<M x→∃e3,uM [a,some (false,.str x),some (false,.int (1+(d:Int))),none] = .rt false (YF x d) [a,some (false,.str x),some (false,.int (1+(d:Int))),e3]:=by
 intro x hx d hd
 refine⟨some (false,.str (35::x)),?_⟩
 unfold XS at hx
 simp only[List.mem_cons,List.not_mem_nil,or_false] at hx
 rcases hx with rfl|rfl|rfl|rfl|rfl
 ·refine v7 (P:=fun d=>uM [a,some (false,.str [97]),some (false,.int (1+((d:Nat):Int))),none] = .rt false (YF [97] d) [a,some (false,.str [97]),some (false,.int (1+((d:Nat):Int))),some (false,.str (35::[97]))]) (n:=3) ?_ d hd
  refine⟨⟨⟨trivial,?_⟩,?_⟩,?_⟩<;>kernel_rfl
 ·refine v7 (P:=fun d=>uM [a,some (false,.str [97,98]),some (false,.int (1+((d:Nat):Int))),none] = .rt false (YF [97,98] d) [a,some (false,.str [97,98]),some (false,.int (1+((d:Nat):Int))),some (false,.str (35::[97,98]))]) (n:=7) ?_ d hd
  refine⟨⟨⟨⟨⟨⟨⟨trivial,?_⟩,?_⟩,?_⟩,?_⟩,?_⟩,?_⟩,?_⟩<;>kernel_rfl
 ·refine v7 (P:=fun d=>uM [a,some (false,.str [97,98,99]),some (false,.int (1+((d:Nat):Int))),none] = .rt false (YF [97,98,99] d) [a,some (false,.str [97,98,99]),some (false,.int (1+((d:Nat):Int))),some (false,.str (35::[97,98,99]))]) (n:=15) ?_ d hd
  refine⟨⟨⟨⟨⟨⟨⟨⟨⟨⟨⟨⟨⟨⟨⟨trivial,?_⟩,?_⟩,?_⟩,?_⟩,?_⟩,?_⟩,?_⟩,?_⟩,?_⟩,?_⟩,?_⟩,?_⟩,?_⟩,?_⟩,?_⟩<;>kernel_rfl
 ·refine v7 (P:=fun d=>uM [a,some (false,.str [97,101,112,116]),some (false,.int (1+((d:Nat):Int))),none] = .rt false (YF [97,101,112,116] d) [a,some (false,.str [97,101,112,116]),some (false,.int (1+((d:Nat):Int))),some (false,.str (35::[97,101,112,116]))]) (n:=31) ?_ d hd
  refine⟨⟨⟨⟨⟨⟨⟨⟨⟨⟨⟨⟨⟨⟨⟨⟨⟨⟨⟨⟨⟨⟨⟨⟨⟨⟨⟨⟨⟨⟨⟨trivial,?_⟩,?_⟩,?_⟩,?_⟩,?_⟩,?_⟩,?_⟩,?_⟩,?_⟩,?_⟩,?_⟩,?_⟩,?_⟩,?_⟩,?_⟩,?_⟩,?_⟩,?_⟩,?_⟩,?_⟩,?_⟩,?_⟩,?_⟩,?_⟩,?_⟩,?_⟩,?_⟩,?_⟩,?_⟩,?_⟩,?_⟩<;>kernel_rfl
 ·refine v7 (P:=fun d=>uM [a,some (false,.str [109,110,122]),some (false,.int (1+((d:Nat):Int))),none] = .rt false (YF [109,110,122] d) [a,some (false,.str [109,110,122]),some (false,.int (1+((d:Nat):Int))),some (false,.str (35::[109,110,122]))]) (n:=15) ?_ d hd
  refine⟨⟨⟨⟨⟨⟨⟨⟨⟨⟨⟨⟨⟨⟨⟨trivial,?_⟩,?_⟩,?_⟩,?_⟩,?_⟩,?_⟩,?_⟩,?_⟩,?_⟩,?_⟩,?_⟩,?_⟩,?_⟩,?_⟩,?_⟩<;>kernel_rfl
theorem signs(n:Int)(x:List Nat)(hx:x∈XS):∃r n',fQ [.lst [.int n],.str x]=some (r,.lst [.int n'])∧r∈SG x:=by
 obtain⟨d,hd,e⟩:=dig n 2 (by decide)
 have t:cX (aK mJ (cJ aF 0 (aa (aU (.int 2)) (ao))) (aU (.int 0))) [some (true,.lst [.int n]),some (false,.str x),none,none] = .ok ((d:Int) == 0) [some (true,.lst [.int (n / 2)]),some (false,.str x),none,none]:=by
  rw[←e]
  rfl
 have hc:d=0∨d=1:=by omega
 rcases hc with rfl|rfl
 ·refine⟨.non,n / 2,jq (env:=[some (true,.lst [.int (n / 2)]),some (false,.str x),none,none]) ?_ rfl,List.mem_cons_self ..⟩
  unfold gH
  refine(pY (e:=[some (true,.lst [.int (n / 2)]),some (false,.str x),none,none]) ?_).trans rfl
  exact(kY (e:=[some (true,.lst [.int (n / 2)]),some (false,.str x),none,none]) t).trans rfl
 ·obtain⟨k,hk,ek⟩:=dig (n / 2) (M x) (by unfold M;have:0<2^x.length:=Nat.two_pow_pos _;omega)
  obtain⟨e3,h3⟩:=VV (some (true,.lst [.int (n / 2 / (M x:Int))])) x hx k hk
  refine⟨YF x k,n / 2 / (M x:Int),jq (env:=[some (true,.lst [.int (n / 2 / (M x:Int))]),some (false,.str x),some (false,.int (1+(k:Int))),e3]) ?_ rfl,List.mem_cons_of_mem _ (List.mem_map.mpr ⟨k,List.mem_range.mpr hk,rfl⟩)⟩
  unfold gH
  refine(aP (e:=[some (true,.lst [.int (n / 2)]),some (false,.str x),none,none]) ?_).trans ?_
  ·exact(kZ (e:=[some (true,.lst [.int (n / 2)]),some (false,.str x),none,none]) t).trans rfl
  ·refine(aP (e:=[some (true,.lst [.int (n / 2 / (M x:Int))]),some (false,.str x),some (false,.int (1+n / 2 % (M x:Int))),none]) ?_).trans ?_
   ·unfold XS at hx
    simp only[List.mem_cons,List.not_mem_nil,or_false] at hx
    rcases hx with rfl|rfl|rfl|rfl|rfl<;>rfl
   ·rw[ek]
    exact h3
end ni
namespace ni
open Ev PySem L2
noncomputable def oth(x:List Nat)(c:Nat):List D:=((x.map (fun a=>[a])++[[]]).filter fun z=>z != [c]).map .str
noncomputable def PV(x:List Nat):List (Nat×D):=x.flatMap fun c=>(oth x c).map fun v=>(c,v)
noncomputable def one:bQ:=aL (au cB 1 (cJ aF 0 (aa (az dM (aa (aY 1) ao)) (ao)))) (ak 4)
noncomputable def others:bQ:=dB 5 (fD 6 7 (fG (aK bT (az uH (aa (aY 1) ao)) (cG (aa (aU (.str [])) (ao))))) (ak 6) (cX (au xD 6 (aY 4))) (aq 6))
noncomputable def Hs:bQ:=o5 2 (aq 4) (au cB 5 (cJ aF 0 (aa (az dM (aa (aY 5) ao)) (ao))))
theorem Pj(a b v3 v5:Option (Bool×D)):∀x∈XS,∀c∈x,others [a,some (false,.str x),b,v3,some (false,.str [c]),v5] = .nx [a,some (false,.str x),b,v3,some (false,.str [c]),some (true,.lst (oth x c))]:=by
 intro x hx c hc
 unfold XS at hx
 simp only[List.mem_cons,List.not_mem_nil,or_false] at hx
 rcases hx with rfl|rfl|rfl|rfl|rfl<;>simp only[List.mem_cons,List.not_mem_nil,or_false] at hc
 ·subst hc;kernel_rfl
 ·rcases hc with rfl|rfl<;>kernel_rfl
 ·rcases hc with rfl|rfl|rfl<;>kernel_rfl
 ·rcases hc with rfl|rfl|rfl|rfl<;>kernel_rfl
 ·rcases hc with rfl|rfl|rfl<;>kernel_rfl
theorem WL:∀x∈XS,∀c∈x,(oth x c).length=x.length:=by decide +kernel
theorem yQ:∀x∈XS,0<x.length:=by decide
theorem lQ(n:Int)(m:Nat)(h0:0<m)(h1:m<1073741824):aF [.lst [.int n],.int (m:Int)]=some (.int (n % m),.lst [.int (n / m)]):=by
 refine jq (env:=[some (true,.lst [.int (n / m)]),some (false,.int m),some (false,.int (n % m))]) ?_ rfl
 unfold gm
 have g:nu [.int n,.int (m:Int)]=some (.tup [.int (n / m),.int (n % m)]):=by
  show(if 0<(m:Int)∧(m:Int)<1073741824 then _ else _)=_
  rw[if_pos (by omega)]
 refine(aP (e:=[some (true,.lst [.int (n / m)]),some (false,.int m),some (false,.int (n % m))]) ?_).trans rfl
 exact dg (bG (ds:=[.int n,.int (m:Int)]) (e:=[some (true,.lst [.int n]),some (false,.int m),none]) (by rfl) g) (by rfl)
theorem Oo{i:Nat}{k a:Ev}{env e1 e2:Ev.Env}{d kd x0:D}{o:Bool}{q:Key}{kvs:List (D×D)}(h1:a env = .ok d e1)(h2:e1[i]? = some (some (o,x0)))(h3:k e1 = .ok kd e2)(h4:e2[i]? = some (some (true,.dct kvs)))(h5:rM kd=some q)(hz:kvs.length<sizeLine) :
  o5 i k a env = .nx (e2.set i (some (true,.dct (putD kvs kd q d)))):=by
 unfold o5
 rw[h1]
 simp only[dW]
 rw[h2]
 simp only
 rw[h3]
 simp only
 rw[h4,h5]
 simp only
 rw[if_pos hz]
noncomputable def Rt(kvs:List (D×D))(p:Nat×D):List (D×D):=putD kvs (.str [p.1]) (.inr (strOf [p.1])) p.2
theorem round(n:Int)(x:List Nat)(hx:x∈XS)(kvs:List (D×D))(hk:kvs.length≤10)(v3 v4 v5:Option (Bool×D)):∃p n' v4' v5',p∈PV x∧aC one (aC others Hs) [some (true,.lst [.int n]),some (false,.str x),some (true,.dct kvs),v3,v4,v5] = .nx [some (true,.lst [.int n']),some (false,.str x),some (true,.dct (Rt kvs p)),v3,v4',v5']:=by
 have hp:=yQ x hx
 have hl4:=wF x hx
 obtain⟨d,hd,e⟩:=dig n x.length hp
 have hc:x[d]∈x:=List.getElem_mem hd
 have hol:=WL x hx x[d] hc
 obtain⟨d',hd',e'⟩:=dig (n / (x.length:Int)) x.length hp
 have hv:d'<(oth x x[d]).length:=by rw[hol];exact hd'
 refine⟨(x[d],(oth x x[d])[d']),n / (x.length:Int) / (x.length:Int),some (false,.str [x[d]]),some (true,.lst (oth x x[d])),?_,?_⟩
 ·unfold PV
  exact List.mem_flatMap.mpr ⟨x[d],hc,List.mem_map.mpr ⟨_,List.getElem_mem hv,rfl⟩⟩
 ·refine(aP (e:=[some (true,.lst [.int (n / (x.length:Int))]),some (false,.str x),some (true,.dct kvs),v3,some (false,.str [x[d]]),v5]) ?_).trans ?_
  ·unfold one
   refine dg (d:=.str [x[d]]) (e:=[some (true,.lst [.int (n / (x.length:Int))]),some (false,.str x),some (true,.dct kvs),v3,v4,v5]) ?_ (by rfl)
   refine bM (o:=false) (o':=false) (x:=.str x) (x0:=.str x) (y:=.int (n % (x.length:Int))) (by rfl) ?_ (by rfl) ?_
   ·exact lZ (x:=.lst [.int n]) (x0:=.lst [.int n]) (ds:=[.int (x.length:Int)]) (e1:=[some (true,.lst [.int n]),some (false,.str x),some (true,.dct kvs),v3,v4,v5]) (by rfl) (by rfl) (by rfl) (lQ n x.length hp (by omega))
   ·show(pN x (n % (x.length:Int))).map _=_
    rw[e,Gv hd]
    rfl
  ·refine(aP (Pj _ _ _ _ x hx x[d] hc)).trans ?_
   unfold Hs
   refine(Oo (d:=(oth x x[d])[d']) (kd:=.str [x[d]]) (o:=true) (x0:=.dct kvs) (kvs:=kvs) (q:=.inr (strOf [x[d]])) (e1:=[some (true,.lst [.int (n / (x.length:Int) / (x.length:Int))]),some (false,.str x),some (true,.dct kvs),v3,some (false,.str [x[d]]),some (true,.lst (oth x x[d]))])
    (e2:=[some (true,.lst [.int (n / (x.length:Int) / (x.length:Int))]),some (false,.str x),some (true,.dct kvs),v3,some (false,.str [x[d]]),some (true,.lst (oth x x[d]))]) ?_ (by rfl) (by rfl) (by rfl) (by rfl) (Nat.lt_of_le_of_lt hk (by decide))).trans rfl
   refine bM (o:=true) (o':=true) (x:=.lst (oth x x[d])) (x0:=.lst (oth x x[d])) (y:=.int (n / (x.length:Int) % (x.length:Int))) (by rfl) ?_ (by rfl) ?_
   ·refine lZ (x:=.lst [.int (n / (x.length:Int))]) (x0:=.lst [.int (n / (x.length:Int))]) (ds:=[.int (x.length:Int)]) (e1:=[some (true,.lst [.int (n / (x.length:Int))]),some (false,.str x),some (true,.dct kvs),v3,some (false,.str [x[d]]),some (true,.lst (oth x x[d]))]) (by rfl) ?_ (by rfl) (lQ _ x.length hp (by omega))
    refine bA (d:=.int (x.length:Int)) ?_ cW
    refine bG (ds:=[.lst (oth x x[d])]) (by rfl) ?_
    show some (D.int ((oth x x[d]).length:Int))=_
    rw[hol]
   ·show pN (oth x x[d]) (n / (x.length:Int) % (x.length:Int))=_
    rw[e',Gv hv]
noncomputable def Qq(kvs:List (D×D)):Option D:=match iH [.dct kvs] with
 | some (.lst ks)=>if (ks.all fun k=>(iY (.dct kvs) k).isSome) then some (.tup (ks.map fun k=>.tup [k,(iY (.dct kvs) k).getD .non])) else none
 | _=>none
noncomputable def ad2:bQ:=bh (az du (aa (fD 6 7 (fG (az iH (aa (aY 2) ao))) (ak 6) (cD) (dm (aa (aq 6) (aa (au iY 2 (aY 6)) (ao))))) ao))
theorem Ij{kvs:List (D×D)}{ks:List D}(h:iH [.dct kvs]=some (.lst ks)):ks.length≤64:=by
 obtain⟨zs,h1,h2⟩:=Option.bind_eq_some_iff.mp h
 split at h2
 ·rename_i hz
  cases h2
  rw[List.length_map,(iK zs).length_eq]
  omega
 ·cases h2
theorem Gn{kvs:List (D×D)}{ch:D}(h:Qq kvs=some ch)(a b v3 v4 v5:Option (Bool×D)):ad2 [a,b,some (true,.dct kvs),v3,v4,v5] = .rt false ch [a,b,some (true,.dct kvs),v3,v4,v5]:=by
 unfold Qq at h
 split at h
 ·rename_i ks hs
  split at h
  ·rename_i hall
   cases h
   obtain⟨env',h1,v6,rfl⟩:=M7 (g:=ak 6) (e:=dm (aa (aq 6) (aa (au iY 2 (aY 6)) ao))) (fun env=>∃v6,env=[a,b,some (true,.dct kvs),v3,v4,v5,v6]) (fun k=>.tup [k,(iY (.dct kvs) k).getD .non]) ks [a,b,some (true,.dct kvs),v3,v4,v5,none] ⟨none,rfl⟩
    (fun k hk env ⟨v6,he⟩=>by
     subst he
     obtain⟨v,hv⟩:=Option.isSome_iff_exists.mp (List.all_eq_true.mp hall k hk)
     refine⟨_,[a,b,some (true,.dct kvs),v3,v4,v5,some (false,k)],rfl,?_,some (false,k),rfl⟩
     rw[hv]
     exact tU (ds:=[k,v]) (bA (d:=k) (e1:=[a,b,some (true,.dct kvs),v3,v4,v5,some (false,k)]) (by rfl) (bA (d:=v) (bM (o:=true) (o':=true) (x:=.dct kvs) (x0:=.dct kvs) (y:=k) (by rfl) (by rfl) (by rfl) hv) cW)) (by show 2≤sizeLine;decide))
   refine cR (bG (ds:=[.lst (ks.map fun k=>.tup [k,(iY (.dct kvs) k).getD .non])]) (bA (e1:=[a,b,some (true,.dct kvs),v3,v4,v5]) ?_ cW) rfl)
   refine xn (lo:=6) (n:=7) (ds:=ks) (aG:=[a,b,some (true,.dct kvs),v3,v4,v5]) (cQ:=[a,b,some (true,.dct kvs),v3,v4,v5,v6]) ?_ (by rfl) h1 ?_
   ·exact Nt (d:=.lst ks) (bG (ds:=[.dct kvs]) (by rfl) hs) rfl
   ·rw[List.length_map]
    exact Nat.le_trans (Ij hs) (by decide)
  ·cases h
 ·cases h
structure Gz(x:List Nat)(kvs:List (D×D))(zs:List Nat):Prop where
 keys:kvs.map (·.1)=zs.map fun c=>D.str [c]
 nd:zs.Nodup
 mem:∀c∈zs,c∈x
 vals:∀k v,(k,v)∈kvs→∃c,k = .str [c]∧(c,v)∈PV x
theorem Dk{a b:List Nat}(h:strOf a=strOf b):a=b:=by
 have:=congrArg (fun s:Str=>s.cps.toList) h
 simpa[strOf] using this
theorem xN(q:Key)(d:D):∀kvs:List (D×D),(zm kvs q d).map (·.1)=kvs.map (·.1)
 | []=>rfl
 | (k,e)::r=>by
  unfold zm
  rw[List.map_cons,List.map_cons,xN q d r]
  split<;>rfl
theorem Aa{q:Key}{d:D}:∀{kvs:List (D×D)} {k v:D},(k,v)∈zm kvs q d→(k,v)∈kvs∨(rM k=some q∧v=d)
 | [],_,_,h=>by simp[zm] at h
 | (k',e)::r,k,v,h=>by
  unfold zm at h
  rcases List.mem_cons.mp h with h|h
  ·split at h
   ·rename_i hk
    cases h
    exact .inr ⟨hk,rfl⟩
   ·cases h
    exact .inl (List.mem_cons_self ..)
  ·rcases Aa h with h|h
   ·exact .inl (List.mem_cons_of_mem _ h)
   ·exact .inr h
theorem xH{q:Key}:∀{kvs:List (D×D)},qw kvs q=none→∀k v,(k,v)∈kvs→rM k≠some q
 | [],_,k,v,hm=>by simp at hm
 | (k',e)::r,h,k,v,hm=>by
  unfold qw at h
  split at h
  ·cases h
  ·rename_i hk
   rcases List.mem_cons.mp hm with hm|hm
   ·cases hm;exact hk
   ·exact xH h k v hm
theorem pW{q:Key}{d:D}:∀{kvs:List (D×D)},qw kvs q=some d→∃k,(k,d)∈kvs∧rM k=some q
 | [],h=>by simp[qw] at h
 | (k',e)::r,h=>by
  unfold qw at h
  split at h
  ·rename_i hk
   cases h
   exact⟨k',List.mem_cons_self ..,hk⟩
  ·obtain⟨k,h1,h2⟩:=pW h
   exact⟨k,List.mem_cons_of_mem _ h1,h2⟩
theorem Gz.put{x:List Nat}{kvs:List (D×D)}{zs:List Nat}(h:Gz x kvs zs){p:Nat×D}(hp:p∈PV x)(hx:p.1∈x):∃zs',Gz x (Rt kvs p) zs'∧0<zs'.length∧zs'.length≤zs.length+1:=by
 unfold Rt putD
 cases e:qw kvs (.inr (strOf [p.1])) with
 | none=>
  simp only[Option.isSome_none,Bool.false_eq_true,if_false]
  refine⟨zs++[p.1],⟨?_,?_,fun c hc=>?_,fun k v hm=>?_⟩,by simp,by simp⟩
  ·rw[List.map_append,List.map_append,h.keys];rfl
  ·refine List.nodup_append.mpr ⟨h.nd,List.nodup_cons.mpr ⟨List.not_mem_nil,.nil⟩,fun a ha b hb=>?_⟩
   rcases List.mem_singleton.mp hb with rfl
   rintro rfl
   have hm:D.str [p.1]∈kvs.map (·.1):=by rw[h.keys];exact List.mem_map.mpr ⟨p.1,ha,rfl⟩
   obtain⟨⟨k,v⟩,h1,h2⟩:=List.mem_map.mp hm
   have h2':k = .str [p.1]:=h2
   subst h2'
   exact xH e _ _ h1 rfl
  ·rcases List.mem_append.mp hc with hc|hc
   ·exact h.mem c hc
   ·rw[List.mem_singleton.mp hc];exact hx
  ·rcases List.mem_append.mp hm with hm|hm
   ·exact h.vals k v hm
   ·have:=List.mem_singleton.mp hm
    cases this
    exact⟨p.1,rfl,hp⟩
 | some w=>
  simp only[Option.isSome_some,if_true]
  obtain⟨k0,hk0,_⟩:=pW e
  have hne:0<zs.length:=by
   have:=congrArg List.length h.keys
   rw[List.length_map,List.length_map] at this
   rw[←this]
   exact List.length_pos_of_mem hk0
  refine⟨zs,⟨by rw[xN];exact h.keys,h.nd,h.mem,fun k v hm=>?_⟩,hne,Nat.le_succ _⟩
  rcases Aa hm with hm|⟨hk,rfl⟩
  ·exact h.vals k v hm
  ·have hin:k∈(zm kvs (.inr (strOf [p.1])) p.2).map (·.1):=List.mem_map.mpr ⟨_,hm,rfl⟩
   rw[xN,h.keys] at hin
   obtain⟨c,hc,rfl⟩:=List.mem_map.mp hin
   have:strOf [c]=strOf [p.1]:=by
    have:=Option.some.inj hk
    exact Sum.inr.inj this
   have e2:=Dk this
   cases e2
   exact⟨p.1,rfl,hp⟩
theorem Gy{x:List Nat}{p:Nat×D}(h:p∈PV x):p.1∈x:=by
 unfold PV at h
 obtain⟨c,hc,h⟩:=List.mem_flatMap.mp h
 obtain⟨v,_,rfl⟩:=List.mem_map.mp h
 exact hc
theorem nA(zs:List (List Nat)):jl (zs.map D.str)=some zs:=by
 induction zs with
 | nil=>rfl
 | cons z r ih=>
  rw[List.map_cons]
  unfold jl
  rw[ih]
  rfl
noncomputable def prs(kvs:List (D×D))(ks:List D):List D:=ks.map fun k=>.tup [k,(iY (.dct kvs) k).getD .non]
theorem FQ{x:List Nat}{kvs:List (D×D)}{zs:List Nat}(h:Gz x kvs zs)(k:D)(hk:k∈(jo (zs.map fun c=>[c])).map D.str):∃c v,k = .str [c]∧iY (.dct kvs) k=some v∧(c,v)∈PV x:=by
 obtain⟨z,hz,rfl⟩:=List.mem_map.mp hk
 obtain⟨c,hc,rfl⟩:=List.mem_map.mp ((iK _).mem_iff.mp hz)
 have hm:D.str [c]∈kvs.map (·.1):=by rw[h.keys];exact List.mem_map.mpr ⟨c,hc,rfl⟩
 obtain⟨⟨k,v⟩,h1,h2⟩:=List.mem_map.mp hm
 have h2':k = .str [c]:=h2
 subst h2'
 cases e:qw kvs (.inr (strOf [c])) with
 | none=>exact absurd rfl (xH e _ _ h1)
 | some w=>
  obtain⟨k',h3,h4⟩:=pW e
  obtain⟨c',rfl,h5⟩:=h.vals k' w h3
  have e2:strOf [c']=strOf [c]:=Sum.inr.inj (Option.some.inj h4)
  cases Dk e2
  exact⟨c,w,rfl,e,h5⟩
end ni
namespace Ob
open Ev
noncomputable def gm:bQ:=aC (aL (az nu (aa (au cB 0 (aU (.int 0))) (aa (aY 1) ao))) (cV 2 (aQ (Li 0 (aU (.int 0))) (aQ (ak 2) (dh))))) (bh (aq 2))
noncomputable def aF:List D→Option (D×D):=gV 3 gm
noncomputable def qY:bQ:=bh (aK oh (aU (.str [])) (fD 3 4 (d9 (aa (cJ aF 0 (aa (au bT 2 (aU (.int 1))) (ao))) (ao))) (ak 3) (cD) (au cB 1 (cJ aF 0 (aa (az dM (aa (aY 1) ao)) (ao))))))
noncomputable def gO:List D→Option (D×D):=gV 3 qY
end Ob
namespace Ob
open Ev PySem L2
noncomputable abbrev XS:=ni.XS
theorem yQ:∀x∈XS,0<x.length:=by decide
theorem lQ(n:Int)(m:Nat)(h0:0<m)(h1:m<1073741824):aF [.lst [.int n],.int (m:Int)]=some (.int (n % m),.lst [.int (n / m)]):=by
 refine jq (env:=[some (true,.lst [.int (n / m)]),some (false,.int m),some (false,.int (n % m))]) ?_ rfl
 unfold gm
 have g:nu [.int n,.int (m:Int)]=some (.tup [.int (n / m),.int (n % m)]):=by
  show(if 0<(m:Int)∧(m:Int)<1073741824 then _ else _)=_
  rw[if_pos (by omega)]
 refine(aP (e:=[some (true,.lst [.int (n / m)]),some (false,.int m),some (false,.int (n % m))]) ?_).trans rfl
 exact dg (bG (ds:=[.int n,.int (m:Int)]) (e:=[some (true,.lst [.int n]),some (false,.int m),none]) (by rfl) g) (by rfl)
theorem KN{g:GV}{e:Ev}(P:Ev.Env→Prop)(R:D→Prop):∀(ds:List D) (env:Ev.Env),P env→(∀d∈ds,∀env,P env→∃y e1 e2,g d env=some e1∧e e1 = .ok y e2∧P e2∧R y)→∃ys env',wH g cD e ds env = .ok ys env'∧P env'∧(∀y∈ys,R y)∧ys.length=ds.length
 | [],env,hp,_=>⟨[],env,rfl,hp,fun y hy=>by simp at hy,rfl⟩
 | d::ds,env,hp,h=>by
  obtain⟨y,e1,e2,h1,h2,h3,h4⟩:=h d (List.mem_cons_self ..) env hp
  obtain⟨ys,e3,h5,h6,h7,h8⟩:=KN P R ds e2 h3 fun d' hd=>h d' (List.mem_cons_of_mem _ hd)
  refine⟨y::ys,e3,?_,h6,fun z hz=>?_,by rw[List.length_cons,List.length_cons,h8]⟩
  ·unfold wH
   rw[h1]
   show bindR (e e1) _=_
   rw[h2]
   show bindR (wH g cD e ds e2) _=_
   rw[h5]
   rfl
  ·rcases List.mem_cons.mp hz with rfl|hz
   ·exact h4
   ·exact h7 z hz
theorem DG:∀(zs:List (List Nat)),yX [] zs=zs.flatten
 | []=>rfl
 | x::r=>by
  show r.foldl (fun acc y=>acc++[]++y) x=(x::r).flatten
  have go:∀(r:List (List Nat)) (x:List Nat),r.foldl (fun acc y=>acc++[]++y) x=x++r.flatten:=by
   intro r
   induction r with
   | nil=>intro x;simp
   | cons y r ih=>intro x;rw[List.foldl_cons,ih];simp
  rw[go];rfl
theorem nA(zs:List (List Nat)):jl (zs.map D.str)=some zs:=by
 induction zs with
 | nil=>rfl
 | cons z r ih=>
  rw[List.map_cons]
  unfold jl
  rw[ih]
  rfl
theorem J3{zs:List (List Nat)}{k:Nat}(h:∀z∈zs,z.length≤k):(zs.map List.length).sum≤zs.length*k:=by
 induction zs with
 | nil=>simp
 | cons z r ih=>
  rw[List.map_cons,List.sum_cons,List.length_cons,Nat.add_mul]
  have h1:=h z (List.mem_cons_self ..)
  have h2:=ih fun y hy=>h y (List.mem_cons_of_mem _ hy)
  omega
theorem Qf{zs:List (List Nat)}(h1:zs.length≤100)(h2:∀z∈zs,z.length≤10):joinFits [] zs=true:=by
 refine decide_eq_true ?_
 have:=J3 h2
 have h3:zs.length*10≤1000:=by omega
 show _+zs.length*0≤_
 omega
theorem join_eq{zs:List (List Nat)}(h1:zs.length≤100)(h2:∀z∈zs,z.length≤10):oh (.str []) (.lst (zs.map .str))=some (.str zs.flatten):=by
 show(match jl (zs.map D.str) with|some xs=>if joinFits [] xs=true then some (D.str (yX [] xs)) else none|none=>none)=_
 rw[nA]
 show(if joinFits [] zs=true then _ else _)=_
 rw[if_pos (Qf h1 h2),DG]
theorem Ms{x:List Nat}:∀{ys:List D},(∀y∈ys,∃c∈x,y = .str [c])→∃w:List Nat,ys=(w.map fun c=>[c]).map D.str∧∀c∈w,c∈x
 | [],_=>⟨[],rfl,fun c hc=>by simp at hc⟩
 | y::ys,h=>by
  obtain⟨c,hc,rfl⟩:=h y (List.mem_cons_self ..)
  obtain⟨w,rfl,hw⟩:=Ms fun z hz=>h z (List.mem_cons_of_mem _ hz)
  refine⟨c::w,rfl,fun d hd=>?_⟩
  rcases List.mem_cons.mp hd with rfl|hd
  ·exact hc
  ·exact hw d hd
theorem Ud(w:List Nat):(w.map fun c=>[c]).flatten=w:=by
 induction w with
 | nil=>rfl
 | cons c r ih=>rw[List.map_cons,List.flatten_cons,ih];rfl
theorem Fo{j:Nat}(h:j<1000):xV [.int (j:Int)]=some (fB 0 1 j):=by
 have hf:jz (j:Int)=true:=by
  unfold jz
  rw[Bool.and_eq_true]
  exact⟨decide_eq_true (by omega),decide_eq_true (by omega)⟩
 unfold xV
 simp only
 rw[if_pos hf,Int.toNat_natCast]
theorem xm{a:cL}{env e:Ev.Env}{ds ys:List D}(h:a env = .ok ds e)(h':xV ds=some ys):d9 a env = .ok ys e:=by
 unfold d9
 rw[h]
 show dY (xV ds) e=_
 rw[h']
 rfl
theorem word(n:Int)(x:List Nat)(hx:x∈XS)(m:Nat)(hm:m≤50):∃w n',gO [.lst [.int n],.str x,.int (m:Int)]=some (.str w,.lst [.int n'])∧(∀c∈w,c∈x)∧w.length≤m:=by
 have hp:=yQ x hx
 have hl4:=ni.wF x hx
 obtain⟨d,hd,e⟩:=dig n (m+1) (by omega)
 obtain⟨ys,env',h1,⟨n',v3,rfl⟩,h3,h4⟩:=KN (g:=ak 3) (e:=au cB 1 (cJ aF 0 (aa (az dM (aa (aY 1) ao)) (ao)))) (fun env=>∃n v3,env=[some (true,.lst [.int n]),some (false,.str x),some (false,.int (m:Int)),v3]) (fun y=>∃c∈x,y = .str [c]) (fB 0 1 d)
  [some (true,.lst [.int (n / ((m+1:Nat):Int))]),some (false,.str x),some (false,.int (m:Int)),none] ⟨_,_,rfl⟩
  (fun s _ env ⟨n,v3,he⟩=>by
   subst he
   obtain⟨j,hj,ej⟩:=dig n x.length hp
   refine⟨.str [x[j]],[some (true,.lst [.int n]),some (false,.str x),some (false,.int (m:Int)),some (false,s)],[some (true,.lst [.int (n / (x.length:Int))]),some (false,.str x),some (false,.int (m:Int)),some (false,s)],rfl,?_,⟨_,_,rfl⟩,x[j],List.getElem_mem hj,rfl⟩
   refine bM (o:=false) (o':=false) (x:=.str x) (x0:=.str x) (y:=.int (n % (x.length:Int))) (by rfl) ?_ (by rfl) ?_
   ·exact lZ (x:=.lst [.int n]) (x0:=.lst [.int n]) (ds:=[.int (x.length:Int)]) (e1:=[some (true,.lst [.int n]),some (false,.str x),some (false,.int (m:Int)),some (false,s)]) (by rfl) (by rfl) (by rfl) (lQ n x.length hp (by omega))
   ·show(pN x (n % (x.length:Int))).map _=_
    rw[ej,Gv hj]
    rfl)
 obtain⟨w,rfl,hw⟩:=Ms h3
 have hwl:w.length=d:=by
  have:=h4
  rw[List.length_map,List.length_map,kW] at this
  exact this
 refine⟨w,n',jq (env:=[some (true,.lst [.int n']),some (false,.str x),some (false,.int (m:Int))]) ?_ rfl,hw,by omega⟩
 unfold qY
 refine cR (cH (x:=.str []) (e1:=[some (true,.lst [.int n]),some (false,.str x),some (false,.int (m:Int))]) (by rfl) (y:=.lst ((w.map fun c=>[c]).map D.str)) ?_ ?_)
 ·refine xn (lo:=3) (n:=4) (ds:=fB 0 1 d) (aG:=[some (true,.lst [.int (n / ((m+1:Nat):Int))]),some (false,.str x),some (false,.int (m:Int))]) (cQ:=[some (true,.lst [.int n']),some (false,.str x),some (false,.int (m:Int)),v3]) ?_ (by rfl) h1 ?_
  ·refine xm (ds:=[.int (n % ((m+1:Nat):Int))]) ?_ (by rw[e];exact Fo (by omega))
   refine bA (e1:=[some (true,.lst [.int (n / ((m+1:Nat):Int))]),some (false,.str x),some (false,.int (m:Int))]) ?_ cW
   exact lZ (x:=.lst [.int n]) (x0:=.lst [.int n]) (ds:=[.int ((m+1:Nat):Int)]) (e1:=[some (true,.lst [.int n]),some (false,.str x),some (false,.int (m:Int))]) (by rfl) (by rfl) (by rfl) (lQ n (m+1) (by omega) (by omega))
  ·rw[List.length_map,List.length_map,hwl]
   exact Nat.le_trans (show d≤100 by omega) (by decide)
 ·have:=join_eq (zs:=w.map fun c=>[c]) (by rw[List.length_map];omega) (fun z hz=>by obtain⟨c,_,rfl⟩:=List.mem_map.mp hz;simp)
  rw[Ud] at this
  exact this
noncomputable def texts(x:List Nat):List (List Nat):=[[],[x.headD 0],[x.getLastD 0],[x.headD 0,x.headD 0],[x.headD 0,x.getLastD 0]]
end Ob
namespace uF
open Ev
noncomputable def pM:bQ:=yR.pM
noncomputable def dJ:List D→Option D:=cP 2 pM
noncomputable def oG:bQ:=yR.oG
noncomputable def qj:List D→Option D:=cP 5 oG
noncomputable def lM:bQ:=yR.lM
noncomputable def lJ:List D→Option D:=cP 1 lM
noncomputable def gk:bQ:=aC (aL (aq 0) (cV 4 (aQ (ak 2) (aQ (ak 3) (aQ (ak 4) (aQ (ak 5) (dh))))))) (aC (aL (aK cB (au cB 3 (aU (.int 0))) (aU (.int 1))) (ak 6)) (aC (dB 7 (cG (ao))) (aC (aL (aU (.str [35])) (ak 8)) (aC (eO (fG (au bT 1 (aU (.str [35])))) (ak 9) (aC (cT (cz (cX (az dJ (aa (aq 4) (aa (aq 8) (ao))))) (cX (az dJ (aa (aq 5) (aa (aq 9) (ao)))))) (gq 7 (aq 6)) (bI)) (aC (gq 7 (aq 9)) (aL (aq 9) (ak 8))))) (bh (aK oh (aU (.str [])) (vJ (aq 7) (jV) (uJ (oA qi (aU (.int 1)))))))))))
noncomputable def f9:List D→Option D:=cP 10 gk
noncomputable def eZ:bQ:=aC (aL (aq 0) (cV 4 (aQ (ak 2) (aQ (ak 3) (aQ (ak 4) (aQ (ak 5) (dh))))))) (aC (aL (az rH (aa (aY 3) ao)) (ak 6)) (aC (aL (au bT 1 (aU (.str [35]))) (ak 7)) (aC (dB 8 (cG (ao))) (aC (aL (aU (.str [35])) (ak 9)) (aC (eO (Gh (aa (aq 1) (ao))) (cV 2 (aQ (ak 10) (aQ (ak 11) (dh)))) (aC (aL (aq 11) (ak 12)) (aC (cT (cz (cX (au ou 11 (aY 6))) (cz (cX (az dJ (aa (aq 4) (aa (aq 9) (ao))))) (cX (az dJ (aa (aq 5) (aa (au cB 7 (au bT 10 (aU (.int 1)))) (ao))))))) (aL (au iY 6 (aY 11)) (ak 12)) (bI)) (aC (gq 8 (aq 12)) (cT (cX (au mJ 2 (aU (.str [111,110,99,101])))) (aL (aq 11) (ak 9)) (cT (cX (au xD 12 (aU (.str [])))) (aL (aq 12) (ak 9)) (bI))))))) (bh (aK oh (aU (.str [])) (aY 8))))))))
noncomputable def eY:List D→Option D:=cP 13 eZ
noncomputable def gJ:bQ:=aC (cT (cX (az lJ (aa (aq 0) (ao)))) (bh (az f9 (aa (aq 0) (aa (aq 1) (ao))))) (bI)) (bh (az eY (aa (aq 0) (aa (aq 1) (ao)))))
noncomputable def fV:List D→Option D:=cP 2 gJ
noncomputable def jX:bQ:=aC (cT (cX (au mJ 0 (aU (.str [114,105,103,104,116])))) (bh (ql (az fV (aa (az qj (aa (aq 1) (ao))) (aa (ql (aq 2)) (ao)))))) (bI)) (bh (az fV (aa (aq 1) (aa (aq 2) (ao)))))
noncomputable def dR:List D→Option D:=cP 3 jX
noncomputable def oH:bQ:=yR.pM
noncomputable def bW:List D→Option D:=cP 2 oH
noncomputable def gR:bQ:=aC (aL (aK bT (aK bT (aU (.str [35])) (aY 1)) (aU (.str [35]))) (ak 2)) (aC (aL (aU (.str [])) (ak 3)) (aC (eO (d9 (aa (aU (.int 1)) (aa (az dM (aa (aY 2) ao)) (ao)))) (ak 4) (aC (cT (cz (cX (az bW (aa (au cB 0 (aU (.int 2))) (aa (au cB 2 (au tQ 4 (aU (.int 1)))) (ao))))) (cX (az bW (aa (au cB 0 (aU (.int 3))) (aa (au cB 2 (aY 4)) (ao)))))) (aL (au bT 3 (aK cB (aK cB (au cB 0 (aU (.int 1))) (aU (.int 0))) (aU (.int 1)))) (ak 3)) (bI)) (aL (au bT 3 (au cB 2 (aY 4))) (ak 3)))) (bh (tV (aq 3) (jV) (uJ (oA qi (aU (.int 1))))))))
noncomputable def gP:List D→Option D:=cP 5 gR
noncomputable def eF:bQ:=aC (aL (aq 0) (cV 4 (aQ (ak 2) (aQ (ak 3) (aQ (ak 4) (aQ (ak 5) (dh))))))) (aC (cT (cX (aK mJ (aK cB (au cB 3 (aU (.int 0))) (aU (.int 0))) (aU (.str [])))) (bh (az gP (aa (aq 0) (aa (aq 1) (ao))))) (bI)) (aC (aL (az rH (aa (aY 3) ao)) (ak 6)) (aC (aL (aK bT (aK bT (aU (.str [35])) (aY 1)) (aU (.str [35]))) (ak 7)) (aC (aL (aU (.str [35])) (ak 8)) (aC (eO (d9 (aa (aU (.int 1)) (aa (aK tQ (az dM (aa (aY 7) ao)) (aU (.int 1))) (ao)))) (ak 9) (aC (aL (au cB 7 (au tQ 9 (aU (.int 1)))) (ak 10)) (aC (cT (cX (au mJ 2 (aU (.str [97,108,111,110,103])))) (aL (au cB 8 (oA qi (aU (.int 1)))) (ak 10)) (bI)) (cT (cz (cX (aK ou (au cB 7 (aY 9)) (aY 6))) (cz (cX (az bW (aa (aq 4) (aa (aq 10) (ao))))) (cX (az bW (aa (aq 5) (aa (au cB 7 (au bT 9 (aU (.int 1)))) (ao))))))) (aL (au bT 8 (au iY 6 (au cB 7 (aY 9)))) (ak 8)) (aL (au bT 8 (au cB 7 (aY 9))) (ak 8)))))) (bh (tV (aq 8) (uJ (aU (.int 1))) (jV))))))))
noncomputable def cZ:List D→Option D:=cP 11 eF
noncomputable def gQ:bQ:=yR.gQ
noncomputable def ji:List D→Option D:=cP 1 gQ
noncomputable def eG:bQ:=aC (cT (cX (au mJ 0 (aU (.str [114,105,103,104,116])))) (bh (ql (az cZ (aa (az ji (aa (aq 1) (ao))) (aa (ql (aq 2)) (ao)))))) (bI)) (bh (az cZ (aa (aq 1) (aa (aq 2) (ao)))))
noncomputable def dF:List D→Option D:=cP 3 eG
end uF
namespace uF
open Ev PySem L2
noncomputable abbrev XS:=ni.XS
open ni (yQ wF Gz PV SG Qq prs one others Hs Gn FQ Rt lQ Gy nA)
theorem aeh:∀x∈XS,∀p∈PV x,∃t,p.2 = .str t∧t.length≤1∧∀c∈t,c∈x:=by
 have h:(XS.all fun x=>(PV x).all fun p=>match p.2 with|.str t=>decide (t.length≤1∧∀c∈t,c∈x)|_=>false)=true:=by decide +kernel
 intro x hx p hp
 have:=List.all_eq_true.mp (List.all_eq_true.mp h x hx) p hp
 split at this
 ·rename_i t e
  exact⟨t,e,of_decide_eq_true this⟩
 ·cases this
theorem Ou{x:List Nat}{kvs:List (D×D)}{zs:List Nat}(h:Gz x kvs zs)(h4:zs.length≤4):iH [.dct kvs]=some (.lst ((jo (zs.map fun c=>[c])).map .str)):=by
 have e:kvs.map (·.1)=(zs.map fun c=>[c]).map D.str:=by rw[h.keys,List.map_map];rfl
 show(jl (kvs.map (·.1))).bind _=_
 rw[e,nA]
 show(if _ then _ else _)=_
 rw[if_pos]
 refine⟨by rw[List.length_map];omega,fun z hz=>?_⟩
 obtain⟨c,_,rfl⟩:=List.mem_map.mp hz
 show 1≤sizeLine
 decide
theorem NB{x:List Nat}{kvs:List (D×D)}{zs:List Nat}(h:Gz x kvs zs)(h4:zs.length≤4):Qq kvs=some (.tup (prs kvs ((jo (zs.map fun c=>[c])).map D.str))):=by
 unfold Qq
 rw[Ou h h4]
 simp only
 rw[if_pos]
 ·rfl
 ·refine List.all_eq_true.mpr fun k hk=>?_
  obtain⟨c,v,_,e,_⟩:=FQ h k hk
  rw[e];rfl
noncomputable abbrev Pr:=Nat×List Nat
noncomputable def encC(p:Pr):D:=.tup [.str [p.1],.str p.2]
inductive Jt (x:List Nat):D→Prop
 | put {c:Nat}:c∈x→Jt x (.tup [.tup [.str [],.str [c]]])
 | chg {ps:List Pr}:0<ps.length→ps.length≤4→(∀p∈ps,p.1∈x∧p.2.length≤1∧∀c∈p.2,c∈x)→Jt x (.tup (ps.map encC))
theorem Fw{x:List Nat}{kvs:List (D×D)}(hx:x∈XS):∀(ks:List D),(∀k∈ks,∃c v,k = .str [c]∧iY (.dct kvs) k=some v∧(c,v)∈PV x)→∃ps:List Pr,prs kvs ks=ps.map encC∧ps.length=ks.length∧∀p∈ps,p.1∈x∧p.2.length≤1∧∀c∈p.2,c∈x
 | [],_=>⟨[],rfl,rfl,fun p hp=>by simp at hp⟩
 | k::ks,h=>by
  obtain⟨c,v,rfl,e,hv⟩:=h k (List.mem_cons_self ..)
  obtain⟨t,et,ht⟩:=aeh x hx _ hv
  obtain⟨ps,e1,e2,e3⟩:=Fw hx ks fun k hk=>h k (List.mem_cons_of_mem _ hk)
  refine⟨(c,t)::ps,?_,by rw[List.length_cons,List.length_cons,e2],fun p hp=>?_⟩
  ·unfold prs at e1 ⊢
   rw[List.map_cons,e1,e]
   have et':v = .str t:=et
   rw[et']
   rfl
  ·rcases List.mem_cons.mp hp with rfl|hp
   ·exact⟨Gy hv,ht⟩
   ·exact e3 p hp
structure rD(x:List Nat)(w ch l r:D):Prop where
 way:w = .str [111,110,99,101]∨w = .str [97,108,111,110,103]
 chg:Jt x ch
 left:l∈SG x
 right:r∈SG x
noncomputable def fit(l:D)(a:Nat):Bool:=ni.isT (dJ [l,.str [a]])
theorem lY:∀x∈XS,∀l∈SG x,∀a∈35::x,dJ [l,.str [a]]=some (.bl (fit l a)):=by
 have h:(XS.all fun x=>(SG x).all fun l=>(35::x).all fun a=>(ni.isT (dJ [l,.str [a]])||(match dJ [l,.str [a]] with|some (.bl false)=>true|_=>false)))=true:=by decide +kernel
 intro x hx l hl a ha
 have h1:=List.all_eq_true.mp (List.all_eq_true.mp (List.all_eq_true.mp h x hx) l hl) a ha
 unfold fit
 generalize dJ [l,.str [a]]=o at h1
 rcases Bool.or_eq_true_iff.mp h1 with h2|h2
 ·rw[h2];exact ni.acE h2
 ·split at h2
  ·rfl
  ·cases h2
end uF
namespace uF
open Ev PySem L2
open ni (SG gC)
theorem oW{a b:List Nat}(h:a.length+b.length≤1000):bT (.str a) (.str b)=some (.str (a++b)):=by
 show(if a.length+b.length≤sizeLine then _ else _)=_
 rw[if_pos (Nat.le_trans h (by decide))]
theorem jW{a b:dG}{env:Ev.Env}{p q:Bool}(h1:a env = .ok p env)(h2:b env = .ok q env):cz a b env = .ok (p&&q) env:=by
 unfold cz
 rw[h1]
 cases p with
 | true=>exact h2
 | false=>rfl
theorem Ze{zs:List (List Nat)}(h1:zs.length≤800)(h2:∀z∈zs,z.length≤2):oh (.str []) (.lst (zs.map .str))=some (.str zs.flatten):=by
 have hf:joinFits [] zs=true:=by
  refine decide_eq_true ?_
  have:=Ob.J3 h2
  show _+zs.length*0≤_
  omega
 show(match jl (zs.map D.str) with|some xs=>if joinFits [] xs=true then some (D.str (yX [] xs)) else none|none=>none)=_
 rw[Ob.nA]
 show(if joinFits [] zs=true then _ else _)=_
 rw[if_pos hf,Ob.DG]
theorem Gu{all done rest:List D}{d:D}(h:all=done++d::rest):all[done.length]? = some d:=by rw[h];simp
theorem getD_get{z:List Nat}{n:Nat}(h:n<z.length):z[n]? = some (z.getD n 0):=by
 rw[List.getD_eq_getElem?_getD,List.getElem?_eq_getElem h];rfl
theorem DK{z:List Nat}{n:Nat}(h:n<z.length):cB (.str z) (.int (n:Int))=some (.str [z.getD n 0]):=by
 show(pN z (n:Int)).map _=_
 rw[mj (getD_get h)]
 rfl
theorem aaz{z done rest:List _}{d:D}(h:Cu z=done++d::rest):d = .str [z.getD done.length 0]∧done.length<z.length:=by
 have h1:=Gu h
 unfold Cu at h1
 rw[List.getElem?_map] at h1
 obtain⟨c,hc,rfl⟩:=Option.map_eq_some_iff.mp h1
 have hl:done.length<z.length:=(List.getElem?_eq_some_iff.mp hc).1
 rw[getD_get hl] at hc
 cases hc
 exact⟨rfl,hl⟩
theorem Je{α:Type}(xs:List α):cutD xs none (some (-1))=xs.dropLast:=by
 unfold cutD
 have e1:HT.fj xs.length xs.length (some (-1))=((-1:Int)+(xs.length:Int)).toNat:=rfl
 have e2:HT.fj xs.length 0 none=0:=rfl
 rw[e1,e2,List.drop_zero,List.dropLast_eq_take]
 congr 1
 omega
theorem Qo(xs:List Nat):vM xs none (some (-1))=xs.dropLast:=Je xs
noncomputable abbrev ed(w:List Nat):List Nat:=35::(w++[35])
noncomputable abbrev sg(w:List Nat)(n:Nat):Nat:=(ed w).getD n 0
section
variable{x w:List Nat}{l r:D}
theorem tX:(ed w).length=w.length+2:=by simp
theorem uL(hw:∀c∈w,c∈x){n:Nat}(h:n<w.length+2):sg w n∈35::x:=by
 have h1:n<(ed w).length:=by rw[tX];exact h
 have:sg w n∈ed w:=List.mem_of_getElem? (getD_get h1)
 rcases List.mem_cons.mp this with e|e
 ·rw[e];exact List.mem_cons_self ..
 ·rcases List.mem_append.mp e with e|e
  ·exact List.mem_cons_of_mem _ (hw _ e)
  ·rw[List.mem_singleton.mp e];exact List.mem_cons_self ..
noncomputable def pc(l r:D)(c:Nat)(w:List Nat)(n:Nat):List (List Nat):=if (fit l (sg w n)&&fit r (sg w (n+1)))=true then [[c]] else []
noncomputable def pin(l r:D)(c:Nat)(w:List Nat):Nat→List (List Nat)
 | 0=>[]
 | n+1=>pin l r c w n++(pc l r c w n++[[sg w (n+1)]])
theorem RW(c:Nat)(n:Nat):(pc l r c w n).length≤1∧∀z∈pc l r c w n,z.length=1:=by
 unfold pc
 split
 ·exact⟨Nat.le_refl _,fun z hz=>by rw[List.mem_singleton.mp hz];rfl⟩
 ·exact⟨Nat.zero_le _,fun z hz=>by simp at hz⟩
theorem Al(c:Nat):∀n,(pin l r c w n).length≤2*n∧∀z∈pin l r c w n,z.length=1
 | 0=>⟨Nat.le_refl _,fun z hz=>by simp[pin] at hz⟩
 | n+1=>by
  obtain⟨h1,h2⟩:=Al c n
  obtain⟨h3,h4⟩:=RW (l:=l) (r:=r) (w:=w) c n
  unfold pin
  refine⟨by rw[List.length_append,List.length_append,List.length_singleton];omega,fun z hz=>?_⟩
  rcases List.mem_append.mp hz with hz|hz
  ·exact h2 z hz
  ·rcases List.mem_append.mp hz with hz|hz
   ·exact h4 z hz
   ·rw[List.mem_singleton.mp hz];rfl
theorem Ue{zs:List (List Nat)}(h:∀z∈zs,z.length=1):zs.flatten.length=zs.length:=by
 induction zs with
 | nil=>rfl
 | cons z t ih=>rw[List.flatten_cons,List.length_append,h z (List.mem_cons_self ..),ih fun y hy=>h y (List.mem_cons_of_mem _ hy),List.length_cons];omega
noncomputable def inn(l r:D)(c:Nat)(w:List Nat):List Nat:=(pin l r c w w.length++pc l r c w w.length).flatten
theorem Am(c:Nat):(pin l r c w (w.length+1)).dropLast=pin l r c w w.length++pc l r c w w.length:=by
 show(pin l r c w w.length++(pc l r c w w.length++[[sg w (w.length+1)]])).dropLast=_
 rw[←List.append_assoc,List.dropLast_concat]
theorem RC(c:Nat):(pin l r c w (w.length+1)).flatten.dropLast=inn l r c w:=by
 show(pin l r c w w.length++(pc l r c w w.length++[[sg w (w.length+1)]])).flatten.dropLast=(pin l r c w w.length++pc l r c w w.length).flatten
 rw[←List.append_assoc,List.flatten_append (L₂:=[[sg w (w.length+1)]])]
 exact List.dropLast_concat
variable(hx:x∈XS)(hl:l∈SG x)(hr:r∈SG x)(hw:∀c∈w,c∈x)(hn:w.length≤300)
noncomputable def JG:bQ:=aC (cT (cz (cX (az dJ (aa (aq 4) (aa (aq 8) (ao))))) (cX (az dJ (aa (aq 5) (aa (aq 9) (ao)))))) (gq 7 (aq 6)) (bI)) (aC (gq 7 (aq 9)) (aL (aq 9) (ak 8)))
include hx hl hr
theorem Vx{c a s:Nat}(ha:a∈35::x)(hs:s∈35::x)(acc:List D)(hac:acc.length≤800)(a0 a1 a2 a3:Option (Bool×D)) :
  JG [a0,a1,a2,a3,some (false,l),some (false,r),some (false,.str [c]),some (true,.lst acc),some (false,.str [a]),some (false,.str [s])] =
   .nx [a0,a1,a2,a3,some (false,l),some (false,r),some (false,.str [c]),some (true,.lst (acc++((if (fit l a&&fit r s)=true then [.str [c]] else [])++[.str [s]]))),some (false,.str [s]),some (false,.str [s])]:=by
 have t:cz (cX (az dJ (aa (aq 4) (aa (aq 8) (ao))))) (cX (az dJ (aa (aq 5) (aa (aq 9) (ao))))) [a0,a1,a2,a3,some (false,l),some (false,r),some (false,.str [c]),some (true,.lst acc),some (false,.str [a]),some (false,.str [s])] = .ok (fit l a&&fit r s) [a0,a1,a2,a3,some (false,l),some (false,r),some (false,.str [c]),some (true,.lst acc),some (false,.str [a]),some (false,.str [s])]:=
  jW (lL (bG (ds:=[l,.str [a]]) (by rfl) (lY x hx l hl a ha))) (lL (bG (ds:=[r,.str [s]]) (by rfl) (lY x hx r hr s hs)))
 have tl:∀acc:List D,acc.length≤801→aC (gq 7 (aq 9)) (aL (aq 9) (ak 8)) [a0,a1,a2,a3,some (false,l),some (false,r),some (false,.str [c]),some (true,.lst acc),some (false,.str [a]),some (false,.str [s])] = .nx [a0,a1,a2,a3,some (false,l),some (false,r),some (false,.str [c]),some (true,.lst (acc++[.str [s]])),some (false,.str [s]),some (false,.str [s])]:=fun acc hac=>
  (aP (gC (i:=7) (x0:=acc) (xs:=acc) (d:=.str [s]) (e:=[a0,a1,a2,a3,some (false,l),some (false,r),some (false,.str [c]),some (true,.lst acc),some (false,.str [a]),some (false,.str [s])]) (by rfl) (by rfl) (by rfl) (Nat.lt_of_le_of_lt hac (by decide)))).trans rfl
 unfold JG
 cases hc:fit l a&&fit r s with
 | true=>
  rw[hc] at t
  rw[if_pos rfl]
  refine(aP (e:=[a0,a1,a2,a3,some (false,l),some (false,r),some (false,.str [c]),some (true,.lst (acc++[.str [c]])),some (false,.str [a]),some (false,.str [s])]) ?_).trans ?_
  ·exact(kY t).trans ((gC (i:=7) (x0:=acc) (xs:=acc) (d:=.str [c]) (e:=[a0,a1,a2,a3,some (false,l),some (false,r),some (false,.str [c]),some (true,.lst acc),some (false,.str [a]),some (false,.str [s])]) (by rfl) (by rfl) (by rfl) (Nat.lt_of_le_of_lt hac (by decide))).trans rfl)
  ·rw[tl _ (by rw[List.length_append,List.length_singleton];omega),List.append_assoc]
 | false=>
  rw[hc] at t
  rw[if_neg Bool.false_ne_true]
  exact(aP ((kZ t).trans rfl)).trans (tl acc (by omega))
theorem Wt(c n:Nat):((pin l r c w (n+1)).map D.str)=(pin l r c w n).map D.str++((if (fit l (sg w n)&&fit r (sg w (n+1)))=true then [.str [c]] else [])++[.str [sg w (n+1)]]):=by
 show(pin l r c w n++(pc l r c w n++[[sg w (n+1)]])).map D.str=_
 rw[List.map_append,List.map_append]
 unfold pc
 split<;>rfl
include hw hn
theorem with_put_in(wy:D)(c:Nat):f9 [.tup [wy,.tup [.tup [.str [],.str [c]]],l,r],.str w]=some (.str (inn l r c w)):=by
 generalize hR:D.tup [wy,.tup [.tup [.str [],.str [c]]],l,r]=R
 generalize hC:D.tup [.tup [.str [],.str [c]]]=ch
 obtain⟨e',f1,hd,a9,rfl⟩:=jU (g:=ak 9) (b:=JG) (Cu (w++[35]))
  (fun done env=>done.length≤w.length+1∧∃a9,env=[some (false,R),some (false,.str w),some (false,wy),some (false,ch),some (false,l),some (false,r),some (false,.str [c]),some (true,.lst ((pin l r c w done.length).map .str)),some (false,.str [sg w done.length]),a9])
  (fun done s rest hall env ⟨hd,a9,he⟩=>by
   subst he
   obtain⟨rfl,hdl⟩:=aaz hall
   have aph:done.length<w.length+1:=by rw[List.length_append,List.length_singleton] at hdl;exact hdl
   have hp:=(Al (l:=l) (r:=r) (w:=w) c done.length).1
   refine⟨_,_,rfl,Vx hx hl hr (a:=sg w done.length) (s:=sg w (done.length+1)) (uL (w:=w) hw (by omega)) (uL (w:=w) hw (by omega)) _ (by rw[List.length_map];omega) _ _ _ _,by rw[List.length_append,List.length_singleton];omega,some (false,.str [sg w (done.length+1)]),?_⟩
   rw[List.length_append,List.length_singleton,Wt hx hl hr])
  [some (false,R),some (false,.str w),some (false,wy),some (false,ch),some (false,l),some (false,r),some (false,.str [c]),some (true,.lst []),some (false,.str [35]),none] ⟨Nat.zero_le _,none,rfl⟩
 have hlen:(Cu (w++[35])).length=w.length+1:=by unfold Cu;rw[List.length_map,List.length_append,List.length_singleton]
 rw[hlen] at f1
 have hp:=Al (l:=l) (r:=r) (w:=w) c (w.length+1)
 refine gA (env:=[some (false,R),some (false,.str w),some (false,wy),some (false,ch),some (false,l),some (false,r),some (false,.str [c]),some (false,.lst ((pin l r c w (w.length+1)).map .str)),some (false,.str [sg w (w.length+1)]),a9]) ?_
 unfold gk
 refine(aP (e:=[some (false,R),some (false,.str w),some (false,wy),some (false,ch),some (false,l),some (false,r),none,none,none,none]) (by rw[←hR,←hC];rfl)).trans ?_
 refine(aP (e:=[some (false,R),some (false,.str w),some (false,wy),some (false,ch),some (false,l),some (false,r),some (false,.str [c]),none,none,none]) (by rw[←hC];rfl)).trans ?_
 refine(aP (e:=[some (false,R),some (false,.str w),some (false,wy),some (false,ch),some (false,l),some (false,r),some (false,.str [c]),some (true,.lst []),none,none]) (by rfl)).trans ?_
 refine(aP (e:=[some (false,R),some (false,.str w),some (false,wy),some (false,ch),some (false,l),some (false,r),some (false,.str [c]),some (true,.lst []),some (false,.str [35]),none]) (by rfl)).trans ?_
 refine(aP ((jm (ds:=Cu (w++[35])) (e:=[some (false,R),some (false,.str w),some (false,wy),some (false,ch),some (false,l),some (false,r),some (false,.str [c]),some (true,.lst []),some (false,.str [35]),none]) ?_).trans f1)).trans ?_
 ·refine Nt (d:=.str (w++[35])) (bM (o:=false) (o':=false) (x:=.str w) (x0:=.str w) (y:=.str [35]) (by rfl) (by rfl) (by rfl) (oW (by show w.length+1≤1000;omega))) rfl
 ·refine cR (cH (x:=.str []) (e1:=_) (by rfl) (y:=.lst ((pin l r c w w.length++pc l r c w w.length).map .str)) ?_ ?_)
  ·have ec:cutD ((pin l r c w (w.length+1)).map D.str) none (some (-1))=(pin l r c w w.length++pc l r c w w.length).map D.str:=by
    rw[Je,←List.map_dropLast,Am c]
   rw[←ec]
   rfl
  ·rw[←Am c]
   unfold inn
   rw[←Am c]
   refine Ze ?_ fun z hz=>?_
   ·rw[List.length_dropLast];omega
   ·rw[hp.2 z (List.dropLast_subset _ hz)];decide
end
end uF
namespace uF
open Ev PySem L2
open ni (SG gC)
section
variable{x w:List Nat}{l r:D}
theorem afd{j:Nat}(h:j<1000):xV [.int 1,.int ((j+1:Nat):Int)]=some (fB 1 1 j):=by
 have hf:jz (((j+1:Nat):Int))=true:=by
  unfold jz
  rw[Bool.and_eq_true]
  exact⟨decide_eq_true (by omega),decide_eq_true (by omega)⟩
 have e:(((j+1:Nat):Int) - 1).toNat=j:=by omega
 unfold xV
 simp only
 rw[if_pos ⟨by decide,hf⟩,e]
theorem step_at{j:Nat}{done rest:List D}{d:D}(h:fB 1 1 j=done++d::rest):d = .int ((done.length+1:Nat):Int)∧done.length<j:=by
 obtain⟨h1,h2⟩:=z8 (Gu h)
 refine⟨?_,h1⟩
 rw[h2]
 congr 1
 omega
noncomputable def KJ:bQ:=aC (cT (cz (cX (az bW (aa (au cB 0 (aU (.int 2))) (aa (au cB 2 (au tQ 4 (aU (.int 1)))) (ao))))) (cX (az bW (aa (au cB 0 (aU (.int 3))) (aa (au cB 2 (aY 4)) (ao)))))) (aL (au bT 3 (aK cB (aK cB (au cB 0 (aU (.int 1))) (aU (.int 0))) (aU (.int 1)))) (ak 3)) (bI)) (aL (au bT 3 (au cB 2 (aY 4))) (ak 3))
theorem aat(n:Nat):tQ (.int ((n+1:Nat):Int)) (.int 1)=some (.int (n:Int)):=by
 show some (D.int (((n+1:Nat):Int) - 1))=_
 congr 2
 omega
variable(hx:x∈XS)(hl:l∈SG x)(hr:r∈SG x)(hw:∀c∈w,c∈x)(hn:w.length≤300)
include hx hl hr hw hn
theorem W3(wy:D)(c n:Nat)(hnn:n<w.length+1)(f:List Nat)(hf:f.length≤800)(a1:Option (Bool×D)) :
  KJ [some (false,.tup [wy,.tup [.tup [.str [],.str [c]]],l,r]),a1,some (false,.str (ed w)),some (false,.str f),some (false,.int ((n+1:Nat):Int))] =
   .nx [some (false,.tup [wy,.tup [.tup [.str [],.str [c]]],l,r]),a1,some (false,.str (ed w)),some (false,.str (f++((pc l r c w n).flatten++[sg w (n+1)]))),some (false,.int ((n+1:Nat):Int))]:=by
 have hp:=RW (l:=l) (r:=r) (w:=w) c n
 have hpf:(pc l r c w n).flatten.length≤1:=by rw[Ue hp.2];exact hp.1
 have i1:=DK (z:=ed w) (n:=n) (by rw[tX];omega)
 have i2:=DK (z:=ed w) (n:=n+1) (by rw[tX];omega)
 have g2:∀f,au cB 2 (aY 4) [some (false,.tup [wy,.tup [.tup [.str [],.str [c]]],l,r]),a1,some (false,.str (ed w)),some (false,.str f),some (false,.int ((n+1:Nat):Int))] = .ok (.str [sg w (n+1)]) [some (false,.tup [wy,.tup [.tup [.str [],.str [c]]],l,r]),a1,some (false,.str (ed w)),some (false,.str f),some (false,.int ((n+1:Nat):Int))]:=fun f=>
  bM (o:=false) (o':=false) (x:=.str (ed w)) (x0:=.str (ed w)) (y:=.int ((n+1:Nat):Int)) (by rfl) (by rfl) (by rfl) i2
 have tl:∀f:List Nat,f.length≤801→aL (au bT 3 (au cB 2 (aY 4))) (ak 3) [some (false,.tup [wy,.tup [.tup [.str [],.str [c]]],l,r]),a1,some (false,.str (ed w)),some (false,.str f),some (false,.int ((n+1:Nat):Int))] = .nx [some (false,.tup [wy,.tup [.tup [.str [],.str [c]]],l,r]),a1,some (false,.str (ed w)),some (false,.str (f++[sg w (n+1)])),some (false,.int ((n+1:Nat):Int))]:=fun f hf=>
  dg (bM (o:=false) (o':=false) (x:=.str f) (x0:=.str f) (by rfl) (g2 f) (by rfl) (oW (by show f.length+1≤1000;omega))) (by rfl)
 have t:cz (cX (az bW (aa (au cB 0 (aU (.int 2))) (aa (au cB 2 (au tQ 4 (aU (.int 1)))) (ao))))) (cX (az bW (aa (au cB 0 (aU (.int 3))) (aa (au cB 2 (aY 4)) (ao))))) [some (false,.tup [wy,.tup [.tup [.str [],.str [c]]],l,r]),a1,some (false,.str (ed w)),some (false,.str f),some (false,.int ((n+1:Nat):Int))] = .ok (fit l (sg w n)&&fit r (sg w (n+1))) [some (false,.tup [wy,.tup [.tup [.str [],.str [c]]],l,r]),a1,some (false,.str (ed w)),some (false,.str f),some (false,.int ((n+1:Nat):Int))]:=by
  refine jW (lL (bG (ds:=[l,.str [sg w n]]) ?_ (lY x hx l hl _ (uL (w:=w) hw (by omega))))) (lL (bG (ds:=[r,.str [sg w (n+1)]]) ?_ (lY x hx r hr _ (uL (w:=w) hw (by omega)))))
  ·refine bA (d:=l) (by rfl) (bA ?_ cW)
   exact bM (o:=false) (o':=false) (x:=.str (ed w)) (x0:=.str (ed w)) (y:=.int (n:Int)) (by rfl) (bM (o:=false) (o':=false) (x:=.int ((n+1:Nat):Int)) (x0:=.int ((n+1:Nat):Int)) (y:=.int 1) (by rfl) (by rfl) (by rfl) (aat n)) (by rfl) i1
  ·exact bA (d:=r) (by rfl) (bA (g2 f) cW)
 unfold KJ
 unfold pc at hpf ⊢
 cases hc:fit l (sg w n)&&fit r (sg w (n+1)) with
 | true=>
  rw[hc] at t
  rw[if_pos rfl]
  refine(aP (e:=[some (false,.tup [wy,.tup [.tup [.str [],.str [c]]],l,r]),a1,some (false,.str (ed w)),some (false,.str (f++[c])),some (false,.int ((n+1:Nat):Int))]) ?_).trans ?_
  ·exact(kY t).trans (dg (bM (o:=false) (o':=false) (x:=.str f) (x0:=.str f) (y:=.str [c]) (by rfl) (by rfl) (by rfl) (oW (by show f.length+1≤1000;omega))) (by rfl))
  ·rw[tl _ (by rw[List.length_append,List.length_singleton];omega),List.append_assoc]
   rfl
 | false=>
  rw[hc] at t
  rw[if_neg Bool.false_ne_true]
  exact(aP ((kZ t).trans rfl)).trans (tl f (by omega))
theorem KZ(wy:D)(c:Nat):gP [.tup [wy,.tup [.tup [.str [],.str [c]]],l,r],.str w]=some (.str (inn l r c w)):=by
 obtain⟨e',f1,hd,a9,rfl⟩:=jU (g:=ak 4) (b:=KJ) (fB 1 1 (w.length+1))
  (fun done env=>done.length≤w.length+1∧∃a9,env=[some (false,.tup [wy,.tup [.tup [.str [],.str [c]]],l,r]),some (false,.str w),some (false,.str (ed w)),some (false,.str (pin l r c w done.length).flatten),a9])
  (fun done s rest hall env ⟨hd,a9,he⟩=>by
   subst he
   obtain⟨rfl,hdl⟩:=step_at hall
   have hp:=Al (l:=l) (r:=r) (w:=w) c done.length
   have hpf:=Ue hp.2
   refine⟨_,_,rfl,W3 hx hl hr hw hn wy c done.length hdl _ (by rw[hpf];omega) _,by rw[List.length_append,List.length_singleton];omega,some (false,.int ((done.length+1:Nat):Int)),?_⟩
   rw[List.length_append,List.length_singleton]
   show _=[_,_,_,some (false,D.str (pin l r c w done.length++(pc l r c w done.length++[[sg w (done.length+1)]])).flatten),_]
   rw[List.flatten_append,List.flatten_append]
   rfl)
  [some (false,.tup [wy,.tup [.tup [.str [],.str [c]]],l,r]),some (false,.str w),some (false,.str (ed w)),some (false,.str []),none] ⟨Nat.zero_le _,none,rfl⟩
 rw[kW] at f1
 refine gA (env:=[some (false,.tup [wy,.tup [.tup [.str [],.str [c]]],l,r]),some (false,.str w),some (false,.str (ed w)),some (false,.str (pin l r c w (w.length+1)).flatten),a9]) ?_
 unfold gR
 refine(aP (e:=[some (false,.tup [wy,.tup [.tup [.str [],.str [c]]],l,r]),some (false,.str w),some (false,.str (ed w)),none,none]) ?_).trans ?_
 ·refine dg (d:=.str (ed w)) (e:=[some (false,.tup [wy,.tup [.tup [.str [],.str [c]]],l,r]),some (false,.str w),none,none,none]) ?_ (by rfl)
  refine cH (x:=.str ([35]++w)) (y:=.str [35]) (e1:=[some (false,.tup [wy,.tup [.tup [.str [],.str [c]]],l,r]),some (false,.str w),none,none,none]) ?_ (by rfl) (oW (by show w.length+1+1≤1000;omega))
  exact cH (x:=.str [35]) (y:=.str w) (e1:=[some (false,.tup [wy,.tup [.tup [.str [],.str [c]]],l,r]),some (false,.str w),none,none,none]) (by rfl) (by rfl) (oW (by show 1+w.length≤1000;omega))
 refine(aP (e:=[some (false,.tup [wy,.tup [.tup [.str [],.str [c]]],l,r]),some (false,.str w),some (false,.str (ed w)),some (false,.str []),none]) (by rfl)).trans ?_
 refine(aP ((jm (ds:=fB 1 1 (w.length+1)) (e:=[some (false,.tup [wy,.tup [.tup [.str [],.str [c]]],l,r]),some (false,.str w),some (false,.str (ed w)),some (false,.str []),none]) ?_).trans f1)).trans ?_
 ·refine Ob.xm (ds:=[.int 1,.int ((w.length+1+1:Nat):Int)]) ?_ (afd (by omega))
  refine bA (d:=.int 1) (by rfl) (bA ?_ cW)
  refine bG (ds:=[.str (ed w)]) (by rfl) ?_
  show some (D.int ((ed w).length:Int))=_
  rw[tX]
 ·refine cR ?_
  rw[←RC c,←Qo]
  rfl
end
end uF
namespace uF
open Ev PySem L2
open ni (SG gC)
noncomputable def Ei(x:List Nat)(kvs:List (D×D)):Prop:=∀k v,(k,v)∈kvs→∃t:List Nat,v = .str t∧t.length≤1∧∀c∈t,c∈x
theorem Ei.put{x:List Nat}{kvs:List (D×D)}(h:Ei x kvs)(k:D)(q:Key)(t:List Nat)(h1:t.length≤1)(h2:∀c∈t,c∈x):Ei x (putD kvs k q (.str t)):=by
 intro k' v hm
 unfold putD at hm
 split at hm
 ·rcases ni.Aa hm with hm|⟨_,rfl⟩
  ·exact h k' v hm
  ·exact⟨t,rfl,h1,h2⟩
 ·rcases List.mem_append.mp hm with hm|hm
  ·exact h k' v hm
  ·cases List.mem_singleton.mp hm
   exact⟨t,rfl,h1,h2⟩
theorem Ei.all{x:List Nat}:∀(ps:List Pr) (kvs:List (D×D)),Ei x kvs→(∀p∈ps,p.1∈x∧p.2.length≤1∧∀c∈p.2,c∈x)→Ei x (lV kvs (ps.map fun p=>(.str [p.1],.str p.2)))
 | [],kvs,h,_=>h
 | p::ps,kvs,h,hp=>by
  have h1:=hp p (List.mem_cons_self ..)
  exact Ei.all ps _ (h.put (.str [p.1]) (.inr (strOf [p.1])) p.2 h1.2.1 h1.2.2) fun p hm=>hp p (List.mem_cons_of_mem _ hm)
theorem Dv:∀(ps:List Pr),qy (ps.map encC)=some (ps.map fun p=>(.str [p.1],.str p.2))
 | []=>rfl
 | p::ps=>by
  rw[List.map_cons]
  unfold qy
  rw[Dv ps]
  rfl
theorem Gj{x:List Nat}{ps:List Pr}(hp:∀p∈ps,p.1∈x∧p.2.length≤1∧∀c∈p.2,c∈x):∃kvs,rH [.tup (ps.map encC)]=some (.dct kvs)∧Ei x kvs:=by
 refine⟨lV [] (ps.map fun p=>(.str [p.1],.str p.2)),?_,Ei.all ps [] (fun k v h=>by simp at h) hp⟩
 show(qy (ps.map encC)).map _=_
 rw[Dv]
 rfl
noncomputable def look(kvs:List (D×D))(s:Nat):Option (List Nat):=match qw kvs (.inr (strOf [s])) with
 | some (.str t)=>some t
 | _=>none
theorem zH{x:List Nat}{kvs:List (D×D)}(h:Ei x kvs)(s:Nat):ou (.str [s]) (.dct kvs)=some (.bl (look kvs s).isSome):=by
 show some (D.bl (qw kvs (.inr (strOf [s]))).isSome)=_
 unfold look
 cases e:qw kvs (.inr (strOf [s])) with
 | none=>rfl
 | some v=>
  obtain⟨k,hk,_⟩:=ni.pW e
  obtain⟨t,rfl,_⟩:=h k v hk
  rfl
theorem sJ{x:List Nat}{kvs:List (D×D)}(h:Ei x kvs){s:Nat}{t:List Nat}(hs:look kvs s=some t):iY (.dct kvs) (.str [s])=some (.str t)∧t.length≤1∧∀c∈t,c∈x:=by
 unfold look at hs
 split at hs
 ·rename_i u e
  cases hs
  obtain⟨k,hk,_⟩:=ni.pW e
  obtain⟨t',h1,h2⟩:=h k _ hk
  cases h1
  exact⟨e,h2⟩
 ·cases hs
section
variable{x w:List Nat}{l r:D}{kvs:List (D×D)}
noncomputable def nw(kvs:List (D×D))(l r:D)(w:List Nat)(near n:Nat):List Nat:=if ((look kvs (sg w (n+1))).isSome&&(fit l near&&fit r (sg w (n+2))))=true then (look kvs (sg w (n+1))).getD [] else [sg w (n+1)]
noncomputable def iV(al:Bool)(w:List Nat)(made:List (List Nat))(n:Nat):Nat:=if al=true then (35::made.flatten).getLastD 0 else sg w n
noncomputable def cg(al:Bool)(kvs:List (D×D))(l r:D)(w:List Nat):Nat→List (List Nat)
 | 0=>[]
 | n+1=>cg al kvs l r w n++[nw kvs l r w (iV al w (cg al kvs l r w n) n) n]
theorem Rc(hw:∀c∈w,c∈x){n:Nat}(h:n<w.length):sg w (n+1)=w.getD n 0∧sg w (n+1)∈x:=by
 have e:sg w (n+1)=w.getD n 0:=by
  show(w++[35]).getD n 0=_
  rw[List.getD_eq_getElem?_getD,List.getD_eq_getElem?_getD,List.getElem?_append_left h]
 exact⟨e,by rw[e];exact hw _ (List.mem_of_getElem? (getD_get h))⟩
theorem Su(hk:Ei x kvs)(hw:∀c∈w,c∈x){n:Nat}(h:n<w.length)(near:Nat):(nw kvs l r w near n).length≤1∧∀c∈nw kvs l r w near n,c∈x:=by
 unfold nw
 split
 ·cases e:look kvs (sg w (n+1)) with
  | none=>exact⟨Nat.zero_le _,fun c hc=>by simp at hc⟩
  | some t=>exact(sJ hk e).2
 ·exact⟨Nat.le_refl _,fun c hc=>by rw[List.mem_singleton.mp hc];exact(Rc hw h).2⟩
theorem Ea(al:Bool)(hk:Ei x kvs)(hw:∀c∈w,c∈x):∀n,n≤w.length→(cg al kvs l r w n).length=n∧∀z∈cg al kvs l r w n,z.length≤1∧∀c∈z,c∈x
 | 0,_=>⟨rfl,fun z hz=>by simp[cg] at hz⟩
 | n+1,h=>by
  obtain⟨h1,h2⟩:=Ea al hk hw n (by omega)
  unfold cg
  refine⟨by rw[List.length_append,List.length_singleton,h1],fun z hz=>?_⟩
  rcases List.mem_append.mp hz with hz|hz
  ·exact h2 z hz
  ·rw[List.mem_singleton.mp hz]
   exact Su hk hw (by omega) _
theorem NK(al:Bool)(hk:Ei x kvs)(hw:∀c∈w,c∈x){n:Nat}(h:n≤w.length):(cg al kvs l r w n).flatten.length≤n:=by
 obtain⟨h1,h2⟩:=Ea (l:=l) (r:=r) al hk hw n h
 rw[List.length_flatten]
 have:=Ob.J3 (zs:=cg al kvs l r w n) (k:=1) fun z hz=>(h2 z hz).1
 omega
theorem HQ:∀(a:Nat) (z:List Nat),(a::z).getLastD 0∈a::z
 | a,[]=>List.mem_cons_self ..
 | a,b::z=>List.mem_cons_of_mem _ (HQ b z)
theorem Hy(al:Bool)(hk:Ei x kvs)(hw:∀c∈w,c∈x){n:Nat}(h:n≤w.length):iV al w (cg al kvs l r w n) n∈35::x:=by
 unfold iV
 split
 ·rcases List.mem_cons.mp (HQ 35 (cg al kvs l r w n).flatten) with e|e
  ·rw[e];exact List.mem_cons_self ..
  ·obtain⟨z,hz,hc⟩:=List.mem_flatten.mp e
   exact List.mem_cons_of_mem _ (((Ea (l:=l) (r:=r) al hk hw n h).2 z hz).2 _ hc)
 ·exact uL hw (by omega)
theorem aku(n:Nat):bT (.int (n:Int)) (.int 1)=some (.int ((n+1:Nat):Int)):=rfl
theorem Xo(a:Nat)(z:List Nat):cB (.str (a::z)) (.int (-1))=some (.str [(a::z).getLastD 0]):=by
 have e:pN (a::z) (-1)=some ((a::z).getLastD 0):=by
  unfold pN TX
  rw[if_neg (by decide),if_pos (by rw[List.length_cons];omega)]
  show(a::z)[((-1:Int)+((a::z).length:Int)).toNat]? = _
  have e1:((-1:Int)+((a::z).length:Int)).toNat=(a::z).length - 1:=by rw[List.length_cons];omega
  rw[e1,←List.getLast?_eq_getElem?]
  rfl
 show(pN (a::z) (-1)).map _=_
 rw[e]
 rfl
theorem Uy(a:Nat)(z:List Nat):vM (a::z) (some 1) none=z:=by
 unfold vM
 have e1:HT.fj (a::z).length (a::z).length none=z.length+1:=rfl
 have e2:HT.fj (a::z).length 0 (some 1)=1:=by
  show min 1 (z.length+1)=1
  omega
 rw[e1,e2]
 show z.take (z.length+1 - 1)=z
 exact List.take_of_length_le (by omega)
theorem Ku(made:List (List Nat))(t:List Nat)(n:Nat)(h:t.length≤1):iV true w (made++[t]) (n+1)=if t=[] then iV true w made n else t.headD 0:=by
 unfold iV
 rw[if_pos rfl,if_pos rfl]
 match t,h with
 | [],_=>rw[if_pos rfl];simp
 | [a],_=>
  rw[if_neg (by simp)]
  rw[List.flatten_append]
  have:∀(b:Nat) (z:List Nat),(b::(z++[a])).getLastD 0=a:=by
   intro b z
   induction z generalizing b with
   | nil=>rfl
   | cons c z ih=>exact ih c
  exact this 35 _
noncomputable def cI(al:Bool):D:=if al=true then .str [97,108,111,110,103] else .str [111,110,99,101]
noncomputable def JH:bQ:=aC (aL (aq 11) (ak 12)) (aC (cT (cz (cX (au ou 11 (aY 6))) (cz (cX (az dJ (aa (aq 4) (aa (aq 9) (ao))))) (cX (az dJ (aa (aq 5) (aa (au cB 7 (au bT 10 (aU (.int 1)))) (ao))))))) (aL (au iY 6 (aY 11)) (ak 12)) (bI)) (aC (gq 8 (aq 12)) (cT (cX (au mJ 2 (aU (.str [111,110,99,101])))) (aL (aq 11) (ak 9)) (cT (cX (au xD 12 (aU (.str [])))) (aL (aq 12) (ak 9)) (bI)))))
variable(hx:x∈XS)(hl:l∈SG x)(hr:r∈SG x)(hw:∀c∈w,c∈x)(hn:w.length≤300)(hk:Ei x kvs)
include hx hl hr hw hn hk
theorem Vz(al:Bool)(n:Nat)(hnn:n<w.length)(a0 a1 a3 a12:Option (Bool×D)) :
  ∃Vo,JH [a0,a1,some (false,cI al),a3,some (false,l),some (false,r),some (false,.dct kvs),some (false,.str (w++[35])),some (true,.lst ((cg al kvs l r w n).map .str)),some (false,.str [iV al w (cg al kvs l r w n) n]),some (false,.int (n:Int)),some (false,.str [sg w (n+1)]),a12] =
   .nx [a0,a1,some (false,cI al),a3,some (false,l),some (false,r),some (false,.dct kvs),some (false,.str (w++[35])),some (true,.lst ((cg al kvs l r w (n+1)).map .str)),some (false,.str [iV al w (cg al kvs l r w (n+1)) (n+1)]),some (false,.int (n:Int)),some (false,.str [sg w (n+1)]),Vo]:=by
 have hcl:=(Ea (l:=l) (r:=r) al hk hw n (by omega)).1
 have hnm:=Hy (l:=l) (r:=r) al hk hw (n:=n) (by omega)
 have hno:=Su (l:=l) (r:=r) hk hw hnn (iV al w (cg al kvs l r w n) n)
 have hcg:cg al kvs l r w (n+1)=cg al kvs l r w n++[nw kvs l r w (iV al w (cg al kvs l r w n) n) n]:=rfl
 have i2:=DK (z:=w++[35]) (n:=n+1) (by rw[List.length_append,List.length_singleton];omega)
 have h2m:sg w (n+2)∈35::x:=uL hw (by omega)
 rw[hcg]
 generalize hM:cg al kvs l r w n=made at *
 generalize hN:iV al w made n=near at *
 have hnw:nw kvs l r w near n=if ((look kvs (sg w (n+1))).isSome&&(fit l near&&fit r (sg w (n+2))))=true then (look kvs (sg w (n+1))).getD [] else [sg w (n+1)]:=rfl
 generalize hT:nw kvs l r w near n=t at *
 refine⟨some (false,.str t),?_⟩
 unfold JH
 refine(aP (e:=[a0,a1,some (false,cI al),a3,some (false,l),some (false,r),some (false,.dct kvs),some (false,.str (w++[35])),some (true,.lst (made.map .str)),some (false,.str [near]),some (false,.int (n:Int)),some (false,.str [sg w (n+1)]),some (false,.str [sg w (n+1)])]) (by rfl)).trans ?_
 refine(aP (e:=[a0,a1,some (false,cI al),a3,some (false,l),some (false,r),some (false,.dct kvs),some (false,.str (w++[35])),some (true,.lst (made.map .str)),some (false,.str [near]),some (false,.int (n:Int)),some (false,.str [sg w (n+1)]),some (false,.str t)]) ?_).trans ?_
 ·have tt:cz (cX (au ou 11 (aY 6))) (cz (cX (az dJ (aa (aq 4) (aa (aq 9) (ao))))) (cX (az dJ (aa (aq 5) (aa (au cB 7 (au bT 10 (aU (.int 1)))) (ao)))))) [a0,a1,some (false,cI al),a3,some (false,l),some (false,r),some (false,.dct kvs),some (false,.str (w++[35])),some (true,.lst (made.map .str)),some (false,.str [near]),some (false,.int (n:Int)),some (false,.str [sg w (n+1)]),some (false,.str [sg w (n+1)])] = .ok ((look kvs (sg w (n+1))).isSome&&(fit l near&&fit r (sg w (n+2)))) [a0,a1,some (false,cI al),a3,some (false,l),some (false,r),some (false,.dct kvs),some (false,.str (w++[35])),some (true,.lst (made.map .str)),some (false,.str [near]),some (false,.int (n:Int)),some (false,.str [sg w (n+1)]),some (false,.str [sg w (n+1)])]:=by
   refine jW (lL (bM (o:=false) (o':=false) (x:=.str [sg w (n+1)]) (x0:=.str [sg w (n+1)]) (y:=.dct kvs) (by rfl) (by rfl) (by rfl) (zH hk _))) (jW (lL (bG (ds:=[l,.str [near]]) (by rfl) (lY x hx l hl _ hnm))) (lL (bG (ds:=[r,.str [sg w (n+2)]]) ?_ (lY x hx r hr _ h2m))))
   refine bA (d:=r) (by rfl) (bA ?_ cW)
   exact bM (o:=false) (o':=false) (x:=.str (w++[35])) (x0:=.str (w++[35])) (y:=.int ((n+1:Nat):Int)) (by rfl) (bM (o:=false) (o':=false) (x:=.int (n:Int)) (x0:=.int (n:Int)) (y:=.int 1) (by rfl) (by rfl) (by rfl) (aku n)) (by rfl) i2
  cases hc:(look kvs (sg w (n+1))).isSome&&(fit l near&&fit r (sg w (n+2))) with
  | true=>
   rw[hc] at tt hnw
   rw[if_pos rfl] at hnw
   obtain⟨u,hu⟩:=Option.isSome_iff_exists.mp (Bool.and_eq_true_iff.mp hc).1
   rw[hu] at hnw
   cases hnw
   exact(kY tt).trans (dg (bM (o:=false) (o':=false) (x:=.dct kvs) (x0:=.dct kvs) (y:=.str [sg w (n+1)]) (by rfl) (by rfl) (by rfl) (sJ hk hu).1) (by rfl))
  | false=>
   rw[hc] at tt hnw
   rw[if_neg Bool.false_ne_true] at hnw
   rw[hnw]
   exact(kZ tt).trans rfl
 refine(aP (e:=[a0,a1,some (false,cI al),a3,some (false,l),some (false,r),some (false,.dct kvs),some (false,.str (w++[35])),some (true,.lst ((made++[t]).map .str)),some (false,.str [near]),some (false,.int (n:Int)),some (false,.str [sg w (n+1)]),some (false,.str t)]) ?_).trans ?_
 ·rw[List.map_append]
  exact(gC (i:=8) (x0:=made.map .str) (xs:=made.map .str) (d:=.str t) (e:=[a0,a1,some (false,cI al),a3,some (false,l),some (false,r),some (false,.dct kvs),some (false,.str (w++[35])),some (true,.lst (made.map .str)),some (false,.str [near]),some (false,.int (n:Int)),some (false,.str [sg w (n+1)]),some (false,.str t)]) (by rfl) (by rfl) (by rfl) (by rw[List.length_map,hcl];exact Nat.lt_of_le_of_lt (show n≤300 by omega) (by decide))).trans rfl
 cases al with
 | false=>exact(kY (e:=_) (by rfl)).trans rfl
 | true=>
  refine(kZ (e:=_) (by rfl)).trans ?_
  rw[Ku made t n hno.1,hN]
  match t,hno.1 with
  | [],_=>exact(kZ (e:=_) (by rfl)).trans rfl
  | [a],_=>exact(kY (e:=_) (by rfl)).trans rfl
theorem Yi{done rest:List D}{d:D}(h:qm w=done++d::rest):d = .tup [.int (done.length:Int),.str [sg w (done.length+1)]]∧done.length<w.length:=by
 have h1:=Gu h
 unfold qm at h1
 rw[List.getElem?_map] at h1
 obtain⟨p,hp,rfl⟩:=Option.map_eq_some_iff.mp h1
 rw[List.getElem?_zipIdx] at hp
 obtain⟨c,hc,rfl⟩:=Option.map_eq_some_iff.mp hp
 have hl:done.length<w.length:=(List.getElem?_eq_some_iff.mp hc).1
 rw[getD_get hl] at hc
 cases hc
 refine⟨?_,hl⟩
 rw[(Rc hw hl).1,Nat.zero_add]
noncomputable def out(al:Bool)(kvs:List (D×D))(l r:D)(w:List Nat):List Nat:=(cg al kvs l r w w.length).flatten
theorem with_changes(al:Bool)(ch:D)(hd:rH [ch]=some (.dct kvs)):eY [.tup [cI al,ch,l,r],.str w]=some (.str (out al kvs l r w)):=by
 generalize hR:D.tup [cI al,ch,l,r]=R
 obtain⟨e',f1,hdl,a10,a11,a12,rfl⟩:=jU (g:=cV 2 (aQ (ak 10) (aQ (ak 11) (dh)))) (b:=JH) (qm w)
  (fun done env=>done.length≤w.length∧∃a10 a11 a12,env=[some (false,R),some (false,.str w),some (false,cI al),some (false,ch),some (false,l),some (false,r),some (false,.dct kvs),some (false,.str (w++[35])),some (true,.lst ((cg al kvs l r w done.length).map .str)),some (false,.str [iV al w (cg al kvs l r w done.length) done.length]),a10,a11,a12])
  (fun done s rest hall env ⟨hdl,a10,a11,a12,he⟩=>by
   subst he
   obtain⟨rfl,hdl⟩:=Yi hx hl hr hw hn hk hall
   obtain⟨Vo,hb⟩:=Vz hx hl hr hw hn hk al done.length hdl (some (false,R)) (some (false,.str w)) (some (false,ch)) a12
   refine⟨_,_,rfl,hb,by rw[List.length_append,List.length_singleton];omega,some (false,.int (done.length:Int)),some (false,.str [sg w (done.length+1)]),Vo,?_⟩
   rw[List.length_append,List.length_singleton])
  [some (false,R),some (false,.str w),some (false,cI al),some (false,ch),some (false,l),some (false,r),some (false,.dct kvs),some (false,.str (w++[35])),some (true,.lst []),some (false,.str [35]),none,none,none] ⟨Nat.zero_le _,none,none,none,by cases al<;>rfl⟩
 have hlen:(qm w).length=w.length:=by unfold qm;rw[List.length_map,List.length_zipIdx]
 rw[hlen] at f1
 have hok:=Ea (l:=l) (r:=r) al hk hw w.length (Nat.le_refl _)
 refine gA (env:=[some (false,R),some (false,.str w),some (false,cI al),some (false,ch),some (false,l),some (false,r),some (false,.dct kvs),some (false,.str (w++[35])),some (true,.lst ((cg al kvs l r w w.length).map .str)),some (false,.str [iV al w (cg al kvs l r w w.length) w.length]),a10,a11,a12]) ?_
 unfold eZ
 refine(aP (e:=[some (false,R),some (false,.str w),some (false,cI al),some (false,ch),some (false,l),some (false,r),none,none,none,none,none,none,none]) (by rw[←hR];rfl)).trans ?_
 refine(aP (e:=[some (false,R),some (false,.str w),some (false,cI al),some (false,ch),some (false,l),some (false,r),some (false,.dct kvs),none,none,none,none,none,none]) ?_).trans ?_
 ·exact dg (e:=[some (false,R),some (false,.str w),some (false,cI al),some (false,ch),some (false,l),some (false,r),none,none,none,none,none,none,none]) (bG (ds:=[ch]) (by rfl) hd) (by rfl)
 refine(aP (e:=[some (false,R),some (false,.str w),some (false,cI al),some (false,ch),some (false,l),some (false,r),some (false,.dct kvs),some (false,.str (w++[35])),none,none,none,none,none]) ?_).trans ?_
 ·exact dg (d:=.str (w++[35])) (e:=[some (false,R),some (false,.str w),some (false,cI al),some (false,ch),some (false,l),some (false,r),some (false,.dct kvs),none,none,none,none,none,none]) (bM (o:=false) (o':=false) (x:=.str w) (x0:=.str w) (y:=.str [35]) (by rfl) (by rfl) (by rfl) (oW (by show w.length+1≤1000;omega))) (by rfl)
 refine(aP (e:=[some (false,R),some (false,.str w),some (false,cI al),some (false,ch),some (false,l),some (false,r),some (false,.dct kvs),some (false,.str (w++[35])),some (true,.lst []),none,none,none,none]) (by rfl)).trans ?_
 refine(aP (e:=[some (false,R),some (false,.str w),some (false,cI al),some (false,ch),some (false,l),some (false,r),some (false,.dct kvs),some (false,.str (w++[35])),some (true,.lst []),some (false,.str [35]),none,none,none]) (by rfl)).trans ?_
 refine(aP ((jm (ds:=qm w) (e:=[some (false,R),some (false,.str w),some (false,cI al),some (false,ch),some (false,l),some (false,r),some (false,.dct kvs),some (false,.str (w++[35])),some (true,.lst []),some (false,.str [35]),none,none,none]) (by rfl)).trans f1)).trans ?_
 refine cR (cH (x:=.str []) (by rfl) (y:=.lst ((cg al kvs l r w w.length).map .str)) (by rfl) ?_)
 exact Ze (by rw[hok.1];omega) fun z hz=>Nat.le_trans (hok.2 z hz).1 (by decide)
theorem aa2(al:Bool):(∀c∈out al kvs l r w,c∈x)∧(out al kvs l r w).length≤2*w.length+1:=by
 unfold out
 refine⟨fun c hc=>?_,?_⟩
 ·obtain⟨z,hz,hcz⟩:=List.mem_flatten.mp hc
  exact((Ea (l:=l) (r:=r) al hk hw w.length (Nat.le_refl _)).2 z hz).2 c hcz
 ·have:=NK (l:=l) (r:=r) al hk hw (n:=w.length) (Nat.le_refl _)
  omega
end
section
variable{x w:List Nat}{l r:D}
theorem YX{c:Nat}(hc:c∈x)(n:Nat):∀z∈pc l r c w n,∀d∈z,d∈x:=by
 unfold pc
 split
 ·intro z hz d hd
  rw[List.mem_singleton.mp hz] at hd
  rw[List.mem_singleton.mp hd]
  exact hc
 ·intro z hz
  simp at hz
theorem RB{c:Nat}(hc:c∈x)(hw:∀c∈w,c∈x):∀n,n≤w.length→∀z∈pin l r c w n,∀d∈z,d∈x
 | 0,_=>fun z hz=>by simp[pin] at hz
 | n+1,h=>by
  intro z hz d hd
  unfold pin at hz
  rcases List.mem_append.mp hz with hz|hz
  ·exact RB hc hw n (by omega) z hz d hd
  ·rcases List.mem_append.mp hz with hz|hz
   ·exact YX hc n z hz d hd
   ·rw[List.mem_singleton.mp hz] at hd
    rw[List.mem_singleton.mp hd]
    exact(Rc hw (by omega)).2
theorem acI{c:Nat}(hc:c∈x)(hw:∀c∈w,c∈x):(∀d∈inn l r c w,d∈x)∧(inn l r c w).length≤2*w.length+1:=by
 unfold inn
 refine⟨fun d hd=>?_,?_⟩
 ·obtain⟨z,hz,hdz⟩:=List.mem_flatten.mp hd
  rcases List.mem_append.mp hz with hz|hz
  ·exact RB hc hw w.length (Nat.le_refl _) z hz d hdz
  ·exact YX hc _ z hz d hdz
 ·have h1:=Al (l:=l) (r:=r) (w:=w) c w.length
  have h2:=RW (l:=l) (r:=r) (w:=w) c w.length
  rw[Ue fun z hz=>(List.mem_append.mp hz).elim (h1.2 z) (h2.2 z),List.length_append]
  omega
end
end uF
namespace uF
open Ev PySem L2
open ni (SG gC)
section
variable{x w:List Nat}{l r:D}{kvs:List (D×D)}
noncomputable def KR:bQ:=aC (aL (au cB 7 (au tQ 9 (aU (.int 1)))) (ak 10)) (aC (cT (cX (au mJ 2 (aU (.str [97,108,111,110,103])))) (aL (au cB 8 (oA qi (aU (.int 1)))) (ak 10)) (bI)) (cT (cz (cX (aK ou (au cB 7 (aY 9)) (aY 6))) (cz (cX (az bW (aa (aq 4) (aa (aq 10) (ao))))) (cX (az bW (aa (aq 5) (aa (au cB 7 (au bT 9 (aU (.int 1)))) (ao))))))) (aL (au bT 8 (au iY 6 (au cB 7 (aY 9)))) (ak 8)) (aL (au bT 8 (au cB 7 (aY 9))) (ak 8))))
variable(hx:x∈XS)(hl:l∈SG x)(hr:r∈SG x)(hw:∀c∈w,c∈x)(hn:w.length≤300)(hk:Ei x kvs)
include hx hl hr hw hn hk
theorem W4(al:Bool)(n:Nat)(hnn:n<w.length)(a0 a1 a3 a10:Option (Bool×D)) :
  ∃b10,KR [a0,a1,some (false,cI al),a3,some (false,l),some (false,r),some (false,.dct kvs),some (false,.str (ed w)),some (false,.str (35::(cg al kvs l r w n).flatten)),some (false,.int ((n+1:Nat):Int)),a10] =
   .nx [a0,a1,some (false,cI al),a3,some (false,l),some (false,r),some (false,.dct kvs),some (false,.str (ed w)),some (false,.str (35::(cg al kvs l r w (n+1)).flatten)),some (false,.int ((n+1:Nat):Int)),b10]:=by
 have hcl:=NK (l:=l) (r:=r) al hk hw (n:=n) (by omega)
 have hnm:=Hy (l:=l) (r:=r) al hk hw (n:=n) (by omega)
 have hno:=Su (l:=l) (r:=r) hk hw hnn (iV al w (cg al kvs l r w n) n)
 have hcg:cg al kvs l r w (n+1)=cg al kvs l r w n++[nw kvs l r w (iV al w (cg al kvs l r w n) n) n]:=rfl
 have i0:=DK (z:=ed w) (n:=n) (by rw[tX];omega)
 have i1:=DK (z:=ed w) (n:=n+1) (by rw[tX];omega)
 have i2:=DK (z:=ed w) (n:=n+2) (by rw[tX];omega)
 have h2m:sg w (n+2)∈35::x:=uL hw (by omega)
 rw[hcg,List.flatten_append]
 generalize hM:cg al kvs l r w n=made at *
 have hnr:iV al w made n=if al=true then (35::made.flatten).getLastD 0 else sg w n:=rfl
 generalize hN:iV al w made n=near at *
 have hnw:nw kvs l r w near n=if ((look kvs (sg w (n+1))).isSome&&(fit l near&&fit r (sg w (n+2))))=true then (look kvs (sg w (n+1))).getD [] else [sg w (n+1)]:=rfl
 generalize hT:nw kvs l r w near n=t at *
 generalize hF:made.flatten=f at *
 refine⟨some (false,.str [near]),?_⟩
 unfold KR
 refine(aP (e:=[a0,a1,some (false,cI al),a3,some (false,l),some (false,r),some (false,.dct kvs),some (false,.str (ed w)),some (false,.str (35::f)),some (false,.int ((n+1:Nat):Int)),some (false,.str [sg w n])]) ?_).trans ?_
 ·exact dg (bM (o:=false) (o':=false) (x:=.str (ed w)) (x0:=.str (ed w)) (y:=.int (n:Int)) (e2:=[a0,a1,some (false,cI al),a3,some (false,l),some (false,r),some (false,.dct kvs),some (false,.str (ed w)),some (false,.str (35::f)),some (false,.int ((n+1:Nat):Int)),a10]) (by rfl) (bM (o:=false) (o':=false) (x:=.int ((n+1:Nat):Int)) (x0:=.int ((n+1:Nat):Int)) (y:=.int 1) (by rfl) (by rfl) (by rfl) (aat n)) (by rfl) i0) (by rfl)
 refine(aP (e:=[a0,a1,some (false,cI al),a3,some (false,l),some (false,r),some (false,.dct kvs),some (false,.str (ed w)),some (false,.str (35::f)),some (false,.int ((n+1:Nat):Int)),some (false,.str [near])]) ?_).trans ?_
 ·cases al with
  | false=>
   rw[if_neg Bool.false_ne_true] at hnr
   rw[hnr]
   exact(kZ (e:=_) (by rfl)).trans rfl
  | true=>
   rw[if_pos rfl] at hnr
   rw[hnr]
   exact(kY (e:=_) (by rfl)).trans (dg (bM (o:=false) (o':=false) (x:=.str (35::f)) (x0:=.str (35::f)) (y:=.int (-1)) (by rfl) (by rfl) (by rfl) (Xo 35 f)) (by rfl))
 have g1:au cB 7 (aY 9) [a0,a1,some (false,cI al),a3,some (false,l),some (false,r),some (false,.dct kvs),some (false,.str (ed w)),some (false,.str (35::f)),some (false,.int ((n+1:Nat):Int)),some (false,.str [near])] = .ok (.str [sg w (n+1)]) [a0,a1,some (false,cI al),a3,some (false,l),some (false,r),some (false,.dct kvs),some (false,.str (ed w)),some (false,.str (35::f)),some (false,.int ((n+1:Nat):Int)),some (false,.str [near])]:=
  bM (o:=false) (o':=false) (x:=.str (ed w)) (x0:=.str (ed w)) (y:=.int ((n+1:Nat):Int)) (by rfl) (by rfl) (by rfl) i1
 have tt:cz (cX (aK ou (au cB 7 (aY 9)) (aY 6))) (cz (cX (az bW (aa (aq 4) (aa (aq 10) (ao))))) (cX (az bW (aa (aq 5) (aa (au cB 7 (au bT 9 (aU (.int 1)))) (ao)))))) [a0,a1,some (false,cI al),a3,some (false,l),some (false,r),some (false,.dct kvs),some (false,.str (ed w)),some (false,.str (35::f)),some (false,.int ((n+1:Nat):Int)),some (false,.str [near])] = .ok ((look kvs (sg w (n+1))).isSome&&(fit l near&&fit r (sg w (n+2)))) [a0,a1,some (false,cI al),a3,some (false,l),some (false,r),some (false,.dct kvs),some (false,.str (ed w)),some (false,.str (35::f)),some (false,.int ((n+1:Nat):Int)),some (false,.str [near])]:=by
  refine jW (lL (cH (y:=.dct kvs) g1 (by rfl) (zH hk _))) (jW (lL (bG (ds:=[l,.str [near]]) (by rfl) (lY x hx l hl _ hnm))) (lL (bG (ds:=[r,.str [sg w (n+2)]]) ?_ (lY x hx r hr _ h2m))))
  refine bA (d:=r) (by rfl) (bA ?_ cW)
  exact bM (o:=false) (o':=false) (x:=.str (ed w)) (x0:=.str (ed w)) (y:=.int ((n+2:Nat):Int)) (by rfl) (bM (o:=false) (o':=false) (x:=.int ((n+1:Nat):Int)) (x0:=.int ((n+1:Nat):Int)) (y:=.int 1) (by rfl) (by rfl) (by rfl) (aku (n+1))) (by rfl) i2
 have hfl:(35::f).length+t.length≤1000:=by rw[List.length_cons];have:=hno.1;omega
 cases hc:(look kvs (sg w (n+1))).isSome&&(fit l near&&fit r (sg w (n+2))) with
 | true=>
  rw[hc] at tt hnw
  rw[if_pos rfl] at hnw
  obtain⟨u,hu⟩:=Option.isSome_iff_exists.mp (Bool.and_eq_true_iff.mp hc).1
  rw[hu] at hnw
  have hnw':t=u:=hnw
  have hfu:[t].flatten=u:=by rw[hnw'];simp
  rw[hfu]
  rw[hnw'] at hfl
  exact(kY tt).trans (dg (bM (o:=false) (o':=false) (x:=.str (35::f)) (x0:=.str (35::f)) (y:=.str u) (by rfl) (bM (o:=false) (o':=false) (x:=.dct kvs) (x0:=.dct kvs) (y:=.str [sg w (n+1)]) (by rfl) g1 (by rfl) (sJ hk hu).1) (by rfl) (oW hfl)) (by rfl))
 | false=>
  rw[hc] at tt hnw
  rw[if_neg Bool.false_ne_true] at hnw
  have hfu:[t].flatten=[sg w (n+1)]:=by rw[hnw];rfl
  rw[hfu]
  rw[hnw] at hfl
  exact(kZ tt).trans (dg (bM (o:=false) (o':=false) (x:=.str (35::f)) (x0:=.str (35::f)) (y:=.str [sg w (n+1)]) (by rfl) g1 (by rfl) (oW hfl)) (by rfl))
theorem CP(al:Bool)(ps:List Pr)(hps:0<ps.length)(hd:rH [.tup (ps.map encC)]=some (.dct kvs)):cZ [.tup [cI al,.tup (ps.map encC),l,r],.str w]=some (.str (out al kvs l r w)):=by
 have t0:∀a0 a1 a2 a4 a5,cX (aK mJ (aK cB (au cB 3 (aU (.int 0))) (aU (.int 0))) (aU (.str []))) [a0,a1,a2,some (false,.tup (ps.map encC)),a4,a5,none,none,none,none,none] = .ok false [a0,a1,a2,some (false,.tup (ps.map encC)),a4,a5,none,none,none,none,none]:=by
  intro a0 a1 a2 a4 a5
  match ps,hps with
  | p::ps,_=>
   refine lL (cH (x:=.str [p.1]) (y:=.str []) (e1:=[a0,a1,a2,some (false,.tup ((p::ps).map encC)),a4,a5,none,none,none,none,none]) ?_ (by rfl) (by rfl))
   refine cH (x:=encC p) (y:=.int 0) (e1:=[a0,a1,a2,some (false,.tup ((p::ps).map encC)),a4,a5,none,none,none,none,none]) ?_ (by rfl) (by rfl)
   exact bM (o:=false) (o':=false) (x:=.tup ((p::ps).map encC)) (x0:=.tup ((p::ps).map encC)) (y:=.int 0) (by rfl) (by rfl) (by rfl) (mj (xs:=(p::ps).map encC) (j:=0) (v:=encC p) (by rfl))
 generalize hC:D.tup (ps.map encC)=ch at *
 generalize hR:D.tup [cI al,ch,l,r]=R
 obtain⟨e',f1,hdl,a9,a10,rfl⟩:=jU (g:=ak 9) (b:=KR) (fB 1 1 w.length)
  (fun done env=>done.length≤w.length∧∃a9 a10,env=[some (false,R),some (false,.str w),some (false,cI al),some (false,ch),some (false,l),some (false,r),some (false,.dct kvs),some (false,.str (ed w)),some (false,.str (35::(cg al kvs l r w done.length).flatten)),a9,a10])
  (fun done s rest hall env ⟨hdl,a9,a10,he⟩=>by
   subst he
   obtain⟨rfl,hdl⟩:=step_at hall
   obtain⟨b10,hb⟩:=W4 hx hl hr hw hn hk al done.length hdl (some (false,R)) (some (false,.str w)) (some (false,ch)) a10
   refine⟨_,_,rfl,hb,by rw[List.length_append,List.length_singleton];omega,some (false,.int ((done.length+1:Nat):Int)),b10,?_⟩
   rw[List.length_append,List.length_singleton])
  [some (false,R),some (false,.str w),some (false,cI al),some (false,ch),some (false,l),some (false,r),some (false,.dct kvs),some (false,.str (ed w)),some (false,.str [35]),none,none] ⟨Nat.zero_le _,none,none,rfl⟩
 rw[kW] at f1
 refine gA (env:=[some (false,R),some (false,.str w),some (false,cI al),some (false,ch),some (false,l),some (false,r),some (false,.dct kvs),some (false,.str (ed w)),some (false,.str (35::(cg al kvs l r w w.length).flatten)),a9,a10]) ?_
 unfold eF
 refine(aP (e:=[some (false,R),some (false,.str w),some (false,cI al),some (false,ch),some (false,l),some (false,r),none,none,none,none,none]) (by rw[←hR];rfl)).trans ?_
 refine(aP (e:=[some (false,R),some (false,.str w),some (false,cI al),some (false,ch),some (false,l),some (false,r),none,none,none,none,none]) ((kZ (t0 _ _ _ _ _)).trans rfl)).trans ?_
 refine(aP (e:=[some (false,R),some (false,.str w),some (false,cI al),some (false,ch),some (false,l),some (false,r),some (false,.dct kvs),none,none,none,none]) ?_).trans ?_
 ·exact dg (e:=[some (false,R),some (false,.str w),some (false,cI al),some (false,ch),some (false,l),some (false,r),none,none,none,none,none]) (bG (ds:=[ch]) (by rfl) hd) (by rfl)
 refine(aP (e:=[some (false,R),some (false,.str w),some (false,cI al),some (false,ch),some (false,l),some (false,r),some (false,.dct kvs),some (false,.str (ed w)),none,none,none]) ?_).trans ?_
 ·refine dg (d:=.str (ed w)) (e:=[some (false,R),some (false,.str w),some (false,cI al),some (false,ch),some (false,l),some (false,r),some (false,.dct kvs),none,none,none,none]) ?_ (by rfl)
  refine cH (x:=.str ([35]++w)) (y:=.str [35]) (e1:=[some (false,R),some (false,.str w),some (false,cI al),some (false,ch),some (false,l),some (false,r),some (false,.dct kvs),none,none,none,none]) ?_ (by rfl) (oW (by show w.length+1+1≤1000;omega))
  exact cH (x:=.str [35]) (y:=.str w) (e1:=[some (false,R),some (false,.str w),some (false,cI al),some (false,ch),some (false,l),some (false,r),some (false,.dct kvs),none,none,none,none]) (by rfl) (by rfl) (oW (by show 1+w.length≤1000;omega))
 refine(aP (e:=[some (false,R),some (false,.str w),some (false,cI al),some (false,ch),some (false,l),some (false,r),some (false,.dct kvs),some (false,.str (ed w)),some (false,.str [35]),none,none]) (by rfl)).trans ?_
 refine(aP ((jm (ds:=fB 1 1 w.length) (e:=[some (false,R),some (false,.str w),some (false,cI al),some (false,ch),some (false,l),some (false,r),some (false,.dct kvs),some (false,.str (ed w)),some (false,.str [35]),none,none]) ?_).trans f1)).trans ?_
 ·refine Ob.xm (ds:=[.int 1,.int ((w.length+1:Nat):Int)]) ?_ (afd (by omega))
  refine bA (d:=.int 1) (by rfl) (bA ?_ cW)
  refine cH (x:=.int ((w.length+1+1:Nat):Int)) (y:=.int 1) (e1:=[some (false,R),some (false,.str w),some (false,cI al),some (false,ch),some (false,l),some (false,r),some (false,.dct kvs),some (false,.str (ed w)),some (false,.str [35]),none,none]) ?_ (by rfl) (aat _)
  refine bG (ds:=[.str (ed w)]) (by rfl) ?_
  show some (D.int ((ed w).length:Int))=_
  rw[tX]
 ·refine cR ?_
  unfold out
  generalize(cg al kvs l r w w.length).flatten=z
  have e1:∀(env:Ev.Env),env[8]? = some (some (false,.str (35::z)))→tV (aq 8) (uJ (aU (.int 1))) jV env = .ok (.str (vM (35::z) (some 1) none)) env:=fun env h=>by
   have hv:aq 8 env = .ok (.str (35::z)) env:=by unfold aq;rw[h]
   unfold tV
   rw[hv]
   rfl
  rw[Uy] at e1
  exact e1 _ rfl
end
theorem aeq{w:D}(h:w = .str [111,110,99,101]∨w = .str [97,108,111,110,103]):∃al,w=cI al:=by
 rcases h with rfl|rfl
 ·exact⟨false,rfl⟩
 ·exact⟨true,rfl⟩
theorem from_left{x w:List Nat}{wy ch l r:D}(hx:x∈XS)(h:rD x wy ch l r)(hw:∀c∈w,c∈x)(hn:w.length≤300):∃o:List Nat,fV [.tup [wy,ch,l,r],.str w]=some (.str o)∧cZ [.tup [wy,ch,l,r],.str w]=some (.str o)∧(∀c∈o,c∈x)∧o.length≤2*w.length+1:=by
 obtain⟨al,rfl⟩:=aeq h.way
 cases h.chg with
 | put hc=>
  rename_i c
  refine⟨inn l r c w,?_,?_,acI hc hw⟩
  ·refine gA (env:=[some (false,.tup [cI al,.tup [.tup [.str [],.str [c]]],l,r]),some (false,.str w)]) ?_
   unfold gJ
   refine pY ?_
   refine(kY (e:=[some (false,.tup [cI al,.tup [.tup [.str [],.str [c]]],l,r]),some (false,.str w)]) (lL (bG (ds:=[.tup [cI al,.tup [.tup [.str [],.str [c]]],l,r]]) (by rfl) (by rfl)))).trans ?_
   exact cR (bG (ds:=[.tup [cI al,.tup [.tup [.str [],.str [c]]],l,r],.str w]) (by rfl) (with_put_in hx h.left h.right hw hn _ c))
  ·refine gA (env:=[some (false,.tup [cI al,.tup [.tup [.str [],.str [c]]],l,r]),some (false,.str w),some (false,cI al),some (false,.tup [.tup [.str [],.str [c]]]),some (false,l),some (false,r),none,none,none,none,none]) ?_
   unfold eF
   refine(aP (e:=[some (false,.tup [cI al,.tup [.tup [.str [],.str [c]]],l,r]),some (false,.str w),some (false,cI al),some (false,.tup [.tup [.str [],.str [c]]]),some (false,l),some (false,r),none,none,none,none,none]) (by rfl)).trans ?_
   refine pY ?_
   refine(kY (e:=[some (false,.tup [cI al,.tup [.tup [.str [],.str [c]]],l,r]),some (false,.str w),some (false,cI al),some (false,.tup [.tup [.str [],.str [c]]]),some (false,l),some (false,r),none,none,none,none,none]) (by rfl)).trans ?_
   exact cR (bG (ds:=[.tup [cI al,.tup [.tup [.str [],.str [c]]],l,r],.str w]) (by rfl) (KZ hx h.left h.right hw hn _ c))
 | chg h0 h4 hp=>
  rename_i ps
  obtain⟨kvs,hd,hk⟩:=Gj hp
  refine⟨out al kvs l r w,?_,CP hx h.left h.right hw hn hk al ps h0 hd,aa2 hx h.left h.right hw hn hk al⟩
  have hpi:lJ [.tup [cI al,.tup (ps.map encC),l,r]]=some (.bl false):=by
   match ps,h0 with
   | p::ps,_=>
    refine gA (env:=[some (false,.tup [cI al,.tup ((p::ps).map encC),l,r])]) (cR ?_)
    refine cH (x:=.str [p.1]) (y:=.str []) (e1:=[some (false,.tup [cI al,.tup ((p::ps).map encC),l,r])]) ?_ (by rfl) (by rfl)
    refine cH (x:=encC p) (y:=.int 0) (e1:=[some (false,.tup [cI al,.tup ((p::ps).map encC),l,r])]) ?_ (by rfl) (by rfl)
    refine cH (x:=.tup ((p::ps).map encC)) (y:=.int 0) (e1:=[some (false,.tup [cI al,.tup ((p::ps).map encC),l,r])]) (by rfl) (by rfl) (mj (xs:=(p::ps).map encC) (j:=0) (v:=encC p) (by rfl))
  refine gA (env:=[some (false,.tup [cI al,.tup (ps.map encC),l,r]),some (false,.str w)]) ?_
  unfold gJ
  refine(aP ((kZ (e:=[some (false,.tup [cI al,.tup (ps.map encC),l,r]),some (false,.str w)]) (lL (bG (ds:=[.tup [cI al,.tup (ps.map encC),l,r]]) (by rfl) hpi))).trans rfl)).trans ?_
  exact cR (bG (ds:=[.tup [cI al,.tup (ps.map encC),l,r],.str w]) (by rfl) (with_changes hx h.left h.right hw hn hk al _ hd))
noncomputable def sides:List D:=[.str [108,101,102,116],.str [114,105,103,104,116]]
theorem changed{x w:List Nat}{wy ch l r:D}(hx:x∈XS)(h:rD x wy ch l r)(hw:∀c∈w,c∈x)(hn:w.length≤300):∀s∈sides,∃o:List Nat,dR [s,.tup [wy,ch,l,r],.str w]=some (.str o)∧dF [s,.tup [wy,ch,l,r],.str w]=some (.str o)∧(∀c∈o,c∈x)∧o.length≤2*w.length+1:=by
 intro s hs
 rcases List.mem_cons.mp hs with rfl|hs
 ·obtain⟨o,h1,h2,h3⟩:=from_left hx h hw hn
  refine⟨o,?_,?_,h3⟩
  ·refine gA (env:=[some (false,.str [108,101,102,116]),some (false,.tup [wy,ch,l,r]),some (false,.str w)]) ?_
   unfold jX
   refine(aP ((kZ (e:=[some (false,.str [108,101,102,116]),some (false,.tup [wy,ch,l,r]),some (false,.str w)]) (by rfl)).trans rfl)).trans ?_
   exact cR (bG (ds:=[.tup [wy,ch,l,r],.str w]) (by rfl) h1)
  ·refine gA (env:=[some (false,.str [108,101,102,116]),some (false,.tup [wy,ch,l,r]),some (false,.str w)]) ?_
   unfold eG
   refine(aP ((kZ (e:=[some (false,.str [108,101,102,116]),some (false,.tup [wy,ch,l,r]),some (false,.str w)]) (by rfl)).trans rfl)).trans ?_
   exact cR (bG (ds:=[.tup [wy,ch,l,r],.str w]) (by rfl) h2)
 ·rw[List.mem_singleton.mp hs]
  obtain⟨o,h1,h2,h3,h4⟩:=from_left (w:=w.reverse) hx (⟨h.way,h.chg,h.right,h.left⟩:rD x wy ch r l) (fun c hc=>hw c (List.mem_reverse.mp hc)) (by rw[List.length_reverse];exact hn)
  have rev:∀{a:Ev} {env:Ev.Env},a env = .ok (.str o) env→ql a env = .ok (.str o.reverse) env:=fun{a env} e=>by unfold ql;rw[e];rfl
  refine⟨o.reverse,?_,?_,fun c hc=>h3 c (List.mem_reverse.mp hc),by rw[List.length_reverse] at h4 ⊢;exact h4⟩
  ·refine gA (env:=[some (false,.str [114,105,103,104,116]),some (false,.tup [wy,ch,l,r]),some (false,.str w)]) ?_
   unfold jX
   refine pY ((kY (e:=[some (false,.str [114,105,103,104,116]),some (false,.tup [wy,ch,l,r]),some (false,.str w)]) (by rfl)).trans (cR (rev ?_)))
   exact bG (ds:=[.tup [wy,ch,r,l],.str w.reverse]) (by rfl) h1
  ·refine gA (env:=[some (false,.str [114,105,103,104,116]),some (false,.tup [wy,ch,l,r]),some (false,.str w)]) ?_
   unfold eG
   refine pY ((kY (e:=[some (false,.str [114,105,103,104,116]),some (false,.tup [wy,ch,l,r]),some (false,.str w)]) (by rfl)).trans (cR (rev ?_)))
   exact bG (ds:=[.tup [wy,ch,r,l],.str w.reverse]) (by rfl) h2
end uF
namespace Ci
open Ev
noncomputable def pM:bQ:=yR.pM
noncomputable def dJ:List D→Option D:=cP 2 pM
noncomputable def oG:bQ:=yR.oG
noncomputable def qj:List D→Option D:=cP 5 oG
noncomputable def lM:bQ:=yR.lM
noncomputable def lJ:List D→Option D:=cP 1 lM
noncomputable def gk:bQ:=uF.gk
noncomputable def f9:List D→Option D:=cP 10 gk
noncomputable def eZ:bQ:=uF.eZ
noncomputable def eY:List D→Option D:=cP 13 eZ
noncomputable def gJ:bQ:=uF.gJ
noncomputable def fV:List D→Option D:=cP 2 gJ
noncomputable def jX:bQ:=uF.jX
noncomputable def dR:List D→Option D:=cP 3 jX
noncomputable def Gr:bQ:=aC (aL (aq 0) (cV 2 (aQ (ak 2) (aQ (ak 3) (dh))))) (aC (dB 4 (cG (aa (aq 1) (ao)))) (aC (eO (fG (aq 3)) (ak 5) (gq 4 (az dR (aa (aq 2) (aa (aq 5) (aa (au cB 4 (oA qi (aU (.int 1)))) (ao))))))) (bh (az du (aa (aY 4) ao)))))
noncomputable def yE:List D→Option D:=cP 6 Gr
noncomputable def Mf:bQ:=bh (aK cB (az yE (aa (aq 0) (aa (aq 1) (ao)))) (oA qi (aU (.int 1))))
noncomputable def mZ:List D→Option D:=cP 2 Mf
noncomputable def oH:bQ:=yR.pM
noncomputable def bW:List D→Option D:=cP 2 oH
noncomputable def gR:bQ:=uF.gR
noncomputable def gP:List D→Option D:=cP 5 gR
noncomputable def eF:bQ:=uF.eF
noncomputable def cZ:List D→Option D:=cP 11 eF
noncomputable def gQ:bQ:=yR.gQ
noncomputable def ji:List D→Option D:=cP 1 gQ
noncomputable def eG:bQ:=uF.eG
noncomputable def dF:List D→Option D:=cP 3 eG
noncomputable def qZ:bQ:=aC (dB 2 (cG (aa (aq 1) (ao)))) (aC (eO (fG (au cB 0 (aU (.int 1)))) (ak 3) (gq 2 (az dF (aa (au cB 0 (aU (.int 0))) (aa (aq 3) (aa (au cB 2 (oA qi (aU (.int 1)))) (ao))))))) (bh (az du (aa (aY 2) ao))))
noncomputable def jD:List D→Option D:=cP 4 qZ
end Ci
namespace Ci
open Ev PySem L2
open ni (gC)
open uF (XS sides rD oW)
noncomputable def iI(x:List Nat)(R:D):Prop:=∃wy ch l r,R = .tup [wy,ch,l,r]∧rD x wy ch l r
noncomputable def cF(s R:D)(w:List Nat):List Nat:=match uF.dR [s,R,.str w] with
 | some (.str o)=>o
 | _=>[]
section
variable{x:List Nat}{s:D}
theorem NZ(hx:x∈XS)(hs:s∈sides){R:D}(hR:iI x R){w:List Nat}(hw:∀c∈w,c∈x)(hn:w.length≤300) :
  dR [s,R,.str w]=some (.str (cF s R w))∧dF [s,R,.str w]=some (.str (cF s R w))∧(∀c∈cF s R w,c∈x)∧(cF s R w).length≤2*w.length+1:=by
 obtain⟨wy,ch,l,r,rfl,h⟩:=hR
 obtain⟨o,h1,h2,h3⟩:=uF.changed hx h hw hn s hs
 have e:cF s (.tup [wy,ch,l,r]) w=o:=by unfold cF;rw[h1]
 rw[e]
 exact⟨h1,h2,h3⟩
noncomputable def fin(s:D)(Rs:List D)(w:List Nat):List Nat:=Rs.foldl (fun v R=>cF s R v) w
noncomputable def rG(s:D):List Nat→List D→List (List Nat)
 | w,[]=>[w]
 | w,R::Rs=>w::rG s (cF s R w) Rs
theorem zX:∀(Rs:List D) (w:List Nat) (R:D),rG s w (Rs++[R])=rG s w Rs++[cF s R (fin s Rs w)]
 | [],w,R=>rfl
 | Q::Rs,w,R=>by
  show w::rG s (cF s Q w) (Rs++[R])=w::rG s (cF s Q w) Rs++[cF s R (fin s Rs (cF s Q w))]
  rw[zX Rs]
  rfl
theorem zY:∀(Rs:List D) (w:List Nat),∃pre,rG s w Rs=pre++[fin s Rs w]
 | [],w=>⟨[],rfl⟩
 | R::Rs,w=>by
  obtain⟨pre,e⟩:=zY Rs (cF s R w)
  refine⟨w::pre,?_⟩
  show w::rG s (cF s R w) Rs=_
  rw[e]
  rfl
theorem Em:∀(Rs:List D) (w:List Nat),(rG s w Rs).length=Rs.length+1
 | [],w=>rfl
 | R::Rs,w=>by show(w::rG s (cF s R w) Rs).length=_;rw[List.length_cons,Em Rs,List.length_cons]
theorem Bp(hx:x∈XS)(hs:s∈sides):∀(Rs:List D) (w:List Nat),(∀R∈Rs,iI x R)→(∀c∈w,c∈x)→(w.length+1)*2^Rs.length≤301→(∀c∈fin s Rs w,c∈x)∧(fin s Rs w).length+1≤(w.length+1)*2^Rs.length
 | [],w,_,hw,hn=>⟨hw,by show w.length+1≤(w.length+1)*1;omega⟩
 | R::Rs,w,hR,hw,hn=>by
  have h2:(w.length+1)*2^(R::Rs).length=(2*w.length+1+1)*2^Rs.length:=by
   rw[List.length_cons,Nat.pow_succ,←Nat.mul_assoc,Nat.mul_right_comm]
   congr 1
   omega
  have hp:1≤2^Rs.length:=Nat.one_le_two_pow
  have hwl:w.length≤300:=by
   have:2*w.length+1+1≤(2*w.length+1+1)*2^Rs.length:=Nat.le_mul_of_pos_right _ hp
   omega
  obtain⟨_,_,h3,h4⟩:=NZ hx hs (hR R (List.mem_cons_self ..)) hw hwl
  have h5:((cF s R w).length+1)*2^Rs.length≤(2*w.length+1+1)*2^Rs.length:=Nat.mul_le_mul_right _ (by omega)
  obtain⟨h6,h7⟩:=Bp hx hs Rs (cF s R w) (fun Q hQ=>hR Q (List.mem_cons_of_mem _ hQ)) h3 (by omega)
  refine⟨h6,?_⟩
  show(fin s Rs (cF s R w)).length+1≤_
  omega
theorem Gg(hx:x∈XS)(hs:s∈sides)(Rs:List D)(w:List Nat)(hR:∀R∈Rs,iI x R)(hw:∀c∈w,c∈x)(hn:(w.length+1)*2^Rs.length≤301):(∀c∈fin s Rs w,c∈x)∧(fin s Rs w).length≤300:=by
 obtain⟨h1,h2⟩:=Bp hx hs Rs w hR hw hn
 exact⟨h1,by omega⟩
theorem Rz{Rs done rest:List D}{R:D}(hall:Rs=done++R::rest){n:Nat}(hn:(n+1)*2^Rs.length≤301):(n+1)*2^done.length≤301:=by
 have hl:done.length≤Rs.length:=by rw[hall,List.length_append];omega
 exact Nat.le_trans (Nat.mul_le_mul_left _ (Nat.pow_le_pow_right (by decide) hl)) hn
theorem Jp{ds:List D}{d:D}:pN (ds++[d]) (-1)=some d:=by
 unfold pN TX
 rw[if_neg (by decide),if_pos (by rw[List.length_append,List.length_singleton];omega)]
 show(ds++[d])[((-1:Int)+((ds++[d]).length:Int)).toNat]? = _
 have e1:((-1:Int)+((ds++[d]).length:Int)).toNat=ds.length:=by rw[List.length_append,List.length_singleton];omega
 rw[e1]
 simp
theorem HR(Rs:List D)(w:List Nat):cB (.lst ((rG s w Rs).map .str)) (.int (-1))=some (.str (fin s Rs w)):=by
 obtain⟨pre,e⟩:=zY (s:=s) Rs w
 rw[e,List.map_append]
 exact Jp
theorem HN(Rs:List D)(w:List Nat):cB (.tup ((rG s w Rs).map .str)) (.int (-1))=some (.str (fin s Rs w)):=by
 obtain⟨pre,e⟩:=zY (s:=s) Rs w
 rw[e,List.map_append]
 exact Jp
noncomputable def aaa:bQ:=gq 4 (az dR (aa (aq 2) (aa (aq 5) (aa (au cB 4 (oA qi (aU (.int 1)))) (ao)))))
noncomputable def abD:bQ:=gq 2 (az dF (aa (au cB 0 (aU (.int 0))) (aa (aq 3) (aa (au cB 2 (oA qi (aU (.int 1)))) (ao)))))
variable(hx:x∈XS)(hs:s∈sides){Rs:List D}(hR:∀R∈Rs,iI x R)(h4:Rs.length≤10){w:List Nat}(hw:∀c∈w,c∈x)(hn:(w.length+1)*2^Rs.length≤301)
include hx hs hR h4 hw hn
theorem walk:yE [.tup [s,.tup Rs],.str w]=some (.tup ((rG s w Rs).map .str)):=by
 generalize hO:D.tup [s,.tup Rs]=O
 obtain⟨e',f1,hd,a5,rfl⟩:=jU (g:=ak 5) (b:=aaa) Rs
  (fun done env=>done.length≤Rs.length∧∃a5,env=[some (false,O),some (false,.str w),some (false,s),some (false,.tup Rs),some (true,.lst ((rG s w done).map .str)),a5])
  (fun done R rest hall env ⟨hd,a5,he⟩=>by
   subst he
   have hm:∀Q∈done,iI x Q:=fun Q hQ=>hR Q (by rw[hall];exact List.mem_append_left _ hQ)
   have hRm:iI x R:=hR R (by rw[hall];exact List.mem_append_right _ (List.mem_cons_self ..))
   obtain⟨q1,q2⟩:=Gg hx hs done w hm hw (Rz hall hn)
   obtain⟨c1,_⟩:=NZ hx hs hRm q1 q2
   have hl:=congrArg List.length hall
   rw[List.length_append,List.length_cons] at hl
   refine⟨[some (false,O),some (false,.str w),some (false,s),some (false,.tup Rs),some (true,.lst ((rG s w done).map .str)),some (false,R)],[some (false,O),some (false,.str w),some (false,s),some (false,.tup Rs),some (true,.lst ((rG s w (done++[R])).map .str)),some (false,R)],rfl,?_,by rw[List.length_append,List.length_singleton];omega,_,rfl⟩
   rw[zX,List.map_append]
   refine(gC (i:=4) (x0:=(rG s w done).map .str) (xs:=(rG s w done).map .str) (d:=.str (cF s R (fin s done w))) (e:=[some (false,O),some (false,.str w),some (false,s),some (false,.tup Rs),some (true,.lst ((rG s w done).map .str)),some (false,R)]) (by rfl) ?_ (by rfl) (by rw[List.length_map,Em];exact Nat.lt_of_le_of_lt (show done.length+1≤11 by omega) (by decide))).trans rfl
   refine bG (ds:=[s,R,.str (fin s done w)]) (bA (d:=s) (by rfl) (bA (d:=R) (by rfl) (bA ?_ cW))) c1
   exact bM (o:=true) (o':=true) (x:=.lst ((rG s w done).map .str)) (x0:=.lst ((rG s w done).map .str)) (y:=.int (-1)) (by rfl) (by rfl) (by rfl) (HR done w))
  [some (false,O),some (false,.str w),some (false,s),some (false,.tup Rs),some (true,.lst [.str w]),none] ⟨Nat.zero_le _,none,rfl⟩
 refine gA (env:=[some (false,O),some (false,.str w),some (false,s),some (false,.tup Rs),some (true,.lst ((rG s w Rs).map .str)),a5]) ?_
 unfold Gr
 refine(aP (e:=[some (false,O),some (false,.str w),some (false,s),some (false,.tup Rs),none,none]) (by rw[←hO];rfl)).trans ?_
 refine(aP (e:=[some (false,O),some (false,.str w),some (false,s),some (false,.tup Rs),some (true,.lst [.str w]),none]) (by rfl)).trans ?_
 exact(aP ((jm (ds:=Rs) (e:=[some (false,O),some (false,.str w),some (false,s),some (false,.tup Rs),some (true,.lst [.str w]),none]) (by rfl)).trans f1)).trans rfl
theorem SQ:jD [.tup [s,.tup Rs],.str w]=some (.tup ((rG s w Rs).map .str)):=by
 obtain⟨e',f1,hd,a5,rfl⟩:=jU (g:=ak 3) (b:=abD) Rs
  (fun done env=>done.length≤Rs.length∧∃a5,env=[some (false,.tup [s,.tup Rs]),some (false,.str w),some (true,.lst ((rG s w done).map .str)),a5])
  (fun done R rest hall env ⟨hd,a5,he⟩=>by
   subst he
   have hm:∀Q∈done,iI x Q:=fun Q hQ=>hR Q (by rw[hall];exact List.mem_append_left _ hQ)
   have hRm:iI x R:=hR R (by rw[hall];exact List.mem_append_right _ (List.mem_cons_self ..))
   obtain⟨q1,q2⟩:=Gg hx hs done w hm hw (Rz hall hn)
   obtain⟨_,c1,_⟩:=NZ hx hs hRm q1 q2
   have hl:=congrArg List.length hall
   rw[List.length_append,List.length_cons] at hl
   refine⟨[some (false,.tup [s,.tup Rs]),some (false,.str w),some (true,.lst ((rG s w done).map .str)),some (false,R)],[some (false,.tup [s,.tup Rs]),some (false,.str w),some (true,.lst ((rG s w (done++[R])).map .str)),some (false,R)],rfl,?_,by rw[List.length_append,List.length_singleton];omega,_,rfl⟩
   rw[zX,List.map_append]
   refine(gC (i:=2) (x0:=(rG s w done).map .str) (xs:=(rG s w done).map .str) (d:=.str (cF s R (fin s done w))) (e:=[some (false,.tup [s,.tup Rs]),some (false,.str w),some (true,.lst ((rG s w done).map .str)),some (false,R)]) (by rfl) ?_ (by rfl) (by rw[List.length_map,Em];exact Nat.lt_of_le_of_lt (show done.length+1≤11 by omega) (by decide))).trans rfl
   refine bG (ds:=[s,R,.str (fin s done w)]) (bA (d:=s) (by rfl) (bA (d:=R) (by rfl) (bA ?_ cW))) c1
   exact bM (o:=true) (o':=true) (x:=.lst ((rG s w done).map .str)) (x0:=.lst ((rG s w done).map .str)) (y:=.int (-1)) (by rfl) (by rfl) (by rfl) (HR done w))
  [some (false,.tup [s,.tup Rs]),some (false,.str w),some (true,.lst [.str w]),none] ⟨Nat.zero_le _,none,rfl⟩
 refine gA (env:=[some (false,.tup [s,.tup Rs]),some (false,.str w),some (true,.lst ((rG s w Rs).map .str)),a5]) ?_
 unfold qZ
 refine(aP (e:=[some (false,.tup [s,.tup Rs]),some (false,.str w),some (true,.lst [.str w]),none]) (by rfl)).trans ?_
 exact(aP ((jm (ds:=Rs) (e:=[some (false,.tup [s,.tup Rs]),some (false,.str w),some (true,.lst [.str w]),none]) (by rfl)).trans f1)).trans rfl
theorem made:mZ [.tup [s,.tup Rs],.str w]=some (.str (fin s Rs w)):=by
 refine gA (env:=[some (false,.tup [s,.tup Rs]),some (false,.str w)]) (cR ?_)
 exact cH (x:=.tup ((rG s w Rs).map .str)) (y:=.int (-1)) (bG (ds:=[.tup [s,.tup Rs],.str w]) (by rfl) (walk hx hs hR h4 hw hn)) (by rfl) (HN Rs w)
end
end Ci
namespace Vt
open Ev
noncomputable def gm:bQ:=yR.gm
noncomputable def aF:List D→Option (D×D):=gV 3 gm
noncomputable def gH:bQ:=ni.gH
noncomputable def fQ:List D→Option (D×D):=gV 4 gH
noncomputable def eE:bQ:=ni.eE
noncomputable def gh:List D→Option (D×D):=gV 6 eE
noncomputable def jF:bQ:=ni.jF
noncomputable def dD:List D→Option (D×D):=gV 4 jF
noncomputable def oZ:bQ:=aC (aL (aK cB (cG (aa (aU (.str [108,101,102,116])) (aa (aU (.str [114,105,103,104,116])) (ao)))) (cJ aF 0 (aa (aU (.int 2)) (ao)))) (ak 3)) (bh (dm (aa (aq 3) (aa (az du (aa (fD 4 5 (d9 (aa (cJ aF 0 (aa (au bT 2 (aU (.int 1))) (ao))) (ao))) (ak 4) (cD) (cJ dD 0 (aa (aq 1) (ao)))) ao)) (ao)))))
noncomputable def fU:List D→Option (D×D):=gV 4 oZ
end Vt
namespace Vt
open Ev PySem L2
open ni (SG gC)
open uF (XS sides rD oW fit lY Ei look sJ zH cI encC Gj Jt jW)
open Ci (iI)
inductive Rl
 | put (c:Nat) (l r:D)
 | chg (al:Bool) (kvs:List (D×D)) (l r:D)
inductive Is (x:List Nat):D→Rl→Prop
 | put {wy l r:D} {c:Nat}:c∈x→l∈SG x→r∈SG x→Is x (.tup [wy,.tup [.tup [.str [],.str [c]]],l,r]) (.put c l r)
 | chg {al:Bool} {ps:List uF.Pr} {kvs:List (D×D)} {l r:D}:0<ps.length→rH [.tup (ps.map encC)]=some (.dct kvs)→Ei x kvs→l∈SG x→r∈SG x→Is x (.tup [cI al,.tup (ps.map encC),l,r]) (.chg al kvs l r)
end Vt
namespace Vt
open Ev PySem L2
open ni (SG gC)
open uF (XS sides rD oW fit lY Ei look sJ zH cI encC Gj Jt jW)
open Ci (iI)
noncomputable def tn:D→D
 | .tup [wy,ch,l,r]=>.tup [wy,ch,r,l]
 | d=>d
noncomputable def rt:D→Bool
 | .str (114::_)=>true
 | _=>false
end Vt
namespace Vt
open Ev PySem L2
open uF (XS sides rD oW Jt)
open ni (yQ wF Gz PV SG Qq prs one others Hs Gn FQ Rt lQ Gy nA)
open uF (Fw NB)
open Ci (iI)
theorem changes(n:Int)(x:List Nat)(hx:x∈XS):∃ch n',ni.gh [.lst [.int n],.str x]=some (ch,.lst [.int n'])∧Jt x ch:=by
 obtain⟨d,hd,e⟩:=dig n 5 (by decide)
 have hp:=yQ x hx
 have hl4:=wF x hx
 have t:cX (aK mJ (cJ ni.aF 0 (aa (aU (.int 5)) (ao))) (aU (.int 0))) [some (true,.lst [.int n]),some (false,.str x),none,none,none,none] = .ok ((d:Int) == 0) [some (true,.lst [.int (n / 5)]),some (false,.str x),none,none,none,none]:=by
  rw[←e]
  rfl
 by_cases h0:d=0
 ·subst h0
  obtain⟨j,hj,ej⟩:=dig (n / 5) x.length hp
  refine⟨.tup [.tup [.str [],.str [x[j]]]],n / 5 / (x.length:Int),jq (env:=[some (true,.lst [.int (n / 5 / (x.length:Int))]),some (false,.str x),none,none,none,none]) ?_ rfl,.put (List.getElem_mem hj)⟩
  unfold ni.eE
  refine(pY (d:=.tup [.tup [.str [],.str [x[j]]]]) (o:=false) (e:=[some (true,.lst [.int (n / 5 / (x.length:Int))]),some (false,.str x),none,none,none,none]) ?_).trans rfl
  refine(kY t).trans ?_
  refine cR (tU (bA (tU (ds:=[.str [],.str [x[j]]]) (bA (d:=.str []) (by rfl) (bA ?_ cW)) (by show 2≤sizeLine;decide)) cW) (by show 1≤sizeLine;decide))
  refine bM (o:=false) (o':=false) (x:=.str x) (x0:=.str x) (y:=.int (n / 5 % (x.length:Int))) (by rfl) ?_ (by rfl) ?_
  ·exact lZ (x:=.lst [.int (n / 5)]) (x0:=.lst [.int (n / 5)]) (ds:=[.int (x.length:Int)]) (e1:=[some (true,.lst [.int (n / 5)]),some (false,.str x),none,none,none,none]) (by rfl) (by rfl) (by rfl) (lQ _ x.length hp (by omega))
  ·show(pN x (n / 5 % (x.length:Int))).map _=_
   rw[ej,Gv hj]
   rfl
 ·have t0:((d:Int) == 0)=false:=by rw[beq_eq_false_iff_ne];omega
  rw[t0] at t
  obtain⟨j,hj,ej⟩:=dig (n / 5) 3 (by decide)
  obtain⟨ds,hds,hl1,hl2⟩:∃ds,xV [.int (1+(j:Int))]=some ds∧0<ds.length∧ds.length≤4:=by
   have hc:j=0∨j=1∨j=2:=by omega
   rcases hc with rfl|rfl|rfl
   ·exact⟨_,rfl,by decide,by decide⟩
   ·exact⟨_,rfl,by decide,by decide⟩
   ·exact⟨_,rfl,by decide,by decide⟩
  obtain⟨e',f1,n',kvs,zs,v3,v4,v5,rfl,hk,hz1,hz2⟩:=jU (g:=ak 3) (b:=aC one (aC others Hs)) ds
   (fun done env=>∃n kvs zs v3 v4 v5,env=[some (true,.lst [.int n]),some (false,.str x),some (true,.dct kvs),v3,v4,v5]∧Gz x kvs zs∧zs.length≤done.length∧(0<done.length→0<zs.length))
   (fun done s rest hall env ⟨n,kvs,zs,v3,v4,v5,he,hk,hz1,hz2⟩=>by
    subst he
    have hdl:done.length≤4:=by
     have:=congrArg List.length hall
     rw[List.length_append,List.length_cons] at this
     omega
    have hkl:kvs.length=zs.length:=by
     have:=congrArg List.length hk.keys
     rwa [List.length_map,List.length_map] at this
    obtain⟨p,n',w4,w5,hpv,hb⟩:=ni.round n x hx kvs (by omega) (some (false,s)) v4 v5
    obtain⟨zs',hk',z1,z2⟩:=hk.put hpv (Gy hpv)
    exact⟨_,_,rfl,hb,n',_,zs',_,_,_,rfl,hk',by rw[List.length_append,List.length_singleton];omega,fun _=>z1⟩)
   [some (true,.lst [.int (n / 5 / 3)]),some (false,.str x),some (true,.dct []),none,none,none] ⟨_,[],[],_,_,_,rfl,⟨rfl,.nil,fun c hc=>by simp at hc,fun k v h=>by simp at h⟩,Nat.le_refl _,fun h=>h⟩
  have hz3:zs.length≤4:=Nat.le_trans hz1 hl2
  have hok:Jt x (.tup (prs kvs ((jo (zs.map fun c=>[c])).map D.str))):=by
   obtain⟨ps,e1,e2,e3⟩:=Fw hx _ (FQ hk)
   have hl:ps.length=zs.length:=by rw[e2,List.length_map,(iK _).length_eq,List.length_map]
   rw[e1]
   have:=hz2 hl1
   exact .chg (by omega) (by omega) e3
  refine⟨_,n',jq (env:=[some (true,.lst [.int n']),some (false,.str x),some (true,.dct kvs),v3,v4,v5]) ?_ rfl,hok⟩
  unfold ni.eE
  refine(aP (e:=[some (true,.lst [.int (n / 5)]),some (false,.str x),none,none,none,none]) ((kZ t).trans rfl)).trans ?_
  refine(aP (e:=[some (true,.lst [.int (n / 5)]),some (false,.str x),some (true,.dct []),none,none,none]) (by rfl)).trans ?_
  refine(aP (e:=[some (true,.lst [.int n']),some (false,.str x),some (true,.dct kvs),v3,v4,v5]) ?_).trans ?_
  ·refine(jm (ds:=ds) (e:=[some (true,.lst [.int (n / 5 / 3)]),some (false,.str x),some (true,.dct []),none,none,none]) ?_).trans f1
   have a1:aa (aK bT (aU (.int 1)) (cJ ni.aF 0 (aa (aU (.int 3)) (ao)))) (ao) [some (true,.lst [.int (n / 5)]),some (false,.str x),some (true,.dct []),none,none,none] = .ok [.int (1+n / 5 % 3)] [some (true,.lst [.int (n / 5 / 3)]),some (false,.str x),some (true,.dct []),none,none,none]:=by rfl
   unfold d9
   rw[a1]
   show dY (xV [.int (1+n / 5 % ((3:Nat):Int))]) _=_
   rw[ej,hds]
   rfl
  ·exact Gn (NB hk hz3) _ _ _ _ _
theorem rule(n:Int)(x:List Nat)(hx:x∈XS):∃w ch l r n',ni.dD [.lst [.int n],.str x]=some (.tup [w,ch,l,r],.lst [.int n'])∧rD x w ch l r:=by
 obtain⟨d,hd,e⟩:=dig n 2 (by decide)
 obtain⟨w,hw,h1⟩:∃w,(w = .str [111,110,99,101]∨w = .str [97,108,111,110,103])∧cB (.lst [.str [111,110,99,101],.str [97,108,111,110,103]]) (.int (d:Int))=some w:=by
  have hc:d=0∨d=1:=by omega
  rcases hc with rfl|rfl
  ·exact⟨_,.inl rfl,rfl⟩
  ·exact⟨_,.inr rfl,rfl⟩
 obtain⟨ch,n1,h2,h3⟩:=changes (n / 2) x hx
 obtain⟨l,n2,h5,h6⟩:=ni.signs n1 x hx
 obtain⟨r,n3,h7,h8⟩:=ni.signs n2 x hx
 refine⟨w,ch,l,r,n3,jq (env:=[some (true,.lst [.int n3]),some (false,.str x),some (false,w),some (false,ch)]) ?_ rfl,⟨hw,h3,h6,h8⟩⟩
 unfold ni.jF
 refine(aP (e:=[some (true,.lst [.int (n / 2)]),some (false,.str x),some (false,w),none]) ?_).trans ?_
 ·refine dg (d:=w) (e:=[some (true,.lst [.int (n / 2)]),some (false,.str x),none,none]) ?_ (by rfl)
  refine cH (x:=.lst [.str [111,110,99,101],.str [97,108,111,110,103]]) (y:=.int (n % 2)) (e1:=[some (true,.lst [.int n]),some (false,.str x),none,none]) (by rfl) (by rfl) ?_
  have e2:n % 2=(d:Int):=e
  rw[e2]
  exact h1
 refine(aP (e:=[some (true,.lst [.int n1]),some (false,.str x),some (false,w),some (false,ch)]) ?_).trans ?_
 ·exact dg (d:=ch) (e:=[some (true,.lst [.int n1]),some (false,.str x),some (false,w),none]) (lZ (x:=.lst [.int (n / 2)]) (x0:=.lst [.int (n / 2)]) (ds:=[.str x]) (e1:=[some (true,.lst [.int (n / 2)]),some (false,.str x),some (false,w),none]) (by rfl) (by rfl) (by rfl) h2) (by rfl)
 ·refine cR (tU (ds:=[w,ch,l,r]) (bA (d:=w) (e1:=[some (true,.lst [.int n1]),some (false,.str x),some (false,w),some (false,ch)]) (by rfl) (bA (d:=ch) (e1:=[some (true,.lst [.int n1]),some (false,.str x),some (false,w),some (false,ch)]) (by rfl) (bA (d:=l) (e1:=[some (true,.lst [.int n2]),some (false,.str x),some (false,w),some (false,ch)]) ?_ (bA (d:=r) (e1:=[some (true,.lst [.int n3]),some (false,.str x),some (false,w),some (false,ch)]) ?_ cW)))) (by show 4≤sizeLine;decide))
  ·exact lZ (x:=.lst [.int n1]) (x0:=.lst [.int n1]) (ds:=[.str x]) (e1:=[some (true,.lst [.int n1]),some (false,.str x),some (false,w),some (false,ch)]) (by rfl) (by rfl) (by rfl) h5
  ·exact lZ (x:=.lst [.int n2]) (x0:=.lst [.int n2]) (ds:=[.str x]) (e1:=[some (true,.lst [.int n2]),some (false,.str x),some (false,w),some (false,ch)]) (by rfl) (by rfl) (by rfl) h7
theorem order(n:Int)(x:List Nat)(hx:x∈XS)(m:Nat)(hm:m≤10):∃s Rs n',fU [.lst [.int n],.str x,.int (m:Int)]=some (.tup [s,.tup Rs],.lst [.int n'])∧s∈sides∧(∀R∈Rs,iI x R)∧Rs.length≤m:=by
 obtain⟨d,hd,e⟩:=dig n 2 (by decide)
 obtain⟨s,hs,h1⟩:∃s,s∈sides∧cB (.lst [.str [108,101,102,116],.str [114,105,103,104,116]]) (.int (d:Int))=some s:=by
  have hc:d=0∨d=1:=by omega
  rcases hc with rfl|rfl
  ·exact⟨_,List.mem_cons_self ..,rfl⟩
  ·exact⟨_,List.mem_cons_of_mem _ (List.mem_cons_self ..),rfl⟩
 obtain⟨j,hj,ej⟩:=dig (n / 2) (m+1) (by omega)
 obtain⟨Rs,env',g1,⟨n',v4,rfl⟩,g3,g4⟩:=Ob.KN (g:=ak 4) (e:=cJ dD 0 (aa (aq 1) (ao))) (fun env=>∃n v4,env=[some (true,.lst [.int n]),some (false,.str x),some (false,.int (m:Int)),some (false,s),v4]) (iI x) (fB 0 1 j)
  [some (true,.lst [.int (n / 2 / ((m+1:Nat):Int))]),some (false,.str x),some (false,.int (m:Int)),some (false,s),none] ⟨_,_,rfl⟩
  (fun t _ env ⟨n,v4,he⟩=>by
   subst he
   obtain⟨wy,ch,l,r,n',h2,h3⟩:=rule n x hx
   refine⟨.tup [wy,ch,l,r],_,[some (true,.lst [.int n']),some (false,.str x),some (false,.int (m:Int)),some (false,s),some (false,t)],rfl,?_,⟨_,_,rfl⟩,_,_,_,_,rfl,h3⟩
   exact lZ (x:=.lst [.int n]) (x0:=.lst [.int n]) (ds:=[.str x]) (e1:=[some (true,.lst [.int n]),some (false,.str x),some (false,.int (m:Int)),some (false,s),some (false,t)]) (by rfl) (by rfl) (by rfl) h2)
 have hl:Rs.length=j:=by rw[kW] at g4;exact g4
 refine⟨s,Rs,n',jq (env:=[some (true,.lst [.int n']),some (false,.str x),some (false,.int (m:Int)),some (false,s)]) ?_ rfl,hs,g3,by omega⟩
 unfold oZ
 refine(aP (e:=[some (true,.lst [.int (n / 2)]),some (false,.str x),some (false,.int (m:Int)),some (false,s)]) ?_).trans ?_
 ·refine dg (d:=s) (e:=[some (true,.lst [.int (n / 2)]),some (false,.str x),some (false,.int (m:Int)),none]) ?_ (by rfl)
  refine cH (x:=.lst [.str [108,101,102,116],.str [114,105,103,104,116]]) (y:=.int (n % 2)) (e1:=[some (true,.lst [.int n]),some (false,.str x),some (false,.int (m:Int)),none]) (by rfl) (by rfl) ?_
  have e2:n % 2=(d:Int):=e
  rw[e2]
  exact h1
 refine cR (tU (ds:=[s,.tup Rs]) (bA (d:=s) (e1:=[some (true,.lst [.int (n / 2)]),some (false,.str x),some (false,.int (m:Int)),some (false,s)]) (by rfl) (bA ?_ cW)) (by show 2≤sizeLine;decide))
 refine bG (ds:=[.lst Rs]) (bA ?_ cW) rfl
 refine xn (lo:=4) (n:=5) (ds:=fB 0 1 j) (aG:=[some (true,.lst [.int (n / 2 / ((m+1:Nat):Int))]),some (false,.str x),some (false,.int (m:Int)),some (false,s)]) (cQ:=[some (true,.lst [.int n']),some (false,.str x),some (false,.int (m:Int)),some (false,s),v4]) ?_ (by rfl) g1 (by rw[hl];exact Nat.le_trans (show j≤10 by omega) (by decide))
 refine Ob.xm (ds:=[.int (n / 2 % ((m+1:Nat):Int))]) ?_ ?_
 ·refine bA (e1:=[some (true,.lst [.int (n / 2 / ((m+1:Nat):Int))]),some (false,.str x),some (false,.int (m:Int)),some (false,s)]) ?_ cW
  exact lZ (x:=.lst [.int (n / 2)]) (x0:=.lst [.int (n / 2)]) (ds:=[.int ((m+1:Nat):Int)]) (e1:=[some (true,.lst [.int (n / 2)]),some (false,.str x),some (false,.int (m:Int)),some (false,s)]) (by rfl) (by rfl) (by rfl) (ni.lQ (n / 2) (m+1) (by omega) (by omega))
 ·have e2:n / 2 % ((m+1:Nat):Int)=(j:Int):=ej
  rw[e2]
  exact Ob.Fo (by omega)
end Vt
namespace yR
open Ev PySem L2
open Ci (cF fin iI)
noncomputable def perms(n:Nat):Nat→List (List Nat)
 | 0=>[[]]
 | k+1=>(perms n k).flatMap fun r=>((List.range n).filter fun i=>!decide (i∈r)).map fun i=>r++[i]
theorem cj(n:Nat):∀(k:Nat) (r:List Nat),r∈perms n k↔r.length=k∧r.Nodup∧∀i∈r,i<n
 | 0,r=>by
  constructor
  ·intro h
   have:r=[]:=by simpa[perms] using h
   subst this
   exact⟨rfl,.nil,by simp⟩
  ·rintro⟨h,_⟩
   rw[List.eq_nil_of_length_eq_zero h]
   simp[perms]
 | k+1,r=>by
  unfold perms
  rw[List.mem_flatMap]
  constructor
  ·rintro⟨q,hq,hr⟩
   obtain⟨i,hi,rfl⟩:=List.mem_map.mp hr
   obtain⟨h1,h2,h3⟩:=(cj n k q).mp hq
   obtain⟨h4,h5⟩:=List.mem_filter.mp hi
   have h5:i ∉ q:=by simpa using h5
   refine⟨by simp[h1],?_,?_⟩
   ·rw[List.nodup_append]
    refine⟨h2,by simp,fun a ha b hb=>?_⟩
    rw[List.mem_singleton.mp hb]
    intro e
    exact h5 (e ▸ ha)
   ·intro j hj
    rcases List.mem_append.mp hj with hj|hj
    ·exact h3 j hj
    ·rw[List.mem_singleton.mp hj];exact List.mem_range.mp h4
  ·rintro⟨h1,h2,h3⟩
   obtain⟨q,i,rfl⟩:∃q i,r=q++[i]:=⟨r.dropLast,r.getLast (by intro e;subst e;simp at h1),(List.dropLast_concat_getLast _).symm⟩
   rw[List.nodup_append] at h2
   refine⟨q,(cj n k q).mpr ⟨by simpa using h1,h2.1,fun j hj=>h3 j (by simp[hj])⟩,List.mem_map.mpr ⟨i,List.mem_filter.mpr ⟨List.mem_range.mpr (h3 i (by simp)),?_⟩,rfl⟩⟩
   have:i ∉ q:=fun h=>h2.2.2 i h i (by simp) rfl
   simpa using this
theorem rY{n k:Nat}{r:List Nat}(h:r∈perms n k):k≤n:=by
 obtain⟨h1,h2,h3⟩:=(cj n k r).mp h
 have hs:r ⊆ List.range n:=fun i hi=>List.mem_range.mpr (h3 i hi)
 have:=List.Nodup.length_le_of_subset h2 hs
 rw[List.length_range] at this
 omega
theorem An{n k:Nat}(h:n<k):perms n k=[]:=by
 cases e:perms n k with
 | nil=>rfl
 | cons r l=>
  have:r∈perms n k:=by rw[e];simp
  have:=rY this
  omega
theorem xZ(n:Nat):∀k:Nat,(perms (n+1) k).filter (fun r=>!decide (n∈r))=perms n k
 | 0=>by simp[perms]
 | k+1=>by
  have ih:=xZ n k
  unfold perms
  rw[List.filter_flatMap,←ih]
  have hstep:∀(l:List (List Nat)),(l.flatMap fun r=>(((List.range (n+1)).filter fun i=>!decide (i∈r)).map fun i=>r++[i]).filter fun r=>!decide (n∈r))=(l.filter fun r=>!decide (n∈r)).flatMap fun r=>((List.range n).filter fun i=>!decide (i∈r)).map fun i=>r++[i]:=by
   intro l
   induction l with
   | nil=>rfl
   | cons r l ihl=>
    rw[List.flatMap_cons,ihl]
    by_cases hn:n∈r
    ·rw[List.filter_cons_of_neg (by simp[hn])]
     have:((((List.range (n+1)).filter fun i=>!decide (i∈r)).map fun i=>r++[i]).filter fun r=>!decide (n∈r))=[]:=by
      rw[List.filter_eq_nil_iff]
      intro q hq
      obtain⟨i,_,rfl⟩:=List.mem_map.mp hq
      simp[hn]
     rw[this,List.nil_append]
    ·rw[List.filter_cons_of_pos (by simp[hn]),List.flatMap_cons]
     congr 1
     rw[List.range_succ,List.filter_append,List.map_append,List.filter_append]
     have e1:(((List.range n).filter fun i=>!decide (i∈r)).map fun i=>r++[i]).filter (fun r=>!decide (n∈r))=((List.range n).filter fun i=>!decide (i∈r)).map fun i=>r++[i]:=by
      rw[List.filter_eq_self]
      intro q hq
      obtain⟨i,hi,rfl⟩:=List.mem_map.mp hq
      have:=List.mem_range.mp (List.mem_filter.mp hi).1
      simp only[List.mem_append,List.mem_singleton,Bool.not_eq_true',decide_eq_false_iff_not,not_or]
      exact⟨hn,by omega⟩
     have e2:((([n].filter fun i=>!decide (i∈r)).map fun i=>r++[i]).filter fun r=>!decide (n∈r))=[]:=by
      rw[List.filter_eq_nil_iff]
      intro q hq
      obtain⟨i,hi,rfl⟩:=List.mem_map.mp hq
      rw[List.mem_singleton.mp (List.mem_filter.mp hi).1]
      simp
     rw[e1,e2,List.append_nil]
  exact hstep _
noncomputable def few(t:List Nat→Bool)(n:Nat):Option (List Nat):=(List.range (n+1)).findSome? fun k=>(perms n k).find? t
theorem Bo{f:Nat→Option (List Nat)}:∀{m:Nat} {r:List Nat},(List.range m).findSome? f=some r→∃k,k<m∧f k=some r∧∀j,j<k→f j=none:=by
 intro m
 induction m with
 | zero=>intro r h;cases h
 | succ m ih=>
  intro r h
  rw[List.range_succ,List.findSome?_append] at h
  cases e:(List.range m).findSome? f with
  | some q=>
   rw[e] at h
   cases h
   obtain⟨k,h1,h2,h3⟩:=ih e
   exact⟨k,by omega,h2,h3⟩
  | none=>
   rw[e] at h
   have hm:f m=some r:=by simpa using h
   refine⟨m,by omega,hm,fun j hj=>?_⟩
   exact List.findSome?_eq_none_iff.mp e j (List.mem_range.mpr hj)
theorem kI{t:List Nat→Bool}{n:Nat}{r:List Nat}(h:few t n=some r):(perms n r.length).find? t=some r∧r∈perms n r.length∧t r=true∧r.length≤n∧∀k q,q∈perms n k→t q=true→r.length≤k:=by
 obtain⟨k,h1,h2,h3⟩:=Bo h
 have hm:=List.mem_of_find?_eq_some h2
 have ht:=List.find?_some h2
 have hk:r.length=k:=((cj n k r).mp hm).1
 subst hk
 refine⟨h2,hm,ht,by omega,fun j q hq hj=>?_⟩
 apply Nat.le_of_not_lt
 intro hl
 have:=List.find?_eq_none.mp (h3 j hl) q hq
 exact this hj
theorem Uk{t:List Nat→Bool}{n:Nat}(h:few t n=none)(k:Nat)(q:List Nat)(hq:q∈perms n k):t q=false:=by
 have hk:=rY hq
 have:=List.findSome?_eq_none_iff.mp h k (List.mem_range.mpr (by omega))
 have:=List.find?_eq_none.mp this q hq
 simpa using this
theorem Bq{t:List Nat→Bool}{n k:Nat}{q:List Nat}(hq:q∈perms n k)(ht:t q=true):∃r,few t n=some r∧r.length≤k:=by
 cases e:few t n with
 | none=>rw[Uk e k q hq] at ht;cases ht
 | some r=>exact⟨r,rfl,(kI e).2.2.2.2 k q hq ht⟩
theorem tR{t p:List Nat→Bool}:∀{l:List (List Nat)} {r:List Nat},l.find? t=some r→p r=true→(l.filter p).find? t=some r
 | [],r,h,_=>by cases h
 | a::l,r,h,hp=>by
  rw[List.find?_cons] at h
  cases ha:t a with
  | true=>
   rw[ha] at h
   cases h
   rw[List.filter_cons_of_pos hp,List.find?_cons,ha]
  | false=>
   rw[ha] at h
   by_cases hpa:p a=true
   ·rw[List.filter_cons_of_pos hpa,List.find?_cons,ha]
    exact tR h hp
   ·rw[List.filter_cons_of_neg hpa]
    exact tR h hp
noncomputable def pick(Rs:List D)(r:List Nat):List D:=r.map fun i=>Rs.getD i .non
noncomputable def tells(s:D)(Rs:List D)(B:List (List Nat×List Nat))(r:List Nat):Bool:=B.all fun p=>fin s (pick Rs r) p.1 == p.2
theorem Ds{Rs:List D}{M:D}{r:List Nat}(h:∀i∈r,i<Rs.length):pick (Rs++[M]) r=pick Rs r:=by
 unfold pick
 apply List.map_congr_left
 intro i hi
 have:=h i hi
 simp[List.getD_eq_getElem?_getD,List.getElem?_append_left this]
theorem Pa(Rs:List D)(r q:List Nat)(h:∀i∈q,i<r.length):pick (pick Rs r) q=pick Rs (q.map fun i=>r.getD i 0):=by
 unfold pick
 rw[List.map_map]
 apply List.map_congr_left
 intro i hi
 have:=h i hi
 simp[this]
theorem Kq(L:List D):pick L (List.range L.length)=L:=by
 unfold pick
 apply List.ext_getElem
 ·simp
 ·intro i h1 h2
  simp[h2]
theorem Uz{n:Nat}{r q:List Nat}(hr:r∈perms n r.length)(hq:q∈perms r.length q.length):(q.map fun i=>r.getD i 0)∈perms n q.length:=by
 obtain⟨_,r2,r3⟩:=(cj _ _ _).mp hr
 obtain⟨_,q2,q3⟩:=(cj _ _ _).mp hq
 refine(cj _ _ _).mpr ⟨by simp,?_,?_⟩
 ·unfold List.Nodup
  rw[List.pairwise_map]
  refine List.Pairwise.imp_of_mem ?_ q2
  intro a b ha hb hab e
  have h1:=q3 a ha
  have h2:=q3 b hb
  rw[List.getD_eq_getElem?_getD,List.getD_eq_getElem?_getD,List.getElem?_eq_getElem h1,List.getElem?_eq_getElem h2] at e
  exact hab ((List.getElem_inj r2).mp e)
 ·intro i hi
  obtain⟨j,hj,rfl⟩:=List.mem_map.mp hi
  have h1:=q3 j hj
  rw[List.getD_eq_getElem?_getD,List.getElem?_eq_getElem h1]
  exact r3 _ (List.getElem_mem h1)
theorem Dq(k:Nat):List.range k∈perms k k:=(cj _ _ _).mpr ⟨by simp,List.nodup_range,fun i hi=>List.mem_range.mp hi⟩
theorem Uj{s:D}{Rs:List D}{B:List (List Nat×List Nat)}{r:List Nat}(h:few (tells s Rs B) Rs.length=some r):∃q,few (tells s (pick Rs r) B) r.length=some q∧q.length=r.length:=by
 obtain⟨_,h2,h3,h4,h5⟩:=kI h
 have hl:(pick Rs r).length=r.length:=by unfold pick;simp
 have ht:tells s (pick Rs r) B (List.range r.length)=true:=by
  unfold tells
  rw[←hl,Kq]
  exact h3
 obtain⟨q,e1,e2⟩:=Bq (Dq r.length) ht
 refine⟨q,e1,Nat.le_antisymm e2 ?_⟩
 obtain⟨_,g2,g3,g4,_⟩:=kI e1
 refine h5 q.length (q.map fun i=>r.getD i 0) (Uz h2 g2) ?_
 have hi:=((cj _ _ _).mp g2).2.2
 unfold tells at g3 ⊢
 rw[←Pa Rs r q hi]
 exact g3
theorem Ir{s:D}{Rs:List D}{M:D}{B:List (List Nat×List Nat)}{r:List Nat}(h:few (tells s Rs B) Rs.length=some r):∃g,few (tells s (Rs++[M]) B) (Rs.length+1)=some g∧g.length≤r.length:=by
 obtain⟨_,h2,h3,h4,h5⟩:=kI h
 obtain⟨k1,k2,k3⟩:=(cj _ _ _).mp h2
 refine Bq (k:=r.length) (q:=r) ((cj _ _ _).mpr ⟨rfl,k2,fun i hi=>by have:=k3 i hi;omega⟩) ?_
 unfold tells at h3 ⊢
 rw[Ds k3]
 exact h3
theorem Uo{s:D}{Rs:List D}{M:D}{B:List (List Nat×List Nat)}{g:List Nat}(h:few (tells s (Rs++[M]) B) (Rs.length+1)=some g)(hn:Rs.length ∉ g):few (tells s Rs B) Rs.length=some g:=by
 obtain⟨h1,h2,h3,h4,h5⟩:=kI h
 have hg:g∈perms Rs.length g.length:=by
  rw[←xZ]
  exact List.mem_filter.mpr ⟨h2,by simpa using hn⟩
 have hi:=((cj _ _ _).mp hg).2.2
 have same:∀q,q∈perms Rs.length q.length→tells s (Rs++[M]) B q=tells s Rs B q:=fun q hq=>by
  unfold tells
  rw[Ds ((cj _ _ _).mp hq).2.2]
 have ht:tells s Rs B g=true:=by rw[←same g hg];exact h3
 obtain⟨r,e1,e2⟩:=Bq hg ht
 obtain⟨r1,r2,r3,r4,r5⟩:=kI e1
 have hl:r.length=g.length:=by
  refine Nat.le_antisymm e2 ?_
  obtain⟨g',f1,f2⟩:=Ir (M:=M) e1
  rw[h] at f1
  cases f1
  exact f2
 have hf:=tR (p:=fun r=>!decide (Rs.length∈r)) h1 (by simpa using hn)
 rw[xZ,←hl] at hf
 have hf2:(perms Rs.length r.length).find? (tells s (Rs++[M]) B)=(perms Rs.length r.length).find? (tells s Rs B):=by
  have go:∀l:List (List Nat),(∀q∈l,q∈perms Rs.length q.length)→l.find? (tells s (Rs++[M]) B)=l.find? (tells s Rs B):=by
   intro l
   induction l with
   | nil=>intro _;rfl
   | cons a l ih=>
    intro hl
    rw[List.find?_cons,List.find?_cons,same a (hl a (by simp)),ih fun q hq=>hl q (by simp[hq])]
  exact go _ fun q hq=>by rw[((cj _ _ _).mp hq).1];exact hq
 rw[hf2,r1] at hf
 rw[e1,hf]
theorem Uh{s:D}{Rs:List D}{b:List Nat×List Nat}{B:List (List Nat×List Nat)}{r:List Nat}(h:few (tells s Rs (b::B)) Rs.length=some r):∃q,few (tells s Rs B) Rs.length=some q∧q.length≤r.length:=by
 obtain⟨_,h2,h3,_⟩:=kI h
 refine Bq h2 ?_
 unfold tells at h3
 rw[List.all_cons,Bool.and_eq_true] at h3
 exact h3.2
end yR
section
open Ev PySem L2
local macro_rules | `(tactic| ac_rfl) => `(tactic| simp (maxSteps := 2000000) (disch := (first | ((try simp only [List.length_cons, List.length_nil, List.length_append, List.length_map, List.length_range, sizeLine, Nat.reducePow]) <;> omega) | fail)) only [↓sNx, ↓sRt, ↓bR, ↓bO, ↓lR, ↓lO, ↓iT, ↓iF, ↓rS, ↓bB, ↓oS, ↓nS, ↓obS, ↓kNx, ↓vS, ↓wS, ↓lS, ↓eS, ↓pS, ↓cS, ↓ahV, ↓ah4, Mu, zR, zO, XR, Yd, lS, VP, VM, XJ, Ge, XM, XH, Ik, air, ais, acR, acX, Xy, sNx, sRt, sBk, sCt, aaw, adR, iT, iF, bR, bO, lR, lO, VJ, VN, Ew, Q7, Q6, aiP, Yc, Ut, Yg, adM, Uu, XQ, adO, Uv, rS, Yh, adP, X8, aiQ, bB, Uw, X7, Uq, adS, oS, Ye, Qk, obS, aiN, nS, Yb, adN, X3, XX, X6, Us, VL, T4, amK, T5, gB, Xv, adQ, X5, aih, aii, aie, aif, eS, vH, adK, vS, kNx, kRt, kBk, kCt, aho, ahn, wS, Up, aaD, dRt, dNx, envOf, DR, aiB, aiA, at0, at1, at2, at3, adb, ac5, ac4, ac6, ac7, T7, T6, Xz, XD, XC, Ua, aiu, aiG, aiv, ac8, aiz, aix, aiD, aiF, aiw, acQ, aiC, gt0, gtS, st0, stS, cdT, cdF, Option.map_some, Option.bind_some, List.map_cons, List.map_nil, List.replicate_succ, List.replicate_zero, Nat.reduceAdd, Nat.reduceSub, List.length_cons, List.length_nil, List.cons_append, List.nil_append, Bool.not_true, Bool.not_false, nc0, nc1, nc2, nc3, nc4, nc5, nc6, nc7, nc8, Int.reduceBEq, Nat.reduceBEq, Int.reduceLE, Int.reduceLT, Nat.reduceLeDiff, Nat.reduceLT, Int.reduceAdd, Int.reduceSub, decide_true, decide_false, beq_self_eq_true, V5, xq, amt, amu, aaE, nRt, J6, pS, cS, ahV, ah4, Q8, acU, acT, acV, acW, X4, aci, Qj, abN, Qh, acZ, aga, agb, Vj, Xm, Xl, acB, acA, aib, amn, Xk, Tv, Tu, Xj, acz, Tt, Xi, acx, Xh, acv, acs, ah9, Tq, Xg, acr, acp, aco, acn, acj, ah8, Xe, Xd, Xc, acg, La, ace, acb, aca, ab8, ab6, ah6, Xb, Xa, ab5, Za, ab2, ab0, abY, ah3, abX, W9, W8, abW, Td, ah0, amk, ahZ, W7, abU, abS, abQ, ahW, abP, ahT, abO, Y6, *] <;> try rfl)
namespace yR
open Ev PySem L2
open Ci (cF fin iI)
open uF (XS sides)
theorem Lx:dR=Ci.dR:=rfl
theorem W0:mZ=Ci.mZ:=rfl
theorem HH:jD=Ci.jD:=rfl
noncomputable abbrev rows(l:List (List Nat)):List D:=l.map aM
theorem Dt(n:Nat)(hn:n≤5):∀k,(perms n k).length≤5^k
 | 0=>by simp[perms]
 | k+1=>by
  unfold perms
  rw[List.length_flatMap]
  have ih:=Dt n hn k
  have:∀l:List (List Nat),(l.map fun r=>(((List.range n).filter fun i=>!decide (i∈r)).map fun i=>r++[i]).length).sum≤5*l.length:=by
   intro l
   induction l with
   | nil=>simp
   | cons r l ih=>
    rw[List.map_cons,List.sum_cons,List.length_cons]
    have:(((List.range n).filter fun i=>!decide (i∈r)).map fun i=>r++[i]).length≤5:=by
     rw[List.length_map]
     refine Nat.le_trans (List.length_filter_le _ _) ?_
     rw[List.length_range];exact hn
    omega
  have:=this (perms n k)
  rw[Nat.pow_succ]
  omega
theorem qx(n k:Nat)(hn:n≤5):(perms n k).length≤3125:=by
 by_cases h:k≤5
 ·exact Nat.le_trans (Dt n hn k) (Nat.le_trans (Nat.pow_le_pow_right (by decide) h) (by decide))
 ·rw[An (by omega)];simp
theorem Fl(r:List Nat)(i:Nat)(hr:r.length≤100):bT (aM r) (.tup [.int (i:Int)])=some (aM (r++[i])):=by
 unfold aM
 rw[List.map_append]
 exact Ge (Nat.le_trans (by rw[List.length_map];show r.length+1≤101;omega) (by decide))
theorem U9(n k:Nat)(hn:n≤5)(v:Option (Bool×D))(o:Bool):∃w1 w2,jC [(some (false,.int (n:Int))),(some (o,.lst (rows (perms n k)))),v] = .ok (.lst (rows (perms n (k+1)))) [(some (false,.int (n:Int))),(some (false,.lst (rows (perms n k)))),v]∧w1=w2∧w2=v:=by
 refine⟨v,v,?_,rfl,rfl⟩
 unfold jC
 have e:rows (perms n (k+1))=(perms n k).flatMap fun r=>((List.range n).filter fun i=>!decide (i∈r)).map fun i=>aM (r++[i]):=by
  show((perms n k).flatMap fun r=>((List.range n).filter fun i=>!decide (i∈r)).map fun i=>r++[i]).map aM=_
  rw[List.map_flatMap]
  congr 1
  funext r
  rw[List.map_map]
  rfl
 rw[e]
 have hz:((perms n k).flatMap fun r=>((List.range n).filter fun i=>!decide (i∈r)).map fun i=>aM (r++[i])).length≤sizeLine:=by
  rw[←e,List.length_map]
  exact Nat.le_trans (qx n (k+1) hn) (by decide)
 refine Nr (aG:=[(some (false,.int (n:Int))),(some (false,.lst (rows (perms n k)))),v]) 1 1 (perms n k) aM (fun r=>[(some (false,aM r))]) (fun _=>List.range n) (fun _ (i:Nat)=>.int (i:Int)) (fun _ (i:Nat)=>[(some (false,.int (i:Int)))]) (fun r i=>!decide (i∈r)) (fun r i=>aM (r++[i])) ?_ rfl rfl (fun r hr=>⟨rfl,fun u v hu hv=>?_,fun v hv=>?_,fun i hi=>⟨rfl,fun v hv=>?_,?_,fun _=>?_⟩⟩) hz
 ·cases o<;>rfl
 ·match u,hu with
  | [_],_=>rfl
 ·match v,hv with
  | [_],_=>
   have:=Fo (n:=n) (by omega)
   ac_rfl
 ·match v,hv with
  | [_],_=>rfl
 ·have:=oV i r
  have er:aM r = .tup (r.map fun(k:Nat)=>D.int (k:Int)):=rfl
  rw[er]
  ac_rfl
 ·have hl:=((cj n k r).mp hr).1
  have hk:=rY hr
  have:=Fl r i (by omega)
  generalize aM r=R at *
  generalize aM (r++[i])=R2 at *
  clear hr hl hk hz e
  ac_rfl
theorem all_orderings(n:Nat)(hn:n≤5):ig [.int (n:Int)]=some (.lst (rows (perms n n))):=by
 have go:∀(m k:Nat) (o:Bool) (v:Option (Bool×D)),∃o' v',j4 (ak 2) eV ((List.range' k m).map fun(i:Nat)=>D.int (i:Int)) [(some (false,.int (n:Int))),(some (o,.lst (rows (perms n k)))),v] = .nx [(some (false,.int (n:Int))),(some (o',.lst (rows (perms n (k+m))))),v']:=by
  intro m
  induction m with
  | zero=>intro k o v;exact⟨o,v,rfl⟩
  | succ m ih=>
   intro k o v
   obtain⟨_,_,h,_⟩:=U9 n k hn (some (false,.int (k:Int))) o
   obtain⟨o',v',ih⟩:=ih (k+1) true (some (false,.int (k:Int)))
   refine⟨o',v',?_⟩
   rw[List.range'_succ,List.map_cons,vH]
   have hb:eV [(some (false,.int (n:Int))),(some (o,.lst (rows (perms n k)))),(some (false,.int (k:Int)))] = .nx [(some (false,.int (n:Int))),(some (true,.lst (rows (perms n (k+1))))),(some (false,.int (k:Int)))]:=by
    unfold eV
    rw[Ew,h,bO]
    rfl
   show oR (eV [(some (false,.int (n:Int))),(some (o,.lst (rows (perms n k)))),(some (false,.int (k:Int)))]) _=_
   rw[hb,kNx,ih,show k+1+m=k+(m+1) by omega]
 obtain⟨o',v',h⟩:=go n 0 false none
 rw[Nat.zero_add,←List.range_eq_range'] at h
 have hr:=Fo (n:=n) (by omega)
 have e0:rows (perms n 0)=[.tup []]:=rfl
 rw[e0] at h
 unfold ig rK
 generalize rows (perms n n)=RR at *
 cases o'<;>ac_rfl
theorem MT{Rs:List D}{i:Nat}(h:i<Rs.length):cB (.tup Rs) (.int (i:Int))=some (Rs.getD i .non):=by
 rw[DR,atN,List.getD_eq_getElem?_getD,List.getElem?_eq_getElem h]
 rfl
theorem laid(s:D)(Rs:List D)(r:List Nat)(h:∀i∈r,i<Rs.length)(hr:r.length≤100):Br [.tup [s,.tup Rs],aM r]=some (.tup [s,.tup (pick Rs r)]):=by
 have hl:yh [(some (false,.tup [s,.tup Rs])),(some (false,aM r)),(some (false,s)),(some (false,.tup Rs))] = .ok (.lst (pick Rs r)) [(some (false,.tup [s,.tup Rs])),(some (false,aM r)),(some (false,s)),(some (false,.tup Rs))]:=by
  unfold yh pick
  refine yF r (fun(i:Nat)=>.int (i:Int)) _ (by rfl) rfl rfl (fun i hi=>?_) (Nat.le_trans hr (by decide))
  have:=MT (h i hi)
  generalize Rs.getD i .non=Z at *
  generalize aM r=Q
  clear hi h
  rw[DR] at this
  ac_rfl
 unfold Br U7
 generalize aM r=Q at *
 generalize pick Rs r=Z at *
 clear h
 ac_rfl
theorem HJ(s:D)(Rs:List D)(r:List Nat)(h:∀i∈r,i<Rs.length)(hr:r.length≤100):gb [.tup [s,.tup Rs],aM r]=some (.tup [s,.tup (pick Rs r)]):=by
 have hl:o9 [(some (false,.tup [s,.tup Rs])),(some (false,aM r))] = .ok (.lst (pick Rs r)) [(some (false,.tup [s,.tup Rs])),(some (false,aM r))]:=by
  unfold o9 pick
  refine yF r (fun(i:Nat)=>.int (i:Int)) _ (by rfl) rfl rfl (fun i hi=>?_) (Nat.le_trans hr (by decide))
  have:=MT (h i hi)
  generalize Rs.getD i .non=Z at *
  generalize aM r=Q
  clear hi h
  rw[DR] at this
  ac_rfl
 unfold gb BV
 generalize aM r=Q at *
 generalize pick Rs r=Z at *
 clear h
 ac_rfl
open Ev PySem L2
open Ci (cF fin iI)
open uF (XS sides)
noncomputable abbrev Pr:=List Nat×List Nat
noncomputable def encP(p:Pr):D:=.tup [.str p.1,.str p.2]
noncomputable def bk(B:List Pr):D:=.tup (B.map encP)
structure Bk(x:List Nat)(B:List Pr):Prop where
 few:B.length≤10
 rG:∀p∈B,(∀c∈p.1,c∈x)∧p.1.length≤7∧p.2.length≤100
theorem Nj(l:List D):xD (.lst l) (.lst [])=some (.bl (!l.isEmpty)):=by cases l<;>rfl
structure Ok(x:List Nat)(s:D)(Rs:List D):Prop where
 hx:x∈XS
 hs:s∈sides
 hR:∀R∈Rs,iI x R
 h4:Rs.length≤5
theorem Ok.pick{x:List Nat}{s:D}{Rs:List D}(h:Ok x s Rs){r:List Nat}(hr:∀i∈r,i<Rs.length)(hl:r.length≤5):Ok x s (pick Rs r):=by
 refine⟨h.hx,h.hs,fun R hR=>?_,by unfold yR.pick;rw[List.length_map];exact hl⟩
 unfold yR.pick at hR
 obtain⟨i,hi,rfl⟩:=List.mem_map.mp hR
 have:=hr i hi
 rw[List.getD_eq_getElem?_getD,List.getElem?_eq_getElem this]
 exact h.hR _ (List.getElem_mem this)
theorem Ok.bound{x:List Nat}{s:D}{Rs:List D}(h:Ok x s Rs){w:List Nat}(hw:w.length≤7):(w.length+1)*2^Rs.length≤301:=by
 have:2^Rs.length≤32:=Nat.le_trans (Nat.pow_le_pow_right (by decide) h.h4) (by decide)
 exact Nat.le_trans (Nat.mul_le_mul (show w.length+1≤8 by omega) this) (by decide)
section
variable{x:List Nat}{s:D}{Rs:List D}(h:Ok x s Rs){w:List Nat}(hw:∀c∈w,c∈x)(hl:w.length≤7)
include h hw hl
theorem made:mZ [.tup [s,.tup Rs],.str w]=some (.str (fin s Rs w)):=by
 rw[W0]
 exact Ci.made h.hx h.hs h.hR (by have:=h.h4;omega) hw (h.bound hl)
theorem S5:lK [.tup [s,.tup Rs],.str w]=some (.str (fin s Rs w)):=by
 have h1:=Ci.SQ h.hx h.hs h.hR (by have:=h.h4;omega) hw (h.bound hl)
 rw[←HH] at h1
 have h2:=Ci.HN (s:=s) Rs w
 unfold lK BR
 rw[DR] at h2
 generalize Ci.rG s w Rs=W at *
 generalize fin s Rs w=Z at *
 clear h hw hl
 ac_rfl
theorem Bp:(∀c∈fin s Rs w,c∈x)∧(fin s Rs w).length≤300:=Ci.Gg h.hx h.hs Rs w h.hR hw (h.bound hl)
end
noncomputable def dN(t:List Bool):D:=.lst (t.map .bl)
noncomputable def tell(s:D)(Rs:List D)(B:List Pr):List Bool:=B.map fun p=>fin s Rs p.1 == p.2
theorem pairs_told{x:List Nat}{s:D}{Rs:List D}(h:Ok x s Rs){B:List Pr}(hB:Bk x B):kJ [.tup [s,.tup Rs],bk B]=some (dN (tell s Rs B)):=by
 generalize hO:D.tup [s,.tup Rs]=O
 have hl:mQ [(some (false,O)),(some (false,bk B))] = .ok (dN (tell s Rs B)) [(some (false,O)),(some (false,bk B))]:=by
  unfold mQ dN tell
  rw[List.map_map]
  have:=vK (lo:=2) (n:=4) (it:=fG (aq 1)) (g:=cV 2 (aQ (ak 2) (aQ (ak 3) (dh)))) (c:=cD) (e:=aK mJ (az mZ (aa (aq 0) (aa (aq 2) (ao)))) (aY 3)) (env:=[(some (false,O)),(some (false,bk B))]) B encP (fun p=>[(some (false,.str p.1)),(some (false,.str p.2))]) (fun _=>true) (fun p=>.bl (fin s Rs p.1 == p.2)) (by rfl) rfl (fun p hp=>by
   refine⟨rfl,fun vs hv=>?_,rfl,fun _=>?_⟩
   ·match vs,hv with
    | [_,_],_=>rfl
   ·obtain⟨w1,w2,w3⟩:=hB.rG p hp
    have hm:=made h w1 w2
    rw[hO] at hm
    clear hO hp h
    ac_rfl) (Nat.le_trans hB.few (by decide))
  rw[List.filter_eq_self.mpr (fun _ _=>rfl)] at this
  exact this
 unfold kJ xA
 generalize bk B=BB at *
 generalize dN (tell s Rs B)=TT at *
 clear h hB
 ac_rfl
noncomputable def isq(T:List (List Bool))(ns:List Nat):Bool:=!T.any fun t=>ns.all fun i=>t.getD i false
noncomputable def fM(ns:List Nat):List D:=ns.map fun(k:Nat)=>D.int (k:Int)
theorem is_quarrel(T:List (List Bool))(ns:List Nat)(h:∀t∈T,∀i∈ns,i<t.length)(hT:T.length≤1000)(hn:ns.length≤1000):kO [.lst (T.map dN),.lst (fM ns)]=some (.bl (isq T ns)):=by
 have h2:mR [(some (false,.lst (T.map dN))),(some (false,.lst (fM ns)))] = .ok (.lst (T.map fun t=>.bl (ns.all fun i=>t.getD i false))) [(some (false,.lst (T.map dN))),(some (false,.lst (fM ns)))]:=by
  unfold mR
  refine yF T dN _ (by rfl) rfl rfl (fun t ht=>?_) (Nat.le_trans hT (by decide))
  have h1:mU [(some (false,.lst (T.map dN))),(some (false,.lst (fM ns))),(some (false,dN t))] = .ok (.lst (ns.map fun i=>.bl (t.getD i false))) [(some (false,.lst (T.map dN))),(some (false,.lst (fM ns))),(some (false,dN t))]:=by
   unfold mU
   refine yF ns (fun(i:Nat)=>.int (i:Int)) _ (by rfl) rfl rfl (fun i hi=>?_) (Nat.le_trans hn (by decide))
   have hi:=h t ht i hi
   have g:pN (t.map D.bl) (i:Int)=some (.bl (t.getD i false)):=by
    rw[atN,List.getElem?_map,List.getD_eq_getElem?_getD,List.getElem?_eq_getElem hi]
    rfl
   have e:dN t = .lst (t.map .bl):=rfl
   rw[e]
   generalize T.map dN=TE
   generalize fM ns=NS
   generalize t.getD i false=b at *
   generalize t.map D.bl=tb at *
   clear h ht e
   ac_rfl
  have g2:=Ub (fun i=>t.getD i false) ns
  generalize List.map (fun i=>D.bl (t.getD i false)) ns=L1 at *
  generalize(ns.all fun i=>t.getD i false)=b at *
  generalize dN t=te at *
  generalize T.map dN=TE at *
  generalize fM ns=NS at *
  clear h ht
  ac_rfl
 have g3:=aiI (fun t:List Bool=>ns.all fun i=>t.getD i false) T
 unfold kO xB isq
 generalize List.map (fun t=>D.bl (ns.all fun i=>t.getD i false)) T=L1 at *
 generalize(T.any fun t=>ns.all fun i=>t.getD i false)=b at *
 generalize T.map dN=TE at *
 generalize fM ns=NS at *
 clear h hT
 ac_rfl
noncomputable def uG(T:List (List Bool))(ns:List Nat)(i:Nat):List Nat:=if isq T (ns.filter fun j=>!decide (j=i))=true then ns.filter fun j=>!decide (j=i) else ns
theorem O3(T:List (List Bool))(ns:List Nat)(i:Nat):∀j∈uG T ns i,j∈ns:=by
 intro j hj
 unfold uG at hj
 split at hj
 ·exact(List.mem_filter.mp hj).1
 ·exact hj
theorem O4(T:List (List Bool))(ns:List Nat)(i:Nat):(uG T ns i).length≤ns.length:=by
 unfold uG
 split
 ·exact List.length_filter_le _ _
 ·exact Nat.le_refl _
noncomputable def Wc(T:List (List Bool))(m:Nat):List Nat:=(List.range m).foldl (uG T) (List.range m)
theorem quarrel(T:List (List Bool))(m:Nat)(h:∀t∈T,t.length=m)(hT:T.length≤1000)(hm:m≤100):nM [.lst (T.map dN),.int (m:Int)]=some (.tup (fM (Wc T m))):=by
 have go:∀(is:List Nat) (ns:List Nat) (v3 v4:Option (Bool×D)),ns.length≤100→(∀j∈ns,j<m)→∃v3' v4',j4 (ak 3) kE (is.map fun(i:Nat)=>D.int (i:Int)) [(some (false,.lst (T.map dN))),(some (false,.int (m:Int))),(some (false,.lst (fM ns))),v3,v4] = .nx [(some (false,.lst (T.map dN))),(some (false,.int (m:Int))),(some (false,.lst (fM (is.foldl (uG T) ns)))),v3',v4']:=by
  intro is
  induction is with
  | nil=>intro ns v3 v4 _ _;exact⟨v3,v4,rfl⟩
  | cons i is ih=>
   intro ns v3 v4 hl hj
   have c1:qF [(some (false,.lst (T.map dN))),(some (false,.int (m:Int))),(some (false,.lst (fM ns))),(some (false,.int (i:Int))),v4] = .ok (.lst (fM (ns.filter fun j=>!decide (j=i)))) [(some (false,.lst (T.map dN))),(some (false,.int (m:Int))),(some (false,.lst (fM ns))),(some (false,.int (i:Int))),v4]:=by
    unfold qF
    refine Nq ns (fun(j:Nat)=>.int (j:Int)) (fun j=>!decide (j=i)) (fun(j:Nat)=>.int (j:Int)) (by rfl) rfl rfl (fun j _=>?_) (fun j _ _=>by rfl) (Nat.le_trans hl (by decide))
    have e:((j:Int) == (i:Int))=decide (j=i):=by
     rw[Bool.eq_iff_iff]
     simp only[beq_iff_eq,decide_eq_true_eq]
     omega
    generalize T.map dN=TE
    generalize fM ns=NS
    clear ih hj h
    ac_rfl
   have q:=is_quarrel T (ns.filter fun j=>!decide (j=i)) (fun t ht j hj2=>by rw[h t ht];exact hj j (List.mem_filter.mp hj2).1) hT (Nat.le_trans (List.length_filter_le _ _) (by omega))
   have hb:∃w4,kE [(some (false,.lst (T.map dN))),(some (false,.int (m:Int))),(some (false,.lst (fM ns))),(some (false,.int (i:Int))),v4] = .nx [(some (false,.lst (T.map dN))),(some (false,.int (m:Int))),(some (false,.lst (fM (uG T ns i)))),(some (false,.int (i:Int))),w4]:=by
    refine⟨(some (false,.lst (fM (ns.filter fun j=>!decide (j=i))))),?_⟩
    unfold kE uG
    generalize(ns.filter fun j=>!decide (j=i))=OT at *
    generalize isq T OT=b at *
    generalize T.map dN=TE at *
    clear ih hj h
    cases b with
    | true=>
     rw[if_pos rfl]
     generalize fM ns=NS at *
     generalize fM OT=OO at *
     ac_rfl
    | false=>
     rw[if_neg Bool.false_ne_true]
     generalize fM ns=NS at *
     generalize fM OT=OO at *
     ac_rfl
   obtain⟨w4,hb⟩:=hb
   obtain⟨v3',v4',ih⟩:=ih (uG T ns i) (some (false,.int (i:Int))) w4 (Nat.le_trans (O4 T ns i) hl) (fun j hj2=>hj j (O3 T ns i j hj2))
   refine⟨v3',v4',?_⟩
   rw[List.map_cons,vH]
   show oR (kE [(some (false,.lst (T.map dN))),(some (false,.int (m:Int))),(some (false,.lst (fM ns))),(some (false,.int (i:Int))),v4]) _=_
   rw[hb,kNx,ih]
   rfl
 obtain⟨v3,v4,f1⟩:=go (List.range m) (List.range m) none none (by rw[List.length_range];exact hm) (fun j hj=>List.mem_range.mp hj)
 have hr:=Fo (n:=m) (by omega)
 have hg:DQ (.int (m:Int))=some (.lst (fM (List.range m))):=XF (Nat.le_trans hm (by decide))
 unfold nM Eh Wc
 generalize fM ((List.range m).foldl (uG T) (List.range m))=Z at *
 generalize fM (List.range m)=Y at *
 generalize T.map dN=TE at *
 clear go h
 ac_rfl
open Ev PySem L2
open Ci (cF fin iI)
open uF (XS sides)
theorem Ug(s:D)(Rs:List D)(r:List Nat)(i:Nat)(w:List Nat):fin s (pick Rs (r++[i])) w=cF s (Rs.getD i .non) (fin s (pick Rs r) w):=by
 unfold fin pick
 rw[List.map_append,List.foldl_append]
 rfl
theorem Ql(Rs:List D):Bx Rs=(List.range Rs.length).map fun(i:Nat)=>D.tup [.int (i:Int),Rs.getD i .non]:=by
 unfold Bx
 apply List.ext_getElem
 ·simp
 ·intro i h1 h2
  have h3:i<Rs.length:=by simpa using h1
  simp[h3]
section
variable{x:List Nat}{s:D}{Rs:List D}(h:Ok x s Rs){B:List Pr}(hB:Bk x B)
noncomputable def W(s:D)(Rs:List D)(B:List Pr)(r:List Nat):List D:=B.map fun p=>.str (fin s (pick Rs r) p.1)
noncomputable def zq(s:D)(Rs:List D)(B:List Pr)(r:List Nat):D:=.tup [aM r,.lst (W s Rs B r)]
include h hB
theorem Ui(k:Nat)(a3 a5 a6:Option (Bool×D)) :
  sS [(some (false,s)),(some (false,.tup Rs)),(some (false,bk B)),a3,(some (false,.lst ((perms Rs.length k).map (zq s Rs B)))),a5,a6] = .ok (.lst ((perms Rs.length (k+1)).map (zq s Rs B))) [(some (false,s)),(some (false,.tup Rs)),(some (false,bk B)),a3,(some (false,.lst ((perms Rs.length k).map (zq s Rs B)))),a5,a6]:=by
 unfold sS
 have e:(perms Rs.length (k+1)).map (zq s Rs B)=(perms Rs.length k).flatMap fun r=>((List.range Rs.length).filter fun i=>!decide (i∈r)).map fun i=>zq s Rs B (r++[i]):=by
  show((perms Rs.length k).flatMap fun r=>((List.range Rs.length).filter fun i=>!decide (i∈r)).map fun i=>r++[i]).map _=_
  rw[List.map_flatMap]
  congr 1
  funext r
  rw[List.map_map]
  rfl
 rw[e]
 have h4:=h.h4
 have hz:((perms Rs.length k).flatMap fun r=>((List.range Rs.length).filter fun i=>!decide (i∈r)).map fun i=>zq s Rs B (r++[i])).length≤sizeLine:=by
  rw[←e,List.length_map]
  exact Nat.le_trans (qx Rs.length (k+1) (by omega)) (by decide)
 refine Nr 2 2 (perms Rs.length k) (zq s Rs B) (fun r=>[(some (false,aM r)),(some (false,.lst (W s Rs B r)))]) (fun _=>List.range Rs.length) (fun _ (i:Nat)=>.tup [.int (i:Int),Rs.getD i .non]) (fun _ (i:Nat)=>[(some (false,.int (i:Int))),(some (false,Rs.getD i .non))]) (fun r i=>!decide (i∈r)) (fun r i=>zq s Rs B (r++[i])) (by rfl) rfl rfl (fun r hr=>⟨rfl,fun u v hu hv=>?_,fun v hv=>?_,fun i hi=>⟨rfl,fun v hv=>?_,?_,fun hp=>?_⟩⟩) hz
 ·match u,hu,v,hv with
  | [_,_],_,[_,_],_=>rfl
 ·match v,hv with
  | [_,_],_=>
   have:=Ql Rs
   generalize hL:(List.range Rs.length).map (fun(i:Nat)=>D.tup [.int (i:Int),Rs.getD i .non])=L at *
   generalize(perms Rs.length k).map (zq s Rs B)=PP
   generalize bk B=BB
   generalize aM r=R1
   generalize W s Rs B r=R2
   clear hL e hz hr h hB
   ac_rfl
 ·match v,hv with
  | [_,_],_=>rfl
 ·have:=oV i r
  have er:aM r = .tup (r.map fun(k:Nat)=>D.int (k:Int)):=rfl
  rw[er]
  generalize(perms Rs.length k).map (zq s Rs B)=PP
  generalize bk B=BB
  generalize W s Rs B r=R2
  generalize Rs.getD i .non=R3
  clear e hz hr h hB er
  ac_rfl
 ·have hm:=(cj _ _ _).mp hr
  have hk:=rY hr
  have h1:=Fl r i (by omega)
  have hi2:i<Rs.length:=List.mem_range.mp hi
  have hR:iI x (Rs.getD i .non):=by
   rw[List.getD_eq_getElem?_getD,List.getElem?_eq_getElem hi2]
   exact h.hR _ (List.getElem_mem hi2)
  have hO:=h.pick hm.2.2 (by omega)
  have h3:sU [(some (false,s)),(some (false,.tup Rs)),(some (false,bk B)),a3,(some (false,.lst ((perms Rs.length k).map (zq s Rs B)))),a5,a6,(some (false,aM r)),(some (false,.lst (W s Rs B r))),(some (false,.int (i:Int))),(some (false,Rs.getD i .non))] = .ok (.lst (W s Rs B (r++[i]))) [(some (false,s)),(some (false,.tup Rs)),(some (false,bk B)),a3,(some (false,.lst ((perms Rs.length k).map (zq s Rs B)))),a5,a6,(some (false,aM r)),(some (false,.lst (W s Rs B r))),(some (false,.int (i:Int))),(some (false,Rs.getD i .non))]:=by
   unfold sU
   refine yF B (fun p=>.str (fin s (pick Rs r) p.1)) (fun p=>.str (fin s (pick Rs (r++[i])) p.1)) (by rfl) rfl rfl (fun p hp=>?_) (Nat.le_trans hB.few (by decide))
   obtain⟨w1,w2,_⟩:=hB.rG p hp
   obtain⟨f1,f2⟩:=Bp hO w1 w2
   have hc:=(Ci.NZ h.hx h.hs hR f1 f2).1
   rw[←Lx,←Ug] at hc
   generalize(perms Rs.length k).map (zq s Rs B)=PP
   generalize bk B=BB
   generalize W s Rs B r=R2
   generalize Rs.getD i .non=R3 at *
   generalize aM r=R4
   generalize fin s (pick Rs r) p.1=w at *
   generalize fin s (pick Rs (r++[i])) p.1=w' at *
   clear f1 f2 w1 w2 hp hO hR h1 hm hr e hz h hB hi
   ac_rfl
  show _=R.ok (D.tup [aM (r++[i]),.lst (W s Rs B (r++[i]))]) _
  generalize hPP:(perms Rs.length k).map (zq s Rs B)=PP at h3 ⊢
  generalize bk B=BB at *
  generalize W s Rs B r=R2 at *
  generalize W s Rs B (r++[i])=R5 at *
  generalize Rs.getD i .non=R3 at *
  generalize aM (r++[i])=R6 at *
  generalize aM r=R4 at *
  clear hp hO hR hm hr e hz h hB hi hPP
  ac_rfl
theorem Um(a1 a2 a4:Option (Bool×D)):∀(l:List (List Nat)) (a5 a6:Option (Bool×D)),∃b5 b6,
  j4 (cV 2 (aQ (ak 5) (aQ (ak 6) (dh)))) jR (l.map (zq s Rs B)) [(some (false,s)),a1,a2,(some (true,.lst (B.map fun p=>.str p.2))),a4,a5,a6]=(match l.find? (tells s Rs B) with
   | some r=>.rt false (aM r) [(some (false,s)),a1,a2,(some (true,.lst (B.map fun p=>.str p.2))),a4,b5,b6]
   | none=>.nx [(some (false,s)),a1,a2,(some (true,.lst (B.map fun p=>.str p.2))),a4,b5,b6]):=by
 intro l
 induction l with
 | nil=>intro a5 a6;exact⟨a5,a6,rfl⟩
 | cons r l ih=>
  intro a5 a6
  have g:mJ (.lst (W s Rs B r)) (.lst (B.map fun p=>.str p.2))=some (.bl (tells s Rs B r)):=by
   have e1:W s Rs B r=(B.map fun p=>fin s (pick Rs r) p.1).map .str:=by unfold W;rw[List.map_map];rfl
   have e2:(B.map fun p=>D.str p.2)=(B.map (·.2)).map .str:=by rw[List.map_map];rfl
   rw[e1,e2,T9]
   congr 2
   unfold tells
   clear h hB ih e1 e2
   induction B with
   | nil=>rfl
   | cons p B ih=>rw[List.map_cons,List.map_cons,List.all_cons,←ih];rfl
  rw[List.map_cons,vH,List.find?_cons]
  show ∃b5 b6,oR (jR [(some (false,s)),a1,a2,(some (true,.lst (B.map fun p=>.str p.2))),a4,(some (false,aM r)),(some (false,.lst (W s Rs B r)))]) _=_
  have hb:jR [(some (false,s)),a1,a2,(some (true,.lst (B.map fun p=>.str p.2))),a4,(some (false,aM r)),(some (false,.lst (W s Rs B r)))]=if tells s Rs B r=true then .rt false (aM r) [(some (false,s)),a1,a2,(some (true,.lst (B.map fun p=>.str p.2))),a4,(some (false,aM r)),(some (false,.lst (W s Rs B r)))] else .nx [(some (false,s)),a1,a2,(some (true,.lst (B.map fun p=>.str p.2))),a4,(some (false,aM r)),(some (false,.lst (W s Rs B r)))]:=by
   unfold jR
   clear ih h hB
   generalize W s Rs B r=R2 at *
   generalize aM r=R3 at *
   generalize(B.map fun p=>D.str p.2)=R4 at *
   generalize tells s Rs B r=b at *
   cases b
   ·rw[if_neg Bool.false_ne_true];ac_rfl
   ·rw[if_pos rfl];ac_rfl
  rw[hb]
  cases tells s Rs B r with
  | true=>exact⟨_,_,rfl⟩
  | false=>
   obtain⟨b5,b6,e⟩:=ih (some (false,aM r)) (some (false,.lst (W s Rs B r)))
   exact⟨b5,b6,e⟩
theorem Ul(e0:Nat):∀(j k:Nat) (o:Bool) (a5 a6:Option (Bool×D)),k+j=Rs.length+1→∃b4 b5 b6,
  j5 (cX (au xD 4 (cG (ao)))) (rP) (e0+1+j) [(some (false,s)),(some (false,.tup Rs)),(some (false,bk B)),(some (true,.lst (B.map fun p=>.str p.2))),some (o,.lst ((perms Rs.length k).map (zq s Rs B))),a5,a6]=(match (List.range' k j).findSome? fun k=>(perms Rs.length k).find? (tells s Rs B) with
   | some r=>.rt false (aM r) [(some (false,s)),(some (false,.tup Rs)),(some (false,bk B)),(some (true,.lst (B.map fun p=>.str p.2))),b4,b5,b6]
   | none=>.nx [(some (false,s)),(some (false,.tup Rs)),(some (false,bk B)),(some (true,.lst (B.map fun p=>.str p.2))),b4,b5,b6]):=by
 intro j
 induction j with
 | zero=>
  intro k o a5 a6 hk
  rw[An (by omega:Rs.length<k)]
  exact⟨_,_,_,rfl⟩
 | succ j ih=>
  intro k o a5 a6 hk
  have hne:xD (.lst ((perms Rs.length k).map (zq s Rs B))) (.lst [])=some (.bl true):=by
   rw[Nj]
   cases e:perms Rs.length k with
   | cons=>rfl
   | nil=>
    have:List.range k∈perms Rs.length k:=(cj _ _ _).mpr ⟨by simp,List.nodup_range,fun i hi=>by have:=List.mem_range.mp hi;omega⟩
    rw[e] at this
    cases this
  obtain⟨c5,c6,hl⟩:=Um h hB (some (false,.tup Rs)) (some (false,bk B)) (some (false,.lst ((perms Rs.length k).map (zq s Rs B)))) (perms Rs.length k) a5 a6
  have hs:=Ui h hB k (some (true,.lst (B.map fun p=>.str p.2))) c5 c6
  have ht:cX (au xD 4 (cG (ao))) [(some (false,s)),(some (false,.tup Rs)),(some (false,bk B)),(some (true,.lst (B.map fun p=>.str p.2))),some (o,.lst ((perms Rs.length k).map (zq s Rs B))),a5,a6] = .ok true [(some (false,s)),(some (false,.tup Rs)),(some (false,bk B)),(some (true,.lst (B.map fun p=>.str p.2))),some (o,.lst ((perms Rs.length k).map (zq s Rs B))),a5,a6]:=by
   generalize(perms Rs.length k).map (zq s Rs B)=PP at *
   generalize(B.map fun p=>D.str p.2)=R4 at *
   generalize bk B=BB at *
   clear ih hl hs h hB
   ac_rfl
  rw[show e0+1+(j+1)=(e0+1+j)+1 from rfl,QV,ht,bO,Za,iT,Y6,List.range'_succ,List.findSome?_cons]
  have hf:eO (fG (aq 4)) (cV 2 (aQ (ak 5) (aQ (ak 6) (dh)))) (jR) [(some (false,s)),(some (false,.tup Rs)),(some (false,bk B)),(some (true,.lst (B.map fun p=>.str p.2))),some (o,.lst ((perms Rs.length k).map (zq s Rs B))),a5,a6]=(match (perms Rs.length k).find? (tells s Rs B) with
   | some r=>.rt false (aM r) [(some (false,s)),(some (false,.tup Rs)),(some (false,bk B)),(some (true,.lst (B.map fun p=>.str p.2))),(some (false,.lst ((perms Rs.length k).map (zq s Rs B)))),c5,c6]
   | none=>.nx [(some (false,s)),(some (false,.tup Rs)),(some (false,bk B)),(some (true,.lst (B.map fun p=>.str p.2))),(some (false,.lst ((perms Rs.length k).map (zq s Rs B)))),c5,c6]):=by
   rw[←hl]
   exact jm (by cases o<;>rfl)
  unfold rP
  rw[Mu,hf]
  cases hq:(perms Rs.length k).find? (tells s Rs B) with
  | some r=>exact⟨_,_,_,rfl⟩
  | none=>
   obtain⟨b4,b5,b6,e⟩:=ih (k+1) true c5 c6 (by omega)
   refine⟨b4,b5,b6,?_⟩
   show oR (Ov (.nx _) _) _=_
   rw[sNx,Ew,hs,bO,Td]
   exact e
theorem fewest:fW [s,.tup Rs,bk B]=some (cY (few (tells s Rs B) Rs.length)):=by
 have c1:∀a3 a4 a5 a6,sW [(some (false,s)),(some (false,.tup Rs)),(some (false,bk B)),a3,a4,a5,a6] = .ok (.lst (B.map fun p=>.str p.2)) [(some (false,s)),(some (false,.tup Rs)),(some (false,bk B)),a3,a4,a5,a6]:=fun a3 a4 a5 a6=>by
  unfold sW
  have:=vK (lo:=7) (n:=9) (it:=fG (aq 2)) (g:=cV 2 (aQ (ak 7) (aQ (ak 8) (dh)))) (c:=cD) (e:=aq 8) (env:=[(some (false,s)),(some (false,.tup Rs)),(some (false,bk B)),a3,a4,a5,a6]) B encP (fun p=>[(some (false,.str p.1)),(some (false,.str p.2))]) (fun _=>true) (fun p=>.str p.2) (by rfl) rfl (fun p hp=>by
   refine⟨rfl,fun vs hv=>?_,rfl,fun _=>rfl⟩
   match vs,hv with
   | [_,_],_=>rfl) (Nat.le_trans hB.few (by decide))
  rw[List.filter_eq_self.mpr (fun _ _=>rfl)] at this
  exact this
 have c2:∀a3 a4 a5 a6,sV [(some (false,s)),(some (false,.tup Rs)),(some (false,bk B)),a3,a4,a5,a6] = .ok (.lst (B.map fun p=>.str p.1)) [(some (false,s)),(some (false,.tup Rs)),(some (false,bk B)),a3,a4,a5,a6]:=fun a3 a4 a5 a6=>by
  unfold sV
  have:=vK (lo:=7) (n:=9) (it:=fG (aq 2)) (g:=cV 2 (aQ (ak 7) (aQ (ak 8) (dh)))) (c:=cD) (e:=aq 7) (env:=[(some (false,s)),(some (false,.tup Rs)),(some (false,bk B)),a3,a4,a5,a6]) B encP (fun p=>[(some (false,.str p.1)),(some (false,.str p.2))]) (fun _=>true) (fun p=>.str p.1) (by rfl) rfl (fun p hp=>by
   refine⟨rfl,fun vs hv=>?_,rfl,fun _=>rfl⟩
   match vs,hv with
   | [_,_],_=>rfl) (Nat.le_trans hB.few (by decide))
  rw[List.filter_eq_self.mpr (fun _ _=>rfl)] at this
  exact this
 have h4:=h.h4
 obtain⟨b4,b5,b6,hw⟩:=Ul h hB (18 - Rs.length) (Rs.length+1) 0 false none none (by omega)
 rw[show 18 - Rs.length+1+(Rs.length+1)=20 by omega,←List.range_eq_range'] at hw
 have e0:(perms Rs.length 0).map (zq s Rs B)=[.tup [.tup [],.lst (B.map fun p=>.str p.1)]]:=rfl
 rw[e0] at hw
 unfold fW Jo few
 generalize(List.range (Rs.length+1)).findSome? (fun k=>(perms Rs.length k).find? (tells s Rs B))=Q at *
 generalize bk B=BB at *
 generalize(B.map fun p=>D.str p.2)=F at *
 generalize(B.map fun p=>D.str p.1)=F1 at *
 clear h hB
 cases Q with
 | none=>
  simp only at hw
  show _=some D.non
  ac_rfl
 | some r=>
  simp only at hw
  show _=some (aM r)
  generalize aM r=RR at *
  ac_rfl
omit h hB in
theorem any_filter(t:List Nat→Bool)(P:List (List Nat)):P.any t = !(P.filter t).isEmpty:=by
 induction P with
 | nil=>rfl
 | cons a P ih=>
  rw[List.any_cons]
  cases e:t a with
  | true=>rw[List.filter_cons_of_pos e];rfl
  | false=>rw[List.filter_cons_of_neg (by rw[e];decide),←ih];rfl
noncomputable def told(s:D)(Rs:List D)(B:List Pr):D:=match (perms Rs.length Rs.length).filter (tells s Rs B) with
 | []=>.tup [.str [113,117,97,114,114,101,108],.tup (fM (Wc ((perms Rs.length Rs.length).map fun r=>tell s (pick Rs r) B) B.length))]
 | a::l=>.tup [.str [116,111,108,100],.tup (rows (a::l))]
theorem aah:lH [.tup [s,.tup Rs],bk B]=some (told s Rs B):=by
 have h4:=h.h4
 have ha:=all_orderings Rs.length (by omega)
 have hP:∀r∈perms Rs.length Rs.length,r.length=Rs.length∧∀i∈r,i<Rs.length:=fun r hr=>⟨((cj _ _ _).mp hr).1,((cj _ _ _).mp hr).2.2⟩
 have hz:=qx Rs.length Rs.length (by omega)
 have c1:qD [(some (false,.tup [s,.tup Rs])),(some (false,bk B)),(some (false,.lst (rows (perms Rs.length Rs.length)))),none,none] = .ok (.lst ((perms Rs.length Rs.length).map fun r=>dN (tell s (pick Rs r) B))) [(some (false,.tup [s,.tup Rs])),(some (false,bk B)),(some (false,.lst (rows (perms Rs.length Rs.length)))),none,none]:=by
  unfold qD
  refine yF (perms Rs.length Rs.length) aM (fun r=>dN (tell s (pick Rs r) B)) (by rfl) rfl rfl (fun r hr=>?_) (Nat.le_trans hz (by decide))
  obtain⟨q1,q2⟩:=hP r hr
  have l1:=laid s Rs r q2 (by omega)
  have l2:=pairs_told (h.pick q2 (by omega)) hB
  generalize dN (tell s (pick Rs r) B)=TT at *
  generalize bk B=BB at *
  generalize aM r=RR at *
  generalize rows (perms Rs.length Rs.length)=PP at *
  generalize D.tup [s,.tup Rs]=O1 at *
  generalize D.tup [s,.tup (pick Rs r)]=O2 at *
  clear h hB ha hP hr q2
  ac_rfl
 have c2:nq [(some (false,.tup [s,.tup Rs])),(some (false,bk B)),(some (false,.lst (rows (perms Rs.length Rs.length)))),(some (true,.lst ((perms Rs.length Rs.length).map fun r=>dN (tell s (pick Rs r) B)))),none] = .ok (.lst (rows ((perms Rs.length Rs.length).filter (tells s Rs B)))) [(some (false,.tup [s,.tup Rs])),(some (false,bk B)),(some (false,.lst (rows (perms Rs.length Rs.length)))),(some (false,.lst ((perms Rs.length Rs.length).map fun r=>dN (tell s (pick Rs r) B)))),none]:=by
  unfold nq
  refine vK (aG:=[(some (false,.tup [s,.tup Rs])),(some (false,bk B)),(some (false,.lst (rows (perms Rs.length Rs.length)))),(some (false,.lst ((perms Rs.length Rs.length).map fun r=>dN (tell s (pick Rs r) B)))),none]) (perms Rs.length Rs.length) (fun r=>.tup [aM r,dN (tell s (pick Rs r) B)]) (fun r=>[(some (false,aM r)),(some (false,dN (tell s (pick Rs r) B)))]) (tells s Rs B) aM ?_ rfl (fun r hr=>?_) (Nat.le_trans hz (by decide))
  ·have ez:GF (rows (perms Rs.length Rs.length)) ((perms Rs.length Rs.length).map fun r=>dN (tell s (pick Rs r) B))=(perms Rs.length Rs.length).map fun r=>D.tup [aM r,dN (tell s (pick Rs r) B)]:=by
    unfold GF
    generalize perms Rs.length Rs.length=P
    clear h hB ha hP hz h4
    induction P with
    | nil=>rfl
    | cons a P ih=>exact congrArg (List.cons (D.tup [aM a,dN (tell s (pick Rs a) B)])) ih
   rw[←ez]
   generalize rows (perms Rs.length Rs.length)=P1
   generalize(perms Rs.length Rs.length).map (fun r=>dN (tell s (pick Rs r) B))=P2
   rfl
  ·refine⟨rfl,fun vs hv=>?_,?_,fun _=>?_⟩
   ·match vs,hv with
    | [_,_],_=>rfl
   ·have g:Bl [dN (tell s (pick Rs r) B)]=some (.bl (tells s Rs B r)):=by
     have:=Ub id (tell s (pick Rs r) B)
     have e:tells s Rs B r=(tell s (pick Rs r) B).all id:=by unfold tells tell;rw[List.all_map];rfl
     rw[e]
     exact this
    generalize dN (tell s (pick Rs r) B)=TT at *
    generalize bk B=BB at *
    generalize aM r=RR at *
    generalize rows (perms Rs.length Rs.length)=PP at *
    generalize D.tup [s,.tup Rs]=O1 at *
    generalize(perms Rs.length Rs.length).map (fun r=>dN (tell s (pick Rs r) B))=P2
    generalize tells s Rs B r=b at *
    clear h hB ha hP hr c1
    ac_rfl
   ·generalize dN (tell s (pick Rs r) B)=TT at *
    generalize rows (perms Rs.length Rs.length)=PP at *
    generalize(perms Rs.length Rs.length).map (fun r=>dN (tell s (pick Rs r) B))=P2
    rfl
 have hq:=quarrel ((perms Rs.length Rs.length).map fun r=>tell s (pick Rs r) B) B.length (fun t ht=>by
  obtain⟨r,_,rfl⟩:=List.mem_map.mp ht
  unfold tell
  rw[List.length_map]) (by rw[List.length_map];exact Nat.le_trans ((by decide +kernel:∀n,n≤5→(perms n n).length≤200) _ h4) (by decide)) (by have:=hB.few;omega)
 rw[List.map_map] at hq
 have eb:dM [bk B]=some (.int (B.length:Int)):=by
  show some (D.int ((B.map encP).length:Int))=_
  rw[List.length_map]
 have hn:=Nj (rows ((perms Rs.length Rs.length).filter (tells s Rs B)))
 unfold lH Eg told
 change nM [D.lst ((perms Rs.length Rs.length).map (fun r=>dN (tell s (pick Rs r) B))),_]=_ at hq
 generalize(perms Rs.length Rs.length).filter (tells s Rs B)=TA at *
 generalize bk B=BB at *
 generalize rows (perms Rs.length Rs.length)=PP at *
 generalize Wc ((perms Rs.length Rs.length).map fun r=>tell s (pick Rs r) B) B.length=QQ at *
 generalize(perms Rs.length Rs.length).map (fun r=>dN (tell s (pick Rs r) B))=P2 at *
 clear h hB hP
 cases TA with
 | nil=>
  show _=some (D.tup [.str [113,117,97,114,114,101,108],.tup (fM QQ)])
  replace hn:xD (.lst []) (.lst [])=some (.bl false):=hn
  replace c2:nq _=R.ok (.lst []) _:=c2
  generalize fM QQ=NN at *
  ac_rfl
 | cons a l=>
  show _=some (D.tup [.str [116,111,108,100],.tup (rows (a::l))])
  replace hn:xD (.lst (rows (a::l))) (.lst [])=some (.bl true):=hn
  generalize rows (a::l)=RL at *
  ac_rfl
theorem told_by:∃X,lH [.tup [s,.tup Rs],bk B]=some (.tup [.str (if (perms Rs.length Rs.length).any (tells s Rs B)=true then [116,111,108,100] else [113,117,97,114,114,101,108]),X]):=by
 rw[aah h hB,any_filter]
 unfold told
 cases(perms Rs.length Rs.length).filter (tells s Rs B) with
 | nil=>exact⟨_,rfl⟩
 | cons a l=>exact⟨_,rfl⟩
end
open Ev PySem L2
open Ci (cF fin iI)
open uF (XS sides)
theorem VF:aF=ni.aF:=rfl
theorem zG:di=ni.di:=rfl
theorem Vy:gO=Ob.gO:=rfl
theorem Q5:gF=ni.gF:=rfl
theorem Oq:fP=ni.fP:=rfl
theorem V6:dD=ni.dD:=rfl
theorem R7:fU=Vt.fU:=rfl
theorem drw(n:Int)(m:Nat)(h0:0<m)(h1:m≤200):∃(d:Nat) (n':Int),d<m∧aF [.lst [.int n],.int (m:Int)]=some (.int (d:Int),.lst [.int n']):=by
 have e1:=Int.emod_nonneg n (show(m:Int)≠0 by omega)
 have e2:=Int.emod_lt_of_pos n (show(0:Int)<(m:Int) by omega)
 refine⟨(n % (m:Int)).toNat,n / (m:Int),by omega,?_⟩
 rw[VF,ni.lQ n m h0 (by omega),Int.toNat_of_nonneg e1]
noncomputable def ext(n:Nat)(r:List Nat):List D:=((List.range n).filter fun i=>!decide (i∈r)).map fun i=>aM (r++[i])
theorem XN{n:Nat}(hn:n≤5)(r:List Nat):(ext n r).length≤5:=by
 unfold ext
 rw[List.length_map]
 refine Nat.le_trans (List.length_filter_le _ _) ?_
 rw[List.length_range]
 exact hn
theorem aa3(n:Nat)(hn:n≤5)(a1 a2:Option (Bool×D)):∀(l:List (List Nat)) (acc:List D) (a4:Option (Bool×D)),(∀r∈l,r.length≤100)→acc.length+5*l.length≤20000→∃b4,
  j4 (ak 4) gM (l.map aM) [(some (false,.int (n:Int))),a1,a2,(some (true,.lst acc)),a4] = .nx [(some (false,.int (n:Int))),a1,a2,(some (true,.lst (acc++l.flatMap (ext n)))),b4]:=by
 intro l
 induction l with
 | nil=>intro acc a4 _ _;exact⟨a4,by rw[List.flatMap_nil,List.append_nil];rfl⟩
 | cons r l ih=>
  intro acc a4 hr hz
  rw[List.length_cons] at hz
  have hx:=XN hn r
  have c:∀v,jB [(some (false,.int (n:Int))),a1,a2,v,(some (false,aM r))] = .ok (.lst (ext n r)) [(some (false,.int (n:Int))),a1,a2,v,(some (false,aM r))]:=fun v=>by
   unfold jB ext
   have hrg:=Fo (n:=n) (by omega)
   refine Nq (List.range n) (fun(i:Nat)=>.int (i:Int)) (fun i=>!decide (i∈r)) (fun i=>aM (r++[i])) ?_ rfl rfl (fun i hi=>?_) (fun i hi _=>?_) (by rw[List.length_range];exact Nat.le_trans hn (by decide))
   ·generalize aM r=RR
    clear ih hx hr hz
    ac_rfl
   ·have:=oV i r
    have er:aM r = .tup (r.map fun(k:Nat)=>D.int (k:Int)):=rfl
    rw[er]
    clear ih hx hr hz er hrg
    ac_rfl
   ·have:=Fl r i (hr r (by simp))
    generalize aM (r++[i])=R2 at *
    generalize aM r=R1 at *
    clear ih hx hr hz hrg
    ac_rfl
  obtain⟨b4,ih⟩:=ih (acc++ext n r) (some (false,aM r)) (fun q hq=>hr q (by simp[hq])) (by rw[List.length_append];omega)
  refine⟨b4,?_⟩
  have hb:gM [(some (false,.int (n:Int))),a1,a2,(some (true,.lst acc)),(some (false,aM r))] = .nx [(some (false,.int (n:Int))),a1,a2,(some (true,.lst (acc++ext n r))),(some (false,aM r))]:=by
   unfold gM
   have c:=c (some (true,.lst acc))
   clear ih hr
   generalize ext n r=EE at *
   generalize aM r=RR at *
   have hz2:acc.length+EE.length≤20000:=by omega
   clear hz hx
   ac_rfl
  have e1:ak 4 (aM r) [(some (false,.int (n:Int))),a1,a2,(some (true,.lst acc)),a4]=some [(some (false,.int (n:Int))),a1,a2,(some (true,.lst acc)),(some (false,aM r))]:=rfl
  rw[List.map_cons,vH,e1,vS,La,hb,kNx,ih,List.flatMap_cons,List.append_assoc]
theorem orderings(n:Nat)(hn:n≤5):ie [.int (n:Int)]=some (.lst (rows (perms n n))):=by
 have go:∀(m k:Nat) (o:Bool) (a2 a3 a4:Option (Bool×D)),∃o' b2 b3 b4,j4 (ak 2) eU ((List.range' k m).map fun(i:Nat)=>D.int (i:Int)) [(some (false,.int (n:Int))),(some (o,.lst (rows (perms n k)))),a2,a3,a4] = .nx [(some (false,.int (n:Int))),(some (o',.lst (rows (perms n (k+m))))),b2,b3,b4]:=by
  intro m
  induction m with
  | zero=>intro k o a2 a3 a4;exact⟨o,a2,a3,a4,rfl⟩
  | succ m ih=>
   intro k o a2 a3 a4
   have hz:=qx n k hn
   obtain⟨b4,hi⟩:=aa3 n hn (some (false,.lst (rows (perms n k)))) (some (false,.int (k:Int))) (perms n k) [] a4 (fun r hr=>by rw[((cj _ _ _).mp hr).1];have:=rY hr;omega) (by show 0+_≤_;omega)
   have e:rows (perms n (k+1))=(perms n k).flatMap (ext n):=by
    show((perms n k).flatMap fun r=>((List.range n).filter fun i=>!decide (i∈r)).map fun i=>r++[i]).map aM=_
    rw[List.map_flatMap]
    congr 1
    funext r
    rw[List.map_map]
    rfl
   rw[List.nil_append,←e] at hi
   obtain⟨o',b2,b3,b4',ih⟩:=ih (k+1) false (some (false,.int (k:Int))) (some (false,.lst (rows (perms n (k+1))))) b4
   refine⟨o',b2,b3,b4',?_⟩
   rw[List.range'_succ,List.map_cons,vH]
   have hb:eU [(some (false,.int (n:Int))),(some (o,.lst (rows (perms n k)))),(some (false,.int (k:Int))),a3,a4] = .nx [(some (false,.int (n:Int))),(some (false,.lst (rows (perms n (k+1))))),(some (false,.int (k:Int))),(some (false,.lst (rows (perms n (k+1))))),b4]:=by
    unfold eU
    have e2:rows (perms n k)=(perms n k).map aM:=rfl
    rw[←e2] at hi
    generalize rows (perms n (k+1))=R2 at *
    generalize rows (perms n k)=R1 at *
    clear ih e e2
    cases o<;>ac_rfl
   show oR (eU [(some (false,.int (n:Int))),(some (o,.lst (rows (perms n k)))),(some (false,.int (k:Int))),a3,a4]) _=_
   rw[hb,kNx,ih,show k+1+m=k+(m+1) by omega]
 obtain⟨o',b2,b3,b4,h⟩:=go n 0 false none none none
 rw[Nat.zero_add,←List.range_eq_range'] at h
 have hr:=Fo (n:=n) (by omega)
 have e0:rows (perms n 0)=[.tup []]:=rfl
 rw[e0] at h
 unfold ie rJ
 generalize rows (perms n n)=RR at *
 clear go
 cases o'<;>ac_rfl
theorem size(q:Option (List Nat)):cu [cY q]=some (.int (match q with|none=>(99:Int)|some r=>(r.length:Int))):=by
 cases q with
 | none=>rfl
 | some r=>
  show cu [aM r]=some (.int ((r.length:Nat):Int))
  have:dM [aM r]=some (.int ((r.length:Nat):Int)):=by
   show some (D.int ((r.map fun(k:Nat)=>D.int (k:Int)).length:Int))=_
   rw[List.length_map]
  have h2:Vm (aM r) .non=some (.bl false):=rfl
  unfold cu BP
  generalize aM r=RR at *
  ac_rfl
open Ev PySem L2
open Ci (cF fin iI)
open uF (XS sides)
theorem Z9:∀x∈XS,0<x.length∧x.length≤100:=by
 have h:(XS.all fun x=>decide (0<x.length∧x.length≤100))=true:=by decide +kernel
 intro x hx
 simpa using List.all_eq_true.mp h x hx
theorem N7{P:List (List Nat)}{d:Nat}(h:d<P.length):∃r∈P,pN (rows P) (d:Int)=some (aM r):=by
 refine⟨P[d],List.getElem_mem h,?_⟩
 rw[atN,List.getElem?_map,List.getElem?_eq_getElem h]
 rfl
theorem aed{x:List Nat}{d:Nat}(h:d<x.length):∃c∈x,pN x (d:Int)=some c:=by
 refine⟨x[d],List.getElem_mem h,?_⟩
 rw[atN,List.getElem?_eq_getElem h]
noncomputable def U4:bQ:=cT (cX (au mJ 8 (aU (.int 1)))) (aL (au cB 6 (cJ aF 11 (aa (az dM (aa (aY 6) ao)) (ao)))) (ak 13)) (bI)
noncomputable def U3:bQ:=cT (cz (cX (au mJ 8 (aU (.int 2)))) (cX (aK mJ (cJ aF 11 (aa (aU (.int 3)) (ao))) (aU (.int 0))))) (aL (Iv (au bT 14 (au cB 3 (cJ aF 11 (aa (az dM (aa (aY 3) ao)) (ao))))) (uJ (cJ aF 11 (aa (aU (.int 2)) (ao)))) (jV)) (ak 14)) (bI)
theorem aj0:jy=aC (dB 11 (az di (aa (aq 0) (aa (aK bT (au bT 1 (aU (.int 2))) (aY 10)) (ao))))) (aC (aL (cJ gO 11 (aa (aq 3) (aa (aU (.int 7)) (ao)))) (ak 12)) (aC (aL (aq 7) (ak 13)) (aC U4 (aC (aL (az lK (aa (az gb (aa (aq 2) (aa (aq 13) (ao)))) (aa (aq 12) (ao)))) (ak 14)) (aC U3 (gq 9 (dm (aa (aq 12) (aa (tV (aq 14) (jV) (uJ (aU (.int 20)))) (ao)))))))))):=rfl
theorem aea{P:List (List Nat)}{f:List Nat}(hf:f∈P)(hP:P.length≤200)(kind:Nat)(n1:Int)(a0 a1 a2 a3 a4 a5 a7 a9 a10 a12 a14:Option (Bool×D)):∃r n2,r∈P∧U4 [a0,a1,a2,a3,a4,a5,(some (false,.lst (rows P))),a7,(some (false,.int (kind:Int))),a9,a10,(some (true,.lst [.int n1])),a12,(some (false,aM f)),a14] = .nx [a0,a1,a2,a3,a4,a5,(some (false,.lst (rows P))),a7,(some (false,.int (kind:Int))),a9,a10,(some (true,.lst [.int n2])),a12,(some (false,aM r)),a14]:=by
 unfold U4
 by_cases k1:kind=1
 ·obtain⟨d,n2,hd,t1⟩:=drw n1 P.length (List.length_pos_of_mem hf) hP
  obtain⟨r,hr,gr⟩:=N7 hd
  have e0:(rows P).length=P.length:=List.length_map _
  rw[←e0] at t1
  refine⟨r,n2,hr,?_⟩
  replace k1:((kind:Int) == 1)=true:=by rw[beq_iff_eq];omega
  generalize aM r=RR at *
  generalize aM f=R0 at *
  generalize rows P=PP at *
  clear hd hf hr e0 hP
  ac_rfl
 ·replace k1:((kind:Int) == 1)=false:=by rw[beq_eq_false_iff_ne];omega
  refine⟨f,n1,hf,?_⟩
  generalize aM f=R0 at *
  generalize rows P=PP at *
  clear hf hP
  ac_rfl
theorem ad9{x:List Nat}(hx:x∈XS)(kind:Nat)(n1:Int)(F:List Nat)(hF:F.length≤300)(a0 a1 a2 a4 a5 a6 a7 a9 a10 a12 a13:Option (Bool×D)):∃(G:List Nat) (n2:Int),U3 [a0,a1,a2,(some (false,.str x)),a4,a5,a6,a7,(some (false,.int (kind:Int))),a9,a10,(some (true,.lst [.int n1])),a12,a13,(some (false,.str F))] = .nx [a0,a1,a2,(some (false,.str x)),a4,a5,a6,a7,(some (false,.int (kind:Int))),a9,a10,(some (true,.lst [.int n2])),a12,a13,(some (false,.str G))]:=by
 unfold U3
 by_cases k2:kind=2
 ·replace k2:((kind:Int) == 2)=true:=by rw[beq_iff_eq];omega
  obtain⟨d,n2,hd,t1⟩:=drw n1 3 (by decide) (by decide)
  replace t1:aF [.lst [.int n1],.int 3]=some (.int (d:Int),.lst [.int n2]):=t1
  by_cases d0:d=0
  ·replace d0:((d:Int) == 0)=true:=by rw[beq_iff_eq];omega
   obtain⟨x1,x2⟩:=Z9 x hx
   obtain⟨d1,n3,hd1,t2⟩:=drw n2 x.length x1 (by omega)
   obtain⟨c,hc,gc⟩:=aed hd1
   obtain⟨d2,n4,hd2,t3⟩:=drw n3 2 (by decide) (by decide)
   replace t3:aF [.lst [.int n3],.int 2]=some (.int (d2:Int),.lst [.int n4]):=t3
   refine⟨cutD (F++[c]) (some (d2:Int)) none,n4,?_⟩
   clear hd hd1 hd2 hc x1 hx
   ac_rfl
  ·replace d0:((d:Int) == 0)=false:=by rw[beq_eq_false_iff_ne];omega
   refine⟨F,n2,?_⟩
   clear hd hx
   ac_rfl
 ·replace k2:((kind:Int) == 2)=false:=by rw[beq_eq_false_iff_ne];omega
  refine⟨F,n1,?_⟩
  clear hx
  ac_rfl
section
variable(ns:List Int)(hl:ns.length≤63)(hb:Ju ns){x:List Nat}{s:D}{Rs:List D}(h:Ok x s Rs)
include hl hb h
theorem Ys(k j:Nat)(hk:k≤50)(hj:j≤50)(kind:Nat)(f:List Nat)(hf:f∈perms Rs.length Rs.length)(acc:List Pr)(ha:acc.length≤50)(a4 a5 a11 a12 a13 a14:Option (Bool×D)):∃p Vp Vo b13 b14,
  jy [(some (false,.arr (ns.map .int))),(some (false,.int (k:Int))),(some (false,.tup [s,.tup Rs])),(some (false,.str x)),a4,a5,(some (false,.lst (rows (perms Rs.length Rs.length)))),(some (false,aM f)),(some (false,.int (kind:Int))),(some (true,.lst (acc.map encP))),(some (false,.int (j:Int))),a11,a12,a13,a14]
   = .nx [(some (false,.arr (ns.map .int))),(some (false,.int (k:Int))),(some (false,.tup [s,.tup Rs])),(some (false,.str x)),a4,a5,(some (false,.lst (rows (perms Rs.length Rs.length)))),(some (false,aM f)),(some (false,.int (kind:Int))),(some (true,.lst ((acc++[p]).map encP))),(some (false,.int (j:Int))),Vp,Vo,b13,b14]∧((∀c∈p.1,c∈x)∧p.1.length≤7∧p.2.length≤100):=by
 obtain⟨p0,hp⟩:=ni.pack ns hl hb ((k:Int)+2+(j:Int)) (by omega) (by omega)
 rw[←zG] at hp
 obtain⟨w,n1,hw,w1,w2⟩:=Ob.word p0 x h.hx 7 (by decide)
 rw[←Vy] at hw
 replace hw:gO [.lst [.int p0],.str x,.int 7]=some (.str w,.lst [.int n1]):=hw
 have h4:=h.h4
 obtain⟨r,n2,hr,i1⟩:=aea hf ((by decide +kernel:∀n,n≤5→(perms n n).length≤200) _ h4) kind n1 (some (false,.arr (ns.map .int))) (some (false,.int (k:Int))) (some (false,.tup [s,.tup Rs])) (some (false,.str x)) a4 a5 (some (false,aM f)) (some (true,.lst (acc.map encP))) (some (false,.int (j:Int))) (some (false,.str w)) a14
 obtain⟨q1,_,q2⟩:=(cj _ _ _).mp hr
 have hO:=h.pick q2 (by omega)
 have m1:=HJ s Rs r q2 (by omega)
 have m2:=S5 hO w1 w2
 obtain⟨G,n3,i2⟩:=ad9 h.hx kind n2 (fin s (pick Rs r) w) (Bp hO w1 w2).2 (some (false,.arr (ns.map .int))) (some (false,.int (k:Int))) (some (false,.tup [s,.tup Rs])) a4 a5 (some (false,.lst (rows (perms Rs.length Rs.length)))) (some (false,aM f)) (some (true,.lst (acc.map encP))) (some (false,.int (j:Int))) (some (false,.str w)) (some (false,aM r))
 refine⟨(w,G.take 20),(some (true,.lst [.int n3])),(some (false,.str w)),(some (false,aM r)),(some (false,.str G)),?_,w1,w2,by rw[List.length_take];omega⟩
 have e1:(acc++[(w,G.take 20)]).map encP=acc.map encP++[.tup [.str w,.str (G.take 20)]]:=by rw[List.map_append];rfl
 have hlen:(acc.map encP).length≤50:=by rw[List.length_map];exact ha
 have c20:cutD G none (some 20)=G.take 20:=Yn G 20
 rw[aj0,e1]
 generalize fin s (pick Rs r) w=FF at *
 generalize G.take 20=FT at *
 generalize D.tup [s,.tup (pick Rs r)]=O2 at *
 generalize hO1:D.tup [s,.tup Rs]=O1 at *
 generalize aM r=RR at *
 generalize aM f=R0 at *
 generalize rows (perms Rs.length Rs.length)=PP at *
 generalize acc.map encP=AC at *
 generalize ns.map D.int=NN at *
 clear e1 hf hr w1 w2 ha hO1 h hb hO q2
 ac_rfl
theorem book(k:Nat)(hk:k≤50)(m:Nat)(hm:m≤9)(hm0:0<m):∃B,jE [.arr (ns.map .int),.int (k:Int),.tup [s,.tup Rs],.str x,.int (m:Int)]=some (bk B)∧Bk x B∧1≤B.length:=by
 obtain⟨p,hp⟩:=ni.pack ns hl hb (k:Int) (by omega) (by omega)
 rw[←zG] at hp
 have h4:=h.h4
 have ho:=orderings Rs.length (by omega)
 obtain⟨d,n1,hd,t1⟩:=drw p (perms Rs.length Rs.length).length (List.length_pos_of_mem (Dq Rs.length)) (by
  have:∀n,n≤5→(perms n n).length≤200:=by decide +kernel
  exact this _ h4)
 obtain⟨f,hf,gf⟩:=N7 hd
 have e0:(rows (perms Rs.length Rs.length)).length=(perms Rs.length Rs.length).length:=List.length_map _
 rw[←e0] at t1
 obtain⟨kd,n2,_,t2⟩:=drw n1 4 (by decide) (by decide)
 obtain⟨q,n3,hq,t3⟩:=drw n2 m hm0 (by omega)
 have hr:=Fo (n:=1+q) (by omega)
 have go:∀(is:List Nat) (acc:List Pr) (a10 a11 a12 a13 a14:Option (Bool×D)),(∀i∈is,i≤50)→acc.length+is.length≤10→(∀p∈acc,(∀c∈p.1,c∈x)∧p.1.length≤7∧p.2.length≤100)→∃(acc':List Pr) (b10 Vp Vo b13 b14:Option (Bool×D)),j4 (ak 10) jy (is.map fun(i:Nat)=>D.int (i:Int)) [(some (false,.arr (ns.map .int))),(some (false,.int (k:Int))),(some (false,.tup [s,.tup Rs])),(some (false,.str x)),(some (false,.int (m:Int))),(some (true,.lst [.int n3])),(some (false,.lst (rows (perms Rs.length Rs.length)))),(some (false,aM f)),(some (false,.int (kd:Int))),(some (true,.lst (acc.map encP))),a10,a11,a12,a13,a14]
   = .nx [(some (false,.arr (ns.map .int))),(some (false,.int (k:Int))),(some (false,.tup [s,.tup Rs])),(some (false,.str x)),(some (false,.int (m:Int))),(some (true,.lst [.int n3])),(some (false,.lst (rows (perms Rs.length Rs.length)))),(some (false,aM f)),(some (false,.int (kd:Int))),(some (true,.lst (acc'.map encP))),b10,Vp,Vo,b13,b14]∧acc'.length=acc.length+is.length∧(∀p∈acc',(∀c∈p.1,c∈x)∧p.1.length≤7∧p.2.length≤100):=by
  intro is
  induction is with
  | nil=>intro acc a10 a11 a12 a13 a14 _ _ hg;exact⟨acc,a10,a11,a12,a13,a14,rfl,rfl,hg⟩
  | cons i is ih=>
   intro acc a10 a11 a12 a13 a14 hi hz hg
   rw[List.length_cons] at hz
   obtain⟨p,c11,c12,c13,c14,e1,g1⟩:=Ys ns hl hb h k i hk (hi i (by simp)) kd f hf acc (by omega) (some (false,.int (m:Int))) (some (true,.lst [.int n3])) a11 a12 a13 a14
   obtain⟨acc',b10,Vp,Vo,b13,b14,e2,g2,g3⟩:=ih (acc++[p]) (some (false,.int (i:Int))) c11 c12 c13 c14 (fun j hj=>hi j (by simp[hj])) (by rw[List.length_append];show acc.length+1+is.length≤10;omega) (fun q hq=>by
    rcases List.mem_append.mp hq with hq|hq
    ·exact hg q hq
    ·rw[List.mem_singleton.mp hq];exact g1)
   refine⟨acc',b10,Vp,Vo,b13,b14,?_,?_,g3⟩
   ·have eg:ak 10 (.int (i:Int)) [(some (false,.arr (ns.map .int))),(some (false,.int (k:Int))),(some (false,.tup [s,.tup Rs])),(some (false,.str x)),(some (false,.int (m:Int))),(some (true,.lst [.int n3])),(some (false,.lst (rows (perms Rs.length Rs.length)))),(some (false,aM f)),(some (false,.int (kd:Int))),(some (true,.lst (acc.map encP))),a10,a11,a12,a13,a14]=some [(some (false,.arr (ns.map .int))),(some (false,.int (k:Int))),(some (false,.tup [s,.tup Rs])),(some (false,.str x)),(some (false,.int (m:Int))),(some (true,.lst [.int n3])),(some (false,.lst (rows (perms Rs.length Rs.length)))),(some (false,aM f)),(some (false,.int (kd:Int))),(some (true,.lst (acc.map encP))),(some (false,.int (i:Int))),a11,a12,a13,a14]:=rfl
    have e1:jy [(some (false,.arr (ns.map .int))),(some (false,.int (k:Int))),(some (false,.tup [s,.tup Rs])),(some (false,.str x)),(some (false,.int (m:Int))),(some (true,.lst [.int n3])),(some (false,.lst (rows (perms Rs.length Rs.length)))),(some (false,aM f)),(some (false,.int (kd:Int))),(some (true,.lst (acc.map encP))),(some (false,.int (i:Int))),a11,a12,a13,a14]=_:=e1
    rw[List.map_cons,vH,eg,vS,La,e1,kNx]
    exact e2
   ·rw[g2];simp only[List.length_append,List.length_cons,List.length_nil];omega
 obtain⟨B,b10,Vp,Vo,b13,b14,e1,g1,g2⟩:=go (List.range (1+q)) [] none none none none none (fun i hi=>by have:=List.mem_range.mp hi;omega) (by rw[List.length_range];show 0+_≤_;omega) (fun p hp=>by cases hp)
 rw[List.length_range] at g1
 have g1:B.length=0+(1+q):=g1
 refine⟨B,?_,⟨by omega,g2⟩,by omega⟩
 replace t2:aF [.lst [.int n1],.int 4]=some (.int (kd:Int),.lst [.int n2]):=t2
 unfold jE BW bk
 rw[List.map_nil] at e1
 have ea:bT (.int 1) (.int (q:Int))=some (.int ((1+q:Nat):Int)):=by
  show some (D.int (1+(q:Int)))=_
  rw[Int.natCast_add];rfl
 generalize(List.range (1+q)).map (fun(i:Nat)=>D.int (i:Int))=RG at *
 generalize((1+q:Nat):Int)=q1 at *
 generalize aM f=R0 at *
 generalize rows (perms Rs.length Rs.length)=PP at *
 generalize B.map encP=AC at *
 generalize ns.map D.int=NN at *
 clear go g2 g1 hf hd hq h e0 hb
 have il:cB (.tup [s,.tup Rs]) (.int 1)=some (.tup Rs):=rfl
 have a0:=DR
 ac_rfl
end
open Ev PySem L2
open Ci (cF fin iI)
open uF (XS sides)
noncomputable def abI:bQ:=cT (cX (au pH 7 (aU .non))) (aC (aL (az gb (aa (aq 3) (aa (aq 7) (ao)))) (ak 9)) (aC (cT (Bs (cX (az Bl (aa (wZ) ao)))) (bh (aU (.bl false))) (bI)) (aC (cT (cX (aK xD (az cu (aa (az fW (aa (aq 4) (aa (au cB 9 (aU (.int 1))) (aa (aq 6) (ao))))) (ao))) (az dM (aa (aY 7) ao)))) (bh (aU (.bl false))) (bI)) (cT (cz (cX (aK mJ (az dM (aa (aY 7) ao)) (az dM (aa (aY 5) ao)))) (cX (aK xD (au cB 8 (aU (.int 0))) (aU (.str [116,111,108,100]))))) (bh (aU (.bl false))) (bI))))) (bI)
noncomputable def abG:bQ:=cT (cz (cX (au pH 11 (aU .non))) (cz (cX (aK pG (az dM (aa (aY 5) ao)) (aY 11))) (cX (au xD 11 (aY 7))))) (bh (aU (.bl false))) (bI)
noncomputable def K1:bQ:=aC (aL (IV dD (az di (aa (aq 0) (aa (aU (.int 12)) (ao)))) (aa (aq 2) (ao))) (ak 10)) (aC (aL (az fW (aa (aq 4) (aa (au bT 5 (dm (aa (aq 10) (ao)))) (aa (aq 6) (ao))))) (ak 11)) (aC (cT (cX (aK gGt (az cu (aa (aq 11) (ao))) (az cu (aa (aq 7) (ao))))) (bh (aU (.bl false))) (bI)) (aC abG (bh (Iw (aK gLt (az dM (aa (aY 6) ao)) (aU (.int 2))) (aK gLe (az cu (aa (az fW (aa (aq 4) (aa (aq 5) (aa (DW (aq 6) (uJ (aU (.int 1))) (jV)) (ao))))) (ao))) (az cu (aa (aq 7) (ao)))))))))
noncomputable def aai:bQ:=cT (cz (cX (aK mJ (au cB 8 (aU (.int 0))) (aU (.str [116,111,108,100])))) (cX (au Vm 7 (aU .non)))) (bh (aU (.bl false))) (bI)
theorem U6:Z3=aC (dB 1 (az di (aa (aq 0) (aa (aU (.int 0)) (ao))))) (aC (aL (az fP (aa (cJ gF 1 (ao)) (ao))) (ak 2)) (aC (aL (cJ fU 1 (aa (aq 2) (aa (aU (.int 3)) (ao)))) (ak 3)) (aC (aL (aq 3) (cV 2 (aQ (ak 4) (aQ (ak 5) (dh))))) (aC (aL (az jE (aa (aq 0) (aa (aU (.int 2)) (aa (aq 3) (aa (aq 2) (aa (aU (.int 5)) (ao))))))) (ak 6)) (aC (aL (az fW (aa (aq 4) (aa (aq 5) (aa (aq 6) (ao))))) (ak 7)) (aC (aL (az lH (aa (aq 3) (aa (aq 6) (ao)))) (ak 8)) (aC aai (aC abI K1)))))))):=rfl
noncomputable def sz:Option (List Nat)→Int
 | none=>99
 | some r=>(r.length:Int)
theorem Mw(q:Option (List Nat)):cu [cY q]=some (.int (sz q)):=by
 rw[size]
 cases q<;>rfl
section
variable{x:List Nat}{s:D}{Rs:List D}(h:Ok x s Rs)(h3:Rs.length≤3){B:List Pr}(hB:Bk x B)
include h h3 hB
theorem W5(a0 a1 a2 a10 a11:Option (Bool×D))(X:D):∃b9,abI [a0,a1,a2,(some (false,.tup [s,.tup Rs])),(some (false,s)),(some (false,.tup Rs)),(some (false,bk B)),(some (false,cY (few (tells s Rs B) Rs.length))),(some (false,.tup [.str (if (perms Rs.length Rs.length).any (tells s Rs B)=true then [116,111,108,100] else [113,117,97,114,114,101,108]),X])),none,a10,a11] = .nx [a0,a1,a2,(some (false,.tup [s,.tup Rs])),(some (false,s)),(some (false,.tup Rs)),(some (false,bk B)),(some (false,cY (few (tells s Rs B) Rs.length))),(some (false,.tup [.str (if (perms Rs.length Rs.length).any (tells s Rs B)=true then [116,111,108,100] else [113,117,97,114,114,101,108]),X])),b9,a10,a11]:=by
 unfold abI
 cases hq:few (tells s Rs B) Rs.length with
 | none=>
  refine⟨none,?_⟩
  have g:pH (cY none) .non=some (.bl false):=rfl
  generalize cY none=NN at *
  generalize D.tup [.str (if (perms Rs.length Rs.length).any (tells s Rs B)=true then [116,111,108,100] else [113,117,97,114,114,101,108]),X]=TT at *
  generalize bk B=BB
  clear h h3 hB
  ac_rfl
 | some r=>
  obtain⟨_,q2,q3,q4,_⟩:=kI hq
  have hi:=((cj _ _ _).mp q2).2.2
  obtain⟨z,z1,z2⟩:=Uj hq
  have hP:=h.pick hi (by omega)
  have l1:=HJ s Rs r hi (by omega)
  have pl:(pick Rs r).length=r.length:=by unfold pick;rw[List.length_map]
  have l2:=fewest hP hB
  rw[pl,z1] at l2
  have l3:=Mw (some z)
  have e3:sz (some z)=(r.length:Int):=by show((z.length:Nat):Int)=_;rw[z2]
  rw[e3] at l3
  have g:pH (cY (some r)) .non=some (.bl true):=rfl
  have gl:dM [cY (some r)]=some (.int (r.length:Int)):=by
   show some (D.int ((r.map fun(k:Nat)=>D.int (k:Int)).length:Int))=_
   rw[List.length_map]
  have c1:∀a7 a8,wZ [a0,a1,a2,(some (false,.tup [s,.tup Rs])),(some (false,s)),(some (false,.tup Rs)),(some (false,bk B)),a7,a8,(some (false,.tup [s,.tup (pick Rs r)])),a10,a11] = .ok (dN (tell s (pick Rs r) B)) [a0,a1,a2,(some (false,.tup [s,.tup Rs])),(some (false,s)),(some (false,.tup Rs)),(some (false,bk B)),a7,a8,(some (false,.tup [s,.tup (pick Rs r)])),a10,a11]:=fun a7 a8=>by
   unfold wZ dN tell
   rw[List.map_map]
   generalize hO1:D.tup [s,.tup Rs]=O1 at *
   generalize hO2:D.tup [s,.tup (pick Rs r)]=O2 at *
   have:=vK (lo:=12) (n:=14) (it:=fG (aq 6)) (g:=cV 2 (aQ (ak 12) (aQ (ak 13) (dh)))) (c:=cD) (e:=aK mJ (az mZ (aa (aq 9) (aa (aq 12) (ao)))) (aY 13)) (env:=[a0,a1,a2,(some (false,O1)),(some (false,s)),(some (false,.tup Rs)),(some (false,bk B)),a7,a8,(some (false,O2)),a10,a11]) B encP (fun p=>[(some (false,.str p.1)),(some (false,.str p.2))]) (fun _=>true) (fun p=>.bl (fin s (pick Rs r) p.1 == p.2)) (by rfl) rfl (fun p hp=>by
    refine⟨rfl,fun vs hv=>?_,rfl,fun _=>?_⟩
    ·match vs,hv with
     | [_,_],_=>rfl
    ·obtain⟨w1,w2,w3⟩:=hB.rG p hp
     have hm:=made hP w1 w2
     rw[hO2] at hm
     generalize bk B=BB
     generalize fin s (pick Rs r) p.1=FF at *
     clear hO1 hO2 hp h hP hi l1 l2 l3 q3 q2 hq z1 hB
     ac_rfl) (Nat.le_trans hB.few (by decide))
   rw[List.filter_eq_self.mpr (fun _ _=>rfl)] at this
   exact this
  have ga:Bl [dN (tell s (pick Rs r) B)]=some (.bl true):=by
   have:=Ub id (tell s (pick Rs r) B)
   have e:tells s Rs B r=(tell s (pick Rs r) B).all id:=by unfold tells tell;rw[List.all_map];rfl
   rw[←e,q3] at this
   exact this
  have la:gb [.tup [s,.tup Rs],cY (some r)]=some (.tup [s,.tup (pick Rs r)]):=l1
  refine⟨(some (false,.tup [s,.tup (pick Rs r)])),?_⟩
  by_cases hn:r.length=Rs.length
  ·have hany:(perms Rs.length Rs.length).any (tells s Rs B)=true:=by
    rw[hn] at q2
    exact List.any_eq_true.mpr ⟨r,q2,q3⟩
   rw[hany,if_pos rfl]
   generalize dN (tell s (pick Rs r) B)=TT at *
   generalize hO1:D.tup [s,.tup Rs]=O1 at *
   generalize pick Rs r=PR at *
   generalize cY (some r)=RR at *
   generalize cY (some z)=RZ at *
   generalize bk B=BB at *
   generalize hrl:r.length=rl at *
   clear hP hi l1 h hB hq z1 q2 q3 hany hO1
   ac_rfl
  ·have hn2:((r.length:Int) == (Rs.length:Int))=false:=by rw[beq_eq_false_iff_ne];omega
   generalize dN (tell s (pick Rs r) B)=TT at *
   generalize D.tup [.str (if (perms Rs.length Rs.length).any (tells s Rs B)=true then [116,111,108,100] else [113,117,97,114,114,101,108]),X]=TL at *
   generalize hO1:D.tup [s,.tup Rs]=O1 at *
   generalize pick Rs r=PR at *
   generalize cY (some r)=RR at *
   generalize cY (some z)=RZ at *
   generalize bk B=BB at *
   generalize hrl:r.length=rl at *
   clear hP hi l1 h hB hq z1 q2 q3 hO1
   ac_rfl
end
open Ev PySem L2
open Ci (cF fin iI)
open uF (XS sides)
theorem YD{s:D}{Rs:List D}{B:List Pr}(h:Rs.length≤50):sz (few (tells s Rs B) Rs.length)≤99:=by
 cases e:few (tells s Rs B) Rs.length with
 | none=>exact Int.le_refl _
 | some r=>
  have:=(kI e).2.2.2.1
  show((r.length:Nat):Int)≤99
  omega
theorem le_if{Rs:List D}{g q:Option (List Nat)}(h:∀z,g=some z→Rs.length ∉ z→q=some z)(a0 a1 a2 a3 a4 a6 a8 a9 a10:Option (Bool×D)):abG [a0,a1,a2,a3,a4,(some (false,.tup Rs)),a6,(some (false,cY q)),a8,a9,a10,(some (false,cY g))] = .nx [a0,a1,a2,a3,a4,(some (false,.tup Rs)),a6,(some (false,cY q)),a8,a9,a10,(some (false,cY g))]:=by
 cases g with
 | none=>rfl
 | some z=>
  unfold abG
  have g:pH (cY (some z)) .non=some (.bl true):=rfl
  have gi:pG (.int (Rs.length:Int)) (cY (some z))=some (.bl (!decide (Rs.length∈z))):=oV Rs.length z
  by_cases hin:Rs.length∈z
  ·rw[decide_eq_true hin] at gi
   generalize cY (some z)=E3 at *
   generalize cY q=E1 at *
   clear hin h
   ac_rfl
  ·rw[decide_eq_false hin] at gi
   have gn:=ac0 (some z) q
   rw[h z rfl hin,beq_self_eq_true] at gn
   rw[h z rfl hin]
   generalize cY (some z)=E3 at *
   clear hin h
   ac_rfl
section
variable(ns:List Int)(hl:ns.length≤63)(hb:Ju ns){x:List Nat}{s:D}{Rs:List D}(h:Ok x s Rs)(h3:Rs.length≤3){B:List Pr}(hB:Bk x B)
include hl hb h h3 hB
theorem W6(a1 a3 a8 a9:Option (Bool×D)):∃e,K1 [(some (false,.arr (ns.map .int))),a1,(some (false,.str x)),a3,(some (false,s)),(some (false,.tup Rs)),(some (false,bk B)),(some (false,cY (few (tells s Rs B) Rs.length))),a8,a9,none,none] = .rt false (.bl true) e:=by
 obtain⟨p,hp⟩:=ni.pack ns hl hb 12 (by decide) (by decide)
 rw[←zG] at hp
 obtain⟨wy,ch,l,r,n',hr,hR⟩:=Vt.rule p x h.hx
 rw[←V6] at hr
 have hM:iI x (.tup [wy,ch,l,r]):=⟨wy,ch,l,r,rfl,hR⟩
 generalize D.tup [wy,ch,l,r]=M at *
 have hO:Ok x s (Rs++[M]):=⟨h.hx,h.hs,fun R hR=>by
  rcases List.mem_append.mp hR with hR|hR
  ·exact h.hR R hR
  ·rw[List.mem_singleton.mp hR];exact hM,by rw[List.length_append];show Rs.length+1≤5;omega⟩
 have f1:=fewest hO hB
 have el:(Rs++[M]).length=Rs.length+1:=by rw[List.length_append];rfl
 rw[el] at f1
 have s1:=Mw (few (tells s (Rs++[M]) B) (Rs.length+1))
 have s2:=Mw (few (tells s Rs B) Rs.length)
 have hgt:decide (sz (few (tells s Rs B) Rs.length)<sz (few (tells s (Rs++[M]) B) (Rs.length+1)))=false:=by
  rw[decide_eq_false_iff_not,Int.not_lt]
  cases e:few (tells s Rs B) Rs.length with
  | none=>
   have:=YD (s:=s) (Rs:=Rs++[M]) (B:=B) (by rw[el];omega)
   rw[el] at this
   exact this
  | some q=>
   obtain⟨g,e1,e2⟩:=Ir (M:=M) e
   rw[e1]
   show((g.length:Nat):Int)≤((q.length:Nat):Int)
   omega
 have hd:∃Q:Option (List Nat),(2≤B.length→cutD (B.map encP) (some 1) none=(B.drop 1).map encP∧fW [s,.tup Rs,.tup ((B.drop 1).map encP)]=some (cY Q)∧cu [cY Q]=some (.int (sz Q))∧decide (sz Q≤sz (few (tells s Rs B) Rs.length))=true):=by
  refine⟨few (tells s Rs (B.drop 1)) Rs.length,fun h2=>?_⟩
  have hB2:Bk x (B.drop 1):=⟨by rw[List.length_drop];have:=hB.few;omega,fun p hp=>hB.rG p (List.mem_of_mem_drop hp)⟩
  refine⟨?_,fewest h hB2,Mw _,?_⟩
  ·have:=Qp (B.map encP) 1
   rw[←List.map_drop] at this
   exact this
  ·rw[decide_eq_true_eq]
   cases e:few (tells s Rs B) Rs.length with
   | none=>exact YD (by omega)
   | some q=>
    cases B with
    | nil=>simp at h2
    | cons b B=>
     obtain⟨g,e1,e2⟩:=Uh e
     show sz (few (tells s Rs B) Rs.length)≤_
     rw[e1]
     show((g.length:Nat):Int)≤((q.length:Nat):Int)
     omega
 obtain⟨Q,hd⟩:=hd
 have hlb:dM [bk B]=some (.int (B.length:Int)):=by
  show some (D.int ((B.map encP).length:Int))=_
  rw[List.length_map]
 have hsum:Rs.length + [M].length≤sizeLine:=Nat.le_trans (show Rs.length+1≤4 by omega) (by decide)
 have hadd:bT (.tup Rs) (.tup [M])=some (.tup (Rs++[M])):=Ge hsum
 have aiM:∀b10 Vp,∃e,bh (Iw (aK gLt (az dM (aa (aY 6) ao)) (aU (.int 2))) (aK gLe (az cu (aa (az fW (aa (aq 4) (aa (aq 5) (aa (DW (aq 6) (uJ (aU (.int 1))) (jV)) (ao))))) (ao))) (az cu (aa (aq 7) (ao))))) [(some (false,.arr (ns.map .int))),a1,(some (false,.str x)),a3,(some (false,s)),(some (false,.tup Rs)),(some (false,bk B)),(some (false,cY (few (tells s Rs B) Rs.length))),a8,a9,b10,Vp] = .rt false (.bl true) e:=fun b10 Vp=>by
  refine⟨[(some (false,.arr (ns.map .int))),a1,(some (false,.str x)),a3,(some (false,s)),(some (false,.tup Rs)),(some (false,bk B)),(some (false,cY (few (tells s Rs B) Rs.length))),a8,a9,b10,Vp],?_⟩
  by_cases hb2:B.length<2
  ·have hlt:decide ((B.length:Int)<2)=true:=by rw[decide_eq_true_eq];omega
   generalize B.length=m at *
   generalize bk B=BB at *
   generalize cY (few (tells s Rs B) Rs.length)=E1 at *
   clear hd h hB hgt f1 s1 s2 hO hM hr hR hp hb hadd hsum
   ac_rfl
  ·obtain⟨d1,d2,d3,d4⟩:=hd (by omega)
   have hlt:decide ((B.length:Int)<2)=false:=by rw[decide_eq_false_iff_not];omega
   have eb:bk B = .tup (B.map encP):=rfl
   rw[eb] at hlb ⊢
   generalize hm:B.length=m at *
   generalize(B.drop 1).map encP=BD at *
   generalize B.map encP=BM at *
   generalize sz (few (tells s Rs B) Rs.length)=z1 at *
   generalize cY (few (tells s Rs B) Rs.length)=E1 at *
   generalize cY Q=E2 at *
   generalize sz Q=z2 at *
   clear hd h hB hgt f1 s1 hO hM hr hR hp hb hadd hsum eb hb2
   ac_rfl
 have hif:∀z,few (tells s (Rs++[M]) B) (Rs.length+1)=some z→Rs.length ∉ z→few (tells s Rs B) Rs.length=some z:=fun z hz hn=>Uo hz hn
 generalize few (tells s Rs B) Rs.length=q at *
 generalize few (tells s (Rs++[M]) B) (Rs.length+1)=g at *
 have i1:=le_if hif (some (false,.arr (ns.map .int))) a1 (some (false,.str x)) a3 (some (false,s)) (some (false,bk B)) a8 a9 (some (false,M))
 obtain⟨e,aiM⟩:=aiM (some (false,M)) (some (false,cY g))
 refine⟨e,?_⟩
 unfold K1
 generalize bh _=last at *
 generalize cY g=E3 at *
 generalize sz g=z3 at *
 generalize cY q=E1 at *
 generalize sz q=z1 at *
 generalize bk B=BB at *
 generalize Rs++[M]=RM at *
 clear hd h hB hO hM hR hb hsum el hlb hif
 generalize ns.map D.int=NN at *
 ac_rfl
end
theorem aeu{T:List Nat}{E1 X:D}(ek:(mJ (.str T) (.str [116,111,108,100])=some (.bl true)∧Vm E1 .non=some (.bl false))∨mJ (.str T) (.str [116,111,108,100])=some (.bl false))(a0 a1 a2 a3 a4 a5 a6 a9 a10 a11:Option (Bool×D)):aai [a0,a1,a2,a3,a4,a5,a6,(some (false,E1)),(some (false,.tup [.str T,X])),a9,a10,a11] = .nx [a0,a1,a2,a3,a4,a5,a6,(some (false,E1)),(some (false,.tup [.str T,X])),a9,a10,a11]:=by
 unfold aai
 rcases ek with ⟨k1,k2⟩|k1
 ·rw[Ua] at k1
  ac_rfl
 ·rw[Ua] at k1
  ac_rfl
theorem QX(ns:List Int)(hl:ns.length≤63)(hb:Ju ns):Iu [.arr (ns.map .int)]=some (.bl true):=by
 obtain⟨p,hp⟩:=ni.pack ns hl hb 0 (by decide) (by decide)
 rw[←zG] at hp
 obtain⟨x,rs,n0,hx,hst,hrs⟩:=ni.stock p
 have hsd:=ni.KY hx hrs
 rw[←Oq] at hsd
 rw[←Q5] at hst
 obtain⟨s,Rs,n1,ho,hs,hR,h3⟩:=Vt.order n0 x hx 3 (by decide)
 rw[←R7] at ho
 have hO:Ok x s Rs:=⟨hx,hs,hR,by omega⟩
 obtain⟨B,hbk,hB,_⟩:=book ns hl hb hO 2 (by decide) 5 (by decide) (by decide)
 have hf:=fewest hO hB
 obtain⟨X,ht⟩:=told_by hO hB
 obtain⟨b9,hm⟩:=W5 hO h3 hB (some (false,.arr (ns.map .int))) (some (true,.lst [.int n1])) (some (false,.str x)) none none X
 obtain⟨e,he⟩:=W6 ns hl hb hO h3 hB (some (true,.lst [.int n1])) (some (false,.tup [s,.tup Rs])) (some (false,.tup [.str (if (perms Rs.length Rs.length).any (tells s Rs B)=true then [116,111,108,100] else [113,117,97,114,114,101,108]),X])) b9
 replace ho:fU [.lst [.int n0],.str x,.int 3]=some (.tup [s,.tup Rs],.lst [.int n1]):=ho
 replace hbk:jE [.arr (ns.map .int),.int 2,.tup [s,.tup Rs],.str x,.int 5]=some (bk B):=hbk
 unfold Iu
 rw[U6]
 have ek:(mJ (.str (if (perms Rs.length Rs.length).any (tells s Rs B)=true then [116,111,108,100] else [113,117,97,114,114,101,108])) (.str [116,111,108,100])=some (.bl true)∧Vm (cY (few (tells s Rs B) Rs.length)) .non=some (.bl false))∨mJ (.str (if (perms Rs.length Rs.length).any (tells s Rs B)=true then [116,111,108,100] else [113,117,97,114,114,101,108])) (.str [116,111,108,100])=some (.bl false):=by
  cases ha:(perms Rs.length Rs.length).any (tells s Rs B) with
  | false=>exact .inr rfl
  | true=>
   refine .inl ⟨rfl,?_⟩
   obtain⟨r,hr,h2⟩:=List.any_eq_true.mp ha
   obtain⟨q,hq,_⟩:=Bq hr h2
   rw[hq]
   rfl
 have it:=aeu (X:=X) ek (some (false,.arr (ns.map .int))) (some (true,.lst [.int n1])) (some (false,.str x)) (some (false,.tup [s,.tup Rs])) (some (false,s)) (some (false,.tup Rs)) (some (false,bk B)) none none none
 generalize(if (perms Rs.length Rs.length).any (tells s Rs B)=true then [116,111,108,100] else [113,117,97,114,114,101,108])=TT at *
 generalize cY (few (tells s Rs B) Rs.length)=E1 at *
 generalize bk B=BB at *
 generalize ns.map D.int=NN at *
 clear hB hO hR hrs hx hs hb ek
 ac_rfl
end yR
end
namespace yR
open PySem PySem.Spec PyProof.Rows L2 Ev
theorem all_mk{P:Program}{w:World}{K:Fg}{h:Heap}{mg:Str→Option Value}{fa:Addr}(X:K.In h)(G:h.Ns mainGlobals mg)(hfa:mg "law" = some (.ref fa))
  {fx0:Addr} {al2 amj anh alH ajX ctx0:Value} {alS anG:Option Addr} {alq:Array (Option Value)}
  {fx1:Addr} {al1 ami ang alG ajW ctx1:Value} {alR anF:Option Addr} {alp:Array (Option Value)}
  {fx2:Addr} {al0 amh anf alF ajV anr:Value} {alQ anE:Option Addr} {alo:Array (Option Value)}
  {fx3:Addr} {alZ amg ane alE ajU anq:Value} {alP anD:Option Addr} {aln:Array (Option Value)}
  {fx4:Addr} {alY amf anc alD ajT anp:Value} {alO anC:Option Addr} {alm:Array (Option Value)}
  {fx5:Addr} {alX ame anb alC ajS ano:Value} {alN anB:Option Addr} {alk:Array (Option Value)}
  {fx6:Addr} {alW amd ana alB ajR anm:Value} {alM anA:Option Addr} {alj:Array (Option Value)}
  {fx7:Addr} {alV amc am9 alA ajQ anl:Value} {alL anz:Option Addr} {ali:Array (Option Value)}
  {fx8:Addr} {alU amb am8 alz ajP ank:Value} {alK anx:Option Addr} {alh:Array (Option Value)}
  {fx9:Addr} {alT ama am7 aly ajO anj:Value} {alJ anw:Option Addr} {alg:Array (Option Value)}
  {adI:Addr} {ahd ahR ajm af2 ZZ ajN:Value} {agE akt:Option Addr} {afb:Array (Option Value)}
  {adH:Addr} {ahc ahQ ajl af1 ZX ajM:Value} {agD aks:Option Addr} {afa:Array (Option Value)}
  {adG:Addr} {ahb ahP ajk af0 ZW ajL:Value} {agC akr:Option Addr} {ae9:Array (Option Value)}
  {adF:Addr} {aha ahO ajj afZ ZV ajK:Value} {agB akq:Option Addr} {ae8:Array (Option Value)}
  {adE:Addr} {ag9 ahN aji afY ZS ajJ:Value} {agA akp:Option Addr} {ae7:Array (Option Value)}
  {adD:Addr} {ag8 ahM ajh afX ZR ajI:Value} {agz ako:Option Addr} {ae6:Array (Option Value)}
  {adC:Addr} {ag7 ahL ajg afW ZQ ajH:Value} {agy akn:Option Addr} {ae5:Array (Option Value)}
  {adB:Addr} {ag6 ahK ajf afV ZP ajG:Value} {agx akm:Option Addr} {ae4:Array (Option Value)}
  {adA:Addr} {ag5 ahJ aje afU ZM ajF:Value} {agw akl:Option Addr} {ae3:Array (Option Value)}
  {adz:Addr} {ag4 ahI ajd afT ZL ajE:Value} {agv akk:Option Addr} {ae2:Array (Option Value)}
  {ady:Addr} {ag3 ahH ajc afS ZK ajD:Value} {agu akj:Option Addr} {ae1:Array (Option Value)}
  {adx:Addr} {ag2 ahG ajb afR ZJ ajC:Value} {agt aki:Option Addr} {ae0:Array (Option Value)}
  {adw:Addr} {ag1 ahF aja afQ ZG ajB:Value} {ags akh:Option Addr} {aeZ:Array (Option Value)}
  {adv:Addr} {ag0 ahE ai9 afP ZF ajA:Value} {agr akg:Option Addr} {aeY:Array (Option Value)}
  {adu:Addr} {agZ ahD ai8 afO ZD ajz:Value} {agq akf:Option Addr} {aeX:Array (Option Value)}
  {adt:Addr} {agY ahC ai7 afN ZC ajy:Value} {agp ake:Option Addr} {aeW:Array (Option Value)}
  {adq:Addr} {agX ahB ai6 afM Zz ajx:Value} {ago akd:Option Addr} {aeV:Array (Option Value)}
  {adp:Addr} {agW ahA ai5 afL Zy ajw:Value} {agn akc:Option Addr} {aeU:Array (Option Value)}
  {ado:Addr} {agV ahz ai4 afK Zx ajv:Value} {agm akb:Option Addr} {aeT:Array (Option Value)}
  {adn:Addr} {agU ahy ai3 afJ Zw aju:Value} {agl aka:Option Addr} {aeS:Array (Option Value)}
  {adm:Addr} {agT ahx ai2 afI Zv ajt:Value} {agk aj9:Option Addr} {aeR:Array (Option Value)}
  {adl:Addr} {agS ahw ai1 afH Zu ajs:Value} {agj aj8:Option Addr} {aeQ:Array (Option Value)}
  {adk:Addr} {agR ahv ai0 afG Zt ajr:Value} {agi aj7:Option Addr} {aeP:Array (Option Value)}
  {adi:Addr} {agQ ahu aiZ afF Zr ajq:Value} {agh aj6:Option Addr} {aeO:Array (Option Value)}
  {adh:Addr} {agP aht aiY afE Zq ajp:Value} {agg aj5:Option Addr} {aeN:Array (Option Value)}
  {adg:Addr} {agO ahs aiX afD Zo ajo:Value} {agf aj4:Option Addr} {aeM:Array (Option Value)}
  {adf:Addr} {agN ahr aiW afC Zn ajn:Value} {age aj3:Option Addr} {aeL:Array (Option Value)}
  {ade:Addr} {agM Y7 Zk YM UJ Zm:Value} {agd Z5:Option Addr} {aeK:Array (Option Value)}
  {aao:Tok}
  (Ml:PySem.W.nsIn K mainGlobals "fits" = some (some (.ref fx0)))
  (K6:K.lookup fx0=some ⟨al2,alS,.func (PySem.W.fnOf "fits" "fits" (bF xU) (bw xU) (aD xU) .none amj anh alH anG ajX ctx0),alq⟩)
  (Ma:PySem.W.codeIn K ajX "fits" = true)
  (K9:PySem.W.keepIn K (.ref fx0)=true)
  (BX:PySem.W.nsIn K mainGlobals "turned" = some (some (.ref fx1)))
  (Be:K.lookup fx1=some ⟨al1,alR,.func (PySem.W.fnOf "turned" "turned" (bF p7) (bw p7) (aD p7) .none ami ang alG anF ajW ctx1),alp⟩)
  (BK:PySem.W.codeIn K ajW "turned" = true)
  (Bh:PySem.W.keepIn K (.ref fx1)=true)
  (yO:PySem.W.nsIn K mainGlobals "puts_in" = some (some (.ref fx2)))
  (yq:K.lookup fx2=some ⟨al0,alQ,.func (PySem.W.fnOf "puts_in" "puts_in" (bF nG) (bw nG) (aD nG) .none amh anf alF anE ajV anr),alo⟩)
  (yK:PySem.W.codeIn K ajV "puts_in" = true)
  (yw:PySem.W.keepIn K (.ref fx2)=true)
  (pO:PySem.W.nsIn K mainGlobals "with_put_in" = some (some (.ref fx3)))
  (pg:K.lookup fx3=some ⟨alZ,alP,.func (PySem.W.fnOf "with_put_in" "with_put_in" (bF ir) (bw ir) (aD ir) .none amg ane alE anD ajU anq),aln⟩)
  (pI:PySem.W.codeIn K ajU "with_put_in" = true)
  (pB:PySem.W.keepIn K (.ref fx3)=true)
  (oJ:PySem.W.nsIn K mainGlobals "with_changes" = some (some (.ref fx4)))
  (n6:K.lookup fx4=some ⟨alY,alO,.func (PySem.W.fnOf "with_changes" "with_changes" (bF gD) (bw gD) (aD gD) .none amf anc alD anC ajT anp),alm⟩)
  (oF:PySem.W.codeIn K ajT "with_changes" = true)
  (n8:PySem.W.keepIn K (.ref fx4)=true)
  (uv:PySem.W.nsIn K mainGlobals "from_left" = some (some (.ref fx5)))
  (tD:K.lookup fx5=some ⟨alX,alN,.func (PySem.W.fnOf "from_left" "from_left" (bF jM) (bw jM) (aD jM) .none ame anb alC anB ajS ano),alk⟩)
  (uh:PySem.W.codeIn K ajS "from_left" = true)
  (tO:PySem.W.keepIn K (.ref fx5)=true)
  (yP:PySem.W.nsIn K mainGlobals "changed" = some (some (.ref fx6)))
  (yr:K.lookup fx6=some ⟨alW,alM,.func (PySem.W.fnOf "changed" "changed" (bF nH) (bw nH) (aD nH) .none amd ana alB anA ajR anm),alj⟩)
  (yL:PySem.W.codeIn K ajR "changed" = true)
  (yx:PySem.W.keepIn K (.ref fx6)=true)
  (Mh:PySem.W.nsIn K mainGlobals "walk" = some (some (.ref fx7)))
  (K3:K.lookup fx7=some ⟨alV,alL,.func (PySem.W.fnOf "walk" "walk" (bF xQ) (bw xQ) (aD xQ) .none amc am9 alA anz ajQ anl),ali⟩)
  (LK:PySem.W.codeIn K ajQ "walk" = true)
  (K7:PySem.W.keepIn K (.ref fx7)=true)
  (Mi:PySem.W.nsIn K mainGlobals "made" = some (some (.ref fx8)))
  (K4:K.lookup fx8=some ⟨alU,alK,.func (PySem.W.fnOf "made" "made" (bF xR) (bw xR) (aD xR) .none amb am8 alz anx ajP ank),alh⟩)
  (LQ:PySem.W.codeIn K ajP "made" = true)
  (k_made:PySem.W.keepIn K (.ref fx8)=true)
  (m9:PySem.W.nsIn K mainGlobals "all_orderings" = some (some (.ref fx9)))
  (mW:K.lookup fx9=some ⟨alT,alJ,.func (PySem.W.fnOf "all_orderings" "all_orderings" (bF fK) (bw fK) (aD fK) .none ama am7 aly anw ajO anj),alg⟩)
  (m6:PySem.W.codeIn K ajO "all_orderings" = true)
  (mY:PySem.W.keepIn K (.ref fx9)=true)
  (Mj:PySem.W.nsIn K mainGlobals "laid" = some (some (.ref adI)))
  (K5:K.lookup adI=some ⟨ahd,agE,.func (PySem.W.fnOf "laid" "laid" (bF xT) (bw xT) (aD xT) .none ahR ajm af2 akt ZZ ajN),afb⟩)
  (LR:PySem.W.codeIn K ZZ "laid" = true)
  (K8:PySem.W.keepIn K (.ref adI)=true)
  (rn:PySem.W.nsIn K mainGlobals "pairs_told" = some (some (.ref adH)))
  (qG:K.lookup adH=some ⟨ahc,agD,.func (PySem.W.fnOf "pairs_told" "pairs_told" (bF jb) (bw jb) (aD jb) .none ahQ ajl af1 aks ZX ajM),afa⟩)
  (qR:PySem.W.codeIn K ZX "pairs_told" = true)
  (qL:PySem.W.keepIn K (.ref adH)=true)
  (rC:PySem.W.nsIn K mainGlobals "is_quarrel" = some (some (.ref adG)))
  (qK:K.lookup adG=some ⟨ahb,agC,.func (PySem.W.fnOf "is_quarrel" "is_quarrel" (bF jf) (bw jf) (aD jf) .none ahP ajk af0 akr ZW ajL),ae9⟩)
  (qX:PySem.W.codeIn K ZW "is_quarrel" = true)
  (qP:PySem.W.keepIn K (.ref adG)=true)
  (yN:PySem.W.nsIn K mainGlobals "quarrel" = some (some (.ref adF)))
  (yp:K.lookup adF=some ⟨aha,agB,.func (PySem.W.fnOf "quarrel" "quarrel" (bF nD) (bw nD) (aD nD) .none ahO ajj afZ akq ZV ajK),ae8⟩)
  (yJ:PySem.W.codeIn K ZV "quarrel" = true)
  (yu:PySem.W.keepIn K (.ref adF)=true)
  (yM:PySem.W.nsIn K mainGlobals "told_by" = some (some (.ref adE)))
  (yo:K.lookup adE=some ⟨ag9,agA,.func (PySem.W.fnOf "told_by" "told_by" (bF nC) (bw nC) (aD nC) .none ahN aji afY akp ZS ajJ),ae7⟩)
  (yH:PySem.W.codeIn K ZS "told_by" = true)
  (yt:PySem.W.keepIn K (.ref adE)=true)
  (BZ:PySem.W.nsIn K mainGlobals "fewest" = some (some (.ref adD)))
  (Bf:K.lookup adD=some ⟨ag8,agz,.func (PySem.W.fnOf "fewest" "fewest" (bF qb) (bw qb) (aD qb) .none ahM ajh afX ako ZR ajI),ae6⟩)
  (BL:PySem.W.codeIn K ZR "fewest" = true)
  (Bj:PySem.W.keepIn K (.ref adD)=true)
  (ur:PySem.W.nsIn K mainGlobals "_law_mixed" = some (some (.ref adC)))
  (tu:K.lookup adC=some ⟨ag7,agy,.func (PySem.W.fnOf "_law_mixed" "_law_mixed" (bF jL) (bw jL) (aD jL) .none ahL ajg afW akn ZQ ajH),ae5⟩)
  (ug:PySem.W.codeIn K ZQ "_law_mixed" = true)
  (tM:PySem.W.keepIn K (.ref adC)=true)
  (wu:PySem.W.nsIn K mainGlobals "_law_pack" = some (some (.ref adB)))
  (uZ:K.lookup adB=some ⟨ag6,agx,.func (PySem.W.fnOf "_law_pack" "_law_pack" (bF lB) (bw lB) (aD lB) .none ahK ajf afV akm ZP ajG),ae4⟩)
  (vV:PySem.W.codeIn K ZP "_law_pack" = true)
  (vz:PySem.W.keepIn K (.ref adB)=true)
  (wg:PySem.W.nsIn K mainGlobals "_law_take" = some (some (.ref adA)))
  (uW:K.lookup adA=some ⟨ag5,agw,.func (PySem.W.fnOf "_law_take" "_law_take" (bF lr) (bw lr) (aD lr) .none ahJ aje afU akl ZM ajF),ae3⟩)
  (vQ:PySem.W.codeIn K ZM "_law_take" = true)
  (vo:PySem.W.keepIn K (.ref adA)=true)
  (um:PySem.W.nsIn K mainGlobals "_law_stock" = some (some (.ref adz)))
  (sX:K.lookup adz=some ⟨ag4,agv,.func (PySem.W.fnOf "_law_stock" "_law_stock" (bF jH) (bw jH) (aD jH) .none ahI ajd afT akk ZL ajE),ae2⟩)
  (t6:PySem.W.codeIn K ZL "_law_stock" = true)
  (tH:PySem.W.keepIn K (.ref adz)=true)
  (rA:PySem.W.nsIn K mainGlobals "_law_sounds" = some (some (.ref ady)))
  (qI:K.lookup ady=some ⟨ag3,agu,.func (PySem.W.fnOf "_law_sounds" "_law_sounds" (bF jd) (bw jd) (aD jd) .none ahH ajc afS akj ZK ajD),ae1⟩)
  (qU:PySem.W.codeIn K ZK "_law_sounds" = true)
  (qN:PySem.W.keepIn K (.ref ady)=true)
  (uo:PySem.W.nsIn K mainGlobals "_law_signs" = some (some (.ref adx)))
  (sY:K.lookup adx=some ⟨ag2,agt,.func (PySem.W.fnOf "_law_signs" "_law_signs" (bF jJ) (bw jJ) (aD jJ) .none ahG ajb afR aki ZJ ajC),ae0⟩)
  (ue:PySem.W.codeIn K ZJ "_law_signs" = true)
  (tK:PySem.W.keepIn K (.ref adx)=true)
  (pP:PySem.W.nsIn K mainGlobals "_law_changes" = some (some (.ref adw)))
  (ph:K.lookup adw=some ⟨ag1,ags,.func (PySem.W.fnOf "_law_changes" "_law_changes" (bF iu) (bw iu) (aD iu) .none ahF aja afQ akh ZG ajB),aeZ⟩)
  (pJ:PySem.W.codeIn K ZG "_law_changes" = true)
  (pC:PySem.W.keepIn K (.ref adw)=true)
  (wk:PySem.W.nsIn K mainGlobals "_law_rule" = some (some (.ref adv)))
  (uY:K.lookup adv=some ⟨ag0,agr,.func (PySem.W.fnOf "_law_rule" "_law_rule" (bF lA) (bw lA) (aD lA) .none ahE ai9 afP akg ZF ajA),aeY⟩)
  (vU:PySem.W.codeIn K ZF "_law_rule" = true)
  (vq:PySem.W.keepIn K (.ref adv)=true)
  (uq:PySem.W.nsIn K mainGlobals "_law_order" = some (some (.ref adu)))
  (sZ:K.lookup adu=some ⟨agZ,agq,.func (PySem.W.fnOf "_law_order" "_law_order" (bF jK) (bw jK) (aD jK) .none ahD ai8 afO akf ZD ajz),aeX⟩)
  (uf:PySem.W.codeIn K ZD "_law_order" = true)
  (tL:PySem.W.keepIn K (.ref adu)=true)
  (v8:PySem.W.nsIn K mainGlobals "_law_word" = some (some (.ref adt)))
  (uU:K.lookup adt=some ⟨agY,agp,.func (PySem.W.fnOf "_law_word" "_law_word" (bF lg) (bw lg) (aD lg) .none ahC ai7 afN ake ZC ajy),aeW⟩)
  (vO:PySem.W.codeIn K ZC "_law_word" = true)
  (vh:PySem.W.keepIn K (.ref adt)=true)
  (wC:PySem.W.nsIn K mainGlobals "_law_fits" = some (some (.ref adq)))
  (vf:K.lookup adq=some ⟨agX,ago,.func (PySem.W.fnOf "_law_fits" "_law_fits" (bF lE) (bw lE) (aD lE) .none ahB ai6 afM akd Zz ajx),aeV⟩)
  (vY:PySem.W.codeIn K Zz "_law_fits" = true)
  (vC:PySem.W.keepIn K (.ref adq)=true)
  (rB:PySem.W.nsIn K mainGlobals "_law_put_in" = some (some (.ref adp)))
  (qJ:K.lookup adp=some ⟨agW,agn,.func (PySem.W.fnOf "_law_put_in" "_law_put_in" (bF je) (bw je) (aD je) .none ahA ai5 afL akc Zy ajw),aeU⟩)
  (qW:PySem.W.codeIn K Zy "_law_put_in" = true)
  (qO:PySem.W.keepIn K (.ref adp)=true)
  (pQ:PySem.W.nsIn K mainGlobals "_law_changed" = some (some (.ref ado)))
  (pq:K.lookup ado=some ⟨agV,agm,.func (PySem.W.fnOf "_law_changed" "_law_changed" (bF iw) (bw iw) (aD iw) .none ahz ai4 afK akb Zx ajv),aeT⟩)
  (pK:PySem.W.codeIn K Zx "_law_changed" = true)
  (pD:PySem.W.keepIn K (.ref ado)=true)
  (rz:PySem.W.nsIn K mainGlobals "_law_turned" = some (some (.ref adn)))
  (qH:K.lookup adn=some ⟨agU,agl,.func (PySem.W.fnOf "_law_turned" "_law_turned" (bF jc) (bw jc) (aD jc) .none ahy ai3 afJ aka Zw aju),aeS⟩)
  (qT:PySem.W.codeIn K Zw "_law_turned" = true)
  (qM:PySem.W.keepIn K (.ref adn)=true)
  (pR:PySem.W.nsIn K mainGlobals "_law_by_side" = some (some (.ref adm)))
  (pA:K.lookup adm=some ⟨agT,agk,.func (PySem.W.fnOf "_law_by_side" "_law_by_side" (bF iy) (bw iy) (aD iy) .none ahx ai2 afI aj9 Zv ajt),aeR⟩)
  (pL:PySem.W.codeIn K Zv "_law_by_side" = true)
  (pF:PySem.W.keepIn K (.ref adm)=true)
  (v9:PySem.W.nsIn K mainGlobals "_law_walk" = some (some (.ref adl)))
  (uV:K.lookup adl=some ⟨agS,agj,.func (PySem.W.fnOf "_law_walk" "_law_walk" (bF lq) (bw lq) (aD lq) .none ahw ai1 afH aj8 Zu ajs),aeQ⟩)
  (vP:PySem.W.codeIn K Zu "_law_walk" = true)
  (vm:PySem.W.keepIn K (.ref adl)=true)
  (wA:PySem.W.nsIn K mainGlobals "_law_made" = some (some (.ref adk)))
  (u0:K.lookup adk=some ⟨agR,agi,.func (PySem.W.fnOf "_law_made" "_law_made" (bF lC) (bw lC) (aD lC) .none ahv ai0 afG aj7 Zt ajr),aeP⟩)
  (vW:PySem.W.codeIn K Zt "_law_made" = true)
  (vA:PySem.W.keepIn K (.ref adk)=true)
  (m8:PySem.W.nsIn K mainGlobals "_law_orderings" = some (some (.ref adi)))
  (mV:K.lookup adi=some ⟨agQ,agh,.func (PySem.W.fnOf "_law_orderings" "_law_orderings" (bF fJ) (bw fJ) (aD fJ) .none ahu aiZ afF aj6 Zr ajq),aeO⟩)
  (m5:PySem.W.codeIn K Zr "_law_orderings" = true)
  (mX:PySem.W.keepIn K (.ref adi)=true)
  (wB:PySem.W.nsIn K mainGlobals "_law_laid" = some (some (.ref adh)))
  (vd:K.lookup adh=some ⟨agP,agg,.func (PySem.W.fnOf "_law_laid" "_law_laid" (bF lD) (bw lD) (aD lD) .none aht aiY afE aj5 Zq ajp),aeN⟩)
  (vX:PySem.W.codeIn K Zq "_law_laid" = true)
  (vB:PySem.W.keepIn K (.ref adh)=true)
  (wD:PySem.W.nsIn K mainGlobals "_law_book" = some (some (.ref adg)))
  (vg:K.lookup adg=some ⟨agO,agf,.func (PySem.W.fnOf "_law_book" "_law_book" (bF lF) (bw lF) (aD lF) .none ahs aiX afD aj4 Zo ajo),aeM⟩)
  (vZ:PySem.W.codeIn K Zo "_law_book" = true)
  (vD:PySem.W.keepIn K (.ref adg)=true)
  (wj:PySem.W.nsIn K mainGlobals "_law_size" = some (some (.ref adf)))
  (uX:K.lookup adf=some ⟨agN,age,.func (PySem.W.fnOf "_law_size" "_law_size" (bF lz) (bw lz) (aD lz) .none ahr aiW afC aj3 Zn ajn),aeL⟩)
  (vR:PySem.W.codeIn K Zn "_law_size" = true)
  (vp:PySem.W.keepIn K (.ref adf)=true)
  (Vb:PySem.W.nsIn K mainGlobals "law" = some (some (.ref ade)))
  (S7:K.lookup ade=some ⟨agM,agd,.func (PySem.W.fnOf "law" "law" (bF wV) (bw wV) (aD wV) .none Y7 Zk YM Z5 UJ Zm),aeK⟩)
  (U0:PySem.W.codeIn K UJ "law" = true)
  (Tc:PySem.W.keepIn K (.ref ade)=true)
  (QJ:PySem.W.nsIn K mainGlobals "all" = some none)
  (QH:PySem.W.nsIn K mainGlobals "any" = some none)
  (JB:PySem.W.nsIn K mainGlobals "dict" = some none)
  (zT:PySem.W.nsIn K mainGlobals "divmod" = some none)
  (rO:PySem.W.nsIn K mainGlobals "enumerate" = some none)
  (QG:PySem.W.nsIn K mainGlobals "len" = some none)
  (Jz:PySem.W.nsIn K mainGlobals "list" = some none)
  (Ek:PySem.W.nsIn K mainGlobals "range" = some none)
  (zQ:PySem.W.nsIn K mainGlobals "sorted" = some none)
  (Ej:PySem.W.nsIn K mainGlobals "tuple" = some none)
  (QF:PySem.W.nsIn K mainGlobals "zip" = some none)
  (Lj:PySem.W.nsIn K mainGlobals "EDGE" = some (some (.str "#" aao))) :
  ∃fd:FuncData,(∀(s:Shared) (v:Value),BindsTo s fd ⟨[v],[]⟩ [("_law_script",v)])∧∀base:Heap,K.In base→base.Ns mainGlobals mg→rF P w K mg base GD 9 fa fd ["_law_script"] (iJ K 1 Iu):=by
 have e:=hfa.symm.trans (PySem.W.mg_of X G Vb)
 cases e
 have qz:=Aw X G QJ
 have Kw:=Aw X G QH
 have uC:=Aw X G JB
 have yd:=Aw X G zT
 have jh:=Aw X G rO
 have cA:=Aw X G QG
 have uB:=Aw X G Jz
 have bH:=Aw X G Ek
 have nJ:=Aw X G zQ
 have bL:=Aw X G Ej
 have Kv:=Aw X G QF
 have dO:Glb K mg "EDGE" (.str [35]):=Xw X G Lj (by decide +kernel) (by decide)
 refine⟨PySem.W.fnOf "law" "law" (bF wV) (bw wV) (aD wV) .none Y7 Zk YM Z5 UJ Zm,fun s v=>.of_eq rfl,fun base _ _=>?_⟩
 have aan:bD K mg "fits" xU ["signs","sign"]:=funAt X G Ml K6 Ma K9 (fun _ _ _ _ _ _ us hl=>match us,hl with|[_,_],_=>rfl)
 have o7:=o7 (P:=P) (w:=w) (base:=base) aan
 have QZ:bD K mg "turned" p7 ["rule"]:=funAt X G BX Be BK Bh (fun _ _ _ _ _ _ us hl=>match us,hl with|[_],_=>rfl)
 have sr:=sr (P:=P) (w:=w) (base:=base) QZ
 have Oj:bD K mg "puts_in" nG ["rule"]:=funAt X G yO yq yK yw (fun _ _ _ _ _ _ us hl=>match us,hl with|[_],_=>rfl)
 have qg:=qg (P:=P) (w:=w) (base:=base) Oj
 have Cj:bD K mg "with_put_in" ir ["rule","word"]:=funAt X G pO pg pI pB (fun _ _ _ _ _ _ us hl=>match us,hl with|[_,_],_=>rfl)
 have ju:=ju (P:=P) (w:=w) (base:=base) Cj dO o7
 have z7:bD K mg "with_changes" gD ["rule","word"]:=funAt X G oJ n6 oF n8 (fun _ _ _ _ _ _ us hl=>match us,hl with|[_,_],_=>rfl)
 have iQ:=iQ (P:=P) (w:=w) (base:=base) z7 uC jh dO o7
 have G4:bD K mg "from_left" jM ["rule","word"]:=funAt X G uv tD uh tO (fun _ _ _ _ _ _ us hl=>match us,hl with|[_,_],_=>rfl)
 have jO:=jO (P:=P) (w:=w) (base:=base) G4 qg iQ ju
 have Ol:bD K mg "changed" nH ["side","rule","word"]:=funAt X G yP yr yL yx (fun _ _ _ _ _ _ us hl=>match us,hl with|[_,_,_],_=>rfl)
 have jP:=jP (P:=P) (w:=w) (base:=base) Ol jO sr
 have aak:bD K mg "walk" xQ ["order","word"]:=funAt X G Mh K3 LK K7 (fun _ _ _ _ _ _ us hl=>match us,hl with|[_,_],_=>rfl)
 have Ar:=Ar (P:=P) (w:=w) (base:=base) aak bL jP
 have aal:bD K mg "made" xR ["order","word"]:=funAt X G Mi K4 LQ k_made (fun _ _ _ _ _ _ us hl=>match us,hl with|[_,_],_=>rfl)
 have su:=su (P:=P) (w:=w) (base:=base) aal Ar
 have zj:bD K mg "all_orderings" fK ["many"]:=funAt X G m9 mW m6 mY (fun _ _ _ _ _ _ us hl=>match us,hl with|[_],_=>rfl)
 have gY:=gY (P:=P) (w:=w) (base:=base) zj bH
 have aam:bD K mg "laid" xT ["order","ordering"]:=funAt X G Mj K5 LR K8 (fun _ _ _ _ _ _ us hl=>match us,hl with|[_,_],_=>rfl)
 have Av:=Av (P:=P) (w:=w) (base:=base) aam bL
 have Eo:bD K mg "pairs_told" jb ["order","book"]:=funAt X G rn qG qR qL (fun _ _ _ _ _ _ us hl=>match us,hl with|[_,_],_=>rfl)
 have j8:=j8 (P:=P) (w:=w) (base:=base) Eo su
 have Et:bD K mg "is_quarrel" jf ["tellings","numbers"]:=funAt X G rC qK qX qP (fun _ _ _ _ _ _ us hl=>match us,hl with|[_,_],_=>rfl)
 have km:=km (P:=P) (w:=w) (base:=base) Et qz Kw
 have Oi:bD K mg "quarrel" nD ["tellings","many"]:=funAt X G yN yp yJ yu (fun _ _ _ _ _ _ us hl=>match us,hl with|[_,_],_=>rfl)
 have qe:=qe (P:=P) (w:=w) (base:=base) Oi uB bH bL km
 have Oh:bD K mg "told_by" nC ["order","book"]:=funAt X G yM yo yH yt (fun _ _ _ _ _ _ us hl=>match us,hl with|[_,_],_=>rfl)
 have qd:=qd (P:=P) (w:=w) (base:=base) Oh qz cA bL Kv gY Av j8 qe
 have Q0:bD K mg "fewest" qb ["side","rules","book"]:=funAt X G BZ Bf BL Bj (fun _ _ _ _ _ _ us hl=>match us,hl with|[_,_,_],_=>rfl)
 have mH:=mH (P:=P) (w:=w) (base:=base) Q0 jh jP
 have G3:bD K mg "_law_mixed" jL ["_law_cell"]:=funAt X G ur tu ug tM (fun _ _ _ _ _ _ us hl=>match us,hl with|[_],_=>rfl)
 have mG:=mG (P:=P) (w:=w) (base:=base) G3
 have JW:bD K mg "_law_pack" lB ["_law_script","_law_k"]:=funAt X G wu uZ vV vz (fun _ _ _ _ _ _ us hl=>match us,hl with|[_,_],_=>rfl)
 have fX:=fX (P:=P) (w:=w) (base:=base) JW mG
 have JS:bD K mg "_law_take" lr ["_law_pack_here","_law_size_here"]:=funAt X G wg uW vQ vo (fun _ _ _ _ _ _ us hl=>match us,hl with|[_,_],_=>rfl)
 have aX:=aX (P:=P) (w:=w) (base:=base) JS yd
 have GR:bD K mg "_law_stock" jH ["_law_pack_here"]:=funAt X G um sX t6 tH (fun _ _ _ _ _ _ us hl=>match us,hl with|[_],_=>rfl)
 have mD:=mD (P:=P) (w:=w) (base:=base) GR bH nJ bL aX
 have Er:bD K mg "_law_sounds" jd ["_law_stock_here"]:=funAt X G rA qI qU qN (fun _ _ _ _ _ _ us hl=>match us,hl with|[_],_=>rfl)
 have kh:=kh (P:=P) (w:=w) (base:=base) Er
 have GX:bD K mg "_law_signs" jJ ["_law_pack_here","_law_sounds_here"]:=funAt X G uo sY ue tK (fun _ _ _ _ _ _ us hl=>match us,hl with|[_,_],_=>rfl)
 have jN:=jN (P:=P) (w:=w) (base:=base) GX cA bH bL aX
 have Ck:bD K mg "_law_changes" iu ["_law_pack_here","_law_sounds_here"]:=funAt X G pP ph pJ pC (fun _ _ _ _ _ _ us hl=>match us,hl with|[_,_],_=>rfl)
 have jw:=jw (P:=P) (w:=w) (base:=base) Ck cA uB bH nJ bL aX
 have JV:bD K mg "_law_rule" lA ["_law_pack_here","_law_sounds_here"]:=funAt X G wk uY vU vq (fun _ _ _ _ _ _ us hl=>match us,hl with|[_,_],_=>rfl)
 have iR:=iR (P:=P) (w:=w) (base:=base) JV jw jN aX
 have GZ:bD K mg "_law_order" jK ["_law_pack_here","_law_sounds_here","_law_most"]:=funAt X G uq sZ uf tL (fun _ _ _ _ _ _ us hl=>match us,hl with|[_,_,_],_=>rfl)
 have mF:=mF (P:=P) (w:=w) (base:=base) GZ bH bL iR aX
 have JQ:bD K mg "_law_word" lg ["_law_pack_here","_law_sounds_here","_law_most"]:=funAt X G v8 uU vO vh (fun _ _ _ _ _ _ us hl=>match us,hl with|[_,_,_],_=>rfl)
 have nU:=nU (P:=P) (w:=w) (base:=base) JQ cA bH aX
 have J0:bD K mg "_law_fits" lE ["_law_signs_here","_law_sign"]:=funAt X G wC vf vY vC (fun _ _ _ _ _ _ us hl=>match us,hl with|[_,_],_=>rfl)
 have fY:=fY (P:=P) (w:=w) (base:=base) J0
 have Es:bD K mg "_law_put_in" je ["_law_rule_here","_law_word_here"]:=funAt X G rB qJ qW qO (fun _ _ _ _ _ _ us hl=>match us,hl with|[_,_],_=>rfl)
 have kj:=kj (P:=P) (w:=w) (base:=base) Es cA bH fY
 have Cp:bD K mg "_law_changed" iw ["_law_rule_here","_law_word_here"]:=funAt X G pQ pq pK pD (fun _ _ _ _ _ _ us hl=>match us,hl with|[_,_],_=>rfl)
 have iz:=iz (P:=P) (w:=w) (base:=base) Cp uC cA bH fY kj
 have Ep:bD K mg "_law_turned" jc ["_law_rule_here"]:=funAt X G rz qH qT qM (fun _ _ _ _ _ _ us hl=>match us,hl with|[_],_=>rfl)
 have j9:=j9 (P:=P) (w:=w) (base:=base) Ep
 have Cq:bD K mg "_law_by_side" iy ["_law_side","_law_rule_here","_law_word_here"]:=funAt X G pR pA pL pF (fun _ _ _ _ _ _ us hl=>match us,hl with|[_,_,_],_=>rfl)
 have jx:=jx (P:=P) (w:=w) (base:=base) Cq iz j9
 have JR:bD K mg "_law_walk" lq ["_law_order_here","_law_word_here"]:=funAt X G v9 uV vP vm (fun _ _ _ _ _ _ us hl=>match us,hl with|[_,_],_=>rfl)
 have nW:=nW (P:=P) (w:=w) (base:=base) JR bL jx
 have JX:bD K mg "_law_made" lC ["_law_order_here","_law_word_here"]:=funAt X G wA u0 vW vA (fun _ _ _ _ _ _ us hl=>match us,hl with|[_,_],_=>rfl)
 have nY:=nY (P:=P) (w:=w) (base:=base) JX nW
 have zg:bD K mg "_law_orderings" fJ ["_law_many"]:=funAt X G m8 mV m5 mX (fun _ _ _ _ _ _ us hl=>match us,hl with|[_],_=>rfl)
 have gW:=gW (P:=P) (w:=w) (base:=base) zg bH
 have JZ:bD K mg "_law_laid" lD ["_law_order_here","_law_ordering"]:=funAt X G wB vd vX vB (fun _ _ _ _ _ _ us hl=>match us,hl with|[_,_],_=>rfl)
 have iU:=iU (P:=P) (w:=w) (base:=base) JZ bL
 have J1:bD K mg "_law_book" lF ["_law_script","_law_k","_law_order_here","_law_sounds_here","_law_amount"]:=funAt X G wD vg vZ vD (fun _ _ _ _ _ _ us hl=>match us,hl with|[_,_,_,_,_],_=>rfl)
 have nZ:=nZ (P:=P) (w:=w) (base:=base) J1 cA bH bL iU nY gW fX aX nU
 have JT:bD K mg "_law_size" lz ["_law_row"]:=funAt X G wj uX vR vp (fun _ _ _ _ _ _ us hl=>match us,hl with|[_],_=>rfl)
 have gK:=gK (P:=P) (w:=w) (base:=base) JT cA
 exact adL (Ln (st:=wV) S7 U0 Tc) qz cA nZ iU mF fX iR gK kh mD mH su qd
end yR
theorem PySem.W.Fast.tw14882971825077907592:True:=trivial
theorem PySem.W.Fast.tw3926705799730913289:True:=trivial
theorem PySem.W.Fast.tw17785805739974151117:True:=trivial
theorem PySem.W.Fast.tw15640804952885408495:True:=trivial
theorem PySem.W.Fast.tw1133688806170047285:True:=trivial
theorem PySem.W.Fast.tw7815791244720442546:True:=trivial
theorem PySem.W.Fast.tw10427085818612353255:True:=trivial
theorem PySem.W.Fast.tw14697809002969169057:True:=trivial
theorem PySem.W.Fast.tw12213854066957834609:True:=trivial
theorem PySem.W.Fast.tw13403350345750819548:True:=trivial
theorem PySem.W.Fast.tw1434236309588199839:True:=trivial
theorem PySem.W.Fast.tw7008181139408308383:True:=trivial
theorem PySem.W.Fast.tw12200761560638507455:True:=trivial
theorem PySem.W.Fast.tw13422345083395056228:True:=trivial
theorem PySem.W.Fast.tw16325892672551432751:True:=trivial
theorem PySem.W.Fast.tw13932857949888321989:True:=trivial
theorem PySem.W.Fast.tw10228063838625999745:True:=trivial
theorem PySem.W.Fast.tw3454612000914179878:True:=trivial
theorem PySem.W.Fast.tw10607547765891220695:True:=trivial
theorem PySem.W.Fast.tw17238202166254356417:True:=trivial
theorem PySem.W.Fast.tw1233478877392253592:True:=trivial
theorem PySem.W.Fast.tw14189208947110292934:True:=trivial
theorem PySem.W.Fast.tw3294526463393293558:True:=trivial
theorem PySem.W.Fast.tw17867960490530367549:True:=trivial
theorem PySem.W.Fast.tw1050198052120887163:True:=trivial
theorem PySem.W.Fast.tw7586102147278531972:True:=trivial
theorem PySem.W.Fast.tw6909997475735854520:True:=trivial
theorem PySem.W.Fast.tw7179013348349931831:True:=trivial
theorem PySem.W.Fast.tw4744248905750353160:True:=trivial
theorem PySem.W.Fast.tw9436011167960126657:True:=trivial
theorem PySem.W.Fast.tw16080406676954029671:True:=trivial
theorem PySem.W.Fast.tw1473681655039712754:True:=trivial
theorem PySem.W.Fast.tw15064040696893582252:True:=trivial
theorem PySem.W.Fast.tw9207346092387850949:True:=trivial
theorem PySem.W.Fast.tw10016164678636485873:True:=trivial
theorem PySem.W.Fast.tw4307943047970569084:True:=trivial
theorem PySem.W.Fast.tw6931980839858192917:True:=trivial
theorem PySem.W.Fast.tw17623925933207481794:True:=trivial
theorem PySem.W.Fast.tw9802927749286386069:True:=trivial
theorem PySem.W.Fast.tw1539091450048876346:True:=trivial
theorem PySem.W.Fast.tw5369915536678420245:True:=trivial
open PySem PySem.W PyProof.Rows
set_option maxRecDepth 100000 in
set_option maxHeartbeats 0 in
theorem PySem.Challenge.cw_soundrules_k49_whole_fewest_and_orders_holds : PySem.Challenge.rw_soundrules_k49_whole_fewest_and_orders.Holds := by
 w_on;o_law;k_head;(case hw=>w_witness2)
 k_fill
 refine Ev.aer (l:=PySem.Challenge.rw_soundrules_k49_whole_fewest_and_orders) (k:=9) (x:="_law_script") (f:=yR.Iu) rfl (by decide) rfl ⟨rfl,by decide,by decide⟩ (fun w h Y=>PySem.W.kIn_of Y) yR.QX ?F
 case F=>
  intro w mg fa h KX G hmg
  refine' yR.all_mk KX G hmg ?Ml ?K6 ?Ma ?K9 ?BX ?Be ?BK ?Bh ?yO ?yq ?yK ?yw ?pO ?pg ?pI ?pB ?oJ ?n6 ?oF ?n8 ?uv ?tD ?uh ?tO ?yP ?yr ?yL ?yx ?Mh ?K3 ?LK ?K7 ?Mi ?K4 ?LQ ?k_made ?m9 ?mW ?m6 ?mY ?Mj ?K5 ?LR ?K8 ?rn ?qG ?qR ?qL ?rC ?qK ?qX ?qP ?yN ?yp ?yJ ?yu ?yM ?yo ?yH ?yt ?BZ ?Bf ?BL ?Bj ?ur ?tu ?ug ?tM ?wu ?uZ ?vV ?vz ?wg ?uW ?vQ ?vo ?um ?sX ?t6 ?tH ?rA ?qI ?qU ?qN ?uo ?sY ?ue ?tK ?pP ?ph ?pJ ?pC ?wk ?uY ?vU ?vq ?uq ?sZ ?uf ?tL ?v8 ?uU ?vO ?vh ?wC ?vf ?vY ?vC ?rB ?qJ ?qW ?qO ?pQ ?pq ?pK ?pD ?rz ?qH ?qT ?qM ?pR ?pA ?pL ?pF ?v9 ?uV ?vP ?vm ?wA ?u0 ?vW ?vA ?m8 ?mV ?m5 ?mX ?wB ?vd ?vX ?vB ?wD ?vg ?vZ ?vD ?wj ?uX ?vR ?vp ?Vb ?S7 ?U0 ?Tc ?QJ ?QH ?JB ?zT ?rO ?QG ?Jz ?Ek ?zQ ?Ej ?QF ?Lj
  (case Ml=>k_is)
  (case K6=>k_is)
  (case Ma=>k_is)
  (case K9=>k_is)
  (case BX=>k_is)
  (case Be=>k_is)
  (case BK=>k_is)
  (case Bh=>k_is)
  (case yO=>k_is)
  (case yq=>k_is)
  (case yK=>k_is)
  (case yw=>k_is)
  (case pO=>k_is)
  (case pg=>k_is)
  (case pI=>k_is)
  (case pB=>k_is)
  (case oJ=>k_is)
  (case n6=>k_is)
  (case oF=>k_is)
  (case n8=>k_is)
  (case uv=>k_is)
  (case tD=>k_is)
  (case uh=>k_is)
  (case tO=>k_is)
  (case yP=>k_is)
  (case yr=>k_is)
  (case yL=>k_is)
  (case yx=>k_is)
  (case Mh=>k_is)
  (case K3=>k_is)
  (case LK=>k_is)
  (case K7=>k_is)
  (case Mi=>k_is)
  (case K4=>k_is)
  (case LQ=>k_is)
  (case k_made=>k_is)
  (case m9=>k_is)
  (case mW=>k_is)
  (case m6=>k_is)
  (case mY=>k_is)
  (case Mj=>k_is)
  (case K5=>k_is)
  (case LR=>k_is)
  (case K8=>k_is)
  (case rn=>k_is)
  (case qG=>k_is)
  (case qR=>k_is)
  (case qL=>k_is)
  (case rC=>k_is)
  (case qK=>k_is)
  (case qX=>k_is)
  (case qP=>k_is)
  (case yN=>k_is)
  (case yp=>k_is)
  (case yJ=>k_is)
  (case yu=>k_is)
  (case yM=>k_is)
  (case yo=>k_is)
  (case yH=>k_is)
  (case yt=>k_is)
  (case BZ=>k_is)
  (case Bf=>k_is)
  (case BL=>k_is)
  (case Bj=>k_is)
  (case ur=>k_is)
  (case tu=>k_is)
  (case ug=>k_is)
  (case tM=>k_is)
  (case wu=>k_is)
  (case uZ=>k_is)
  (case vV=>k_is)
  (case vz=>k_is)
  (case wg=>k_is)
  (case uW=>k_is)
  (case vQ=>k_is)
  (case vo=>k_is)
  (case um=>k_is)
  (case sX=>k_is)
  (case t6=>k_is)
  (case tH=>k_is)
  (case rA=>k_is)
  (case qI=>k_is)
  (case qU=>k_is)
  (case qN=>k_is)
  (case uo=>k_is)
  (case sY=>k_is)
  (case ue=>k_is)
  (case tK=>k_is)
  (case pP=>k_is)
  (case ph=>k_is)
  (case pJ=>k_is)
  (case pC=>k_is)
  (case wk=>k_is)
  (case uY=>k_is)
  (case vU=>k_is)
  (case vq=>k_is)
  (case uq=>k_is)
  (case sZ=>k_is)
  (case uf=>k_is)
  (case tL=>k_is)
  (case v8=>k_is)
  (case uU=>k_is)
  (case vO=>k_is)
  (case vh=>k_is)
  (case wC=>k_is)
  (case vf=>k_is)
  (case vY=>k_is)
  (case vC=>k_is)
  (case rB=>k_is)
  (case qJ=>k_is)
  (case qW=>k_is)
  (case qO=>k_is)
  (case pQ=>k_is)
  (case pq=>k_is)
  (case pK=>k_is)
  (case pD=>k_is)
  (case rz=>k_is)
  (case qH=>k_is)
  (case qT=>k_is)
  (case qM=>k_is)
  (case pR=>k_is)
  (case pA=>k_is)
  (case pL=>k_is)
  (case pF=>k_is)
  (case v9=>k_is)
  (case uV=>k_is)
  (case vP=>k_is)
  (case vm=>k_is)
  (case wA=>k_is)
  (case u0=>k_is)
  (case vW=>k_is)
  (case vA=>k_is)
  (case m8=>k_is)
  (case mV=>k_is)
  (case m5=>k_is)
  (case mX=>k_is)
  (case wB=>k_is)
  (case vd=>k_is)
  (case vX=>k_is)
  (case vB=>k_is)
  (case wD=>k_is)
  (case vg=>k_is)
  (case vZ=>k_is)
  (case vD=>k_is)
  (case wj=>k_is)
  (case uX=>k_is)
  (case vR=>k_is)
  (case vp=>k_is)
  (case Vb=>k_is)
  (case S7=>k_is)
  (case U0=>k_is)
  (case Tc=>k_is)
  (case QJ=>k_is)
  (case QH=>k_is)
  (case JB=>k_is)
  (case zT=>k_is)
  (case rO=>k_is)
  (case QG=>k_is)
  (case Jz=>k_is)
  (case Ek=>k_is)
  (case zQ=>k_is)
  (case Ej=>k_is)
  (case QF=>k_is)
  (case Lj=>k_is)
