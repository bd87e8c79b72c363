import PyProof.Rows.All
import Wide.All
import OpenK.AllK
import Wide.FinOn
import Lean
import PyProof.EqAt
import PyProof.EqKinds
import PyProof.TupleCall
import PyProof.TupleKey
import PyProof.DictRoadsH
import PyProof.FactsAll.bool_1
import PyProof.AttrMissHeap
import KE.KDictOf
import PyProof.ListMulRoad
import PyProof.FactsAll.tuple_2
import KE.KSortTup
import PyProof.TupleOfSeq
import PyProof.ListRange
import PyProof.DictTable
import PyProof.Rows.TupTab
import PyProof.FactsAll.range_1
import KE.KDictList
import PySem.Challenge.RW_soundrules_k37_taking
noncomputable section
set_option Elab.async false
set_option linter.all false
set_option maxRecDepth 100000
set_option maxHeartbeats 4000000
abbrev iZ(x:PySem.Str):Prop:=(x == ("__debug__" : PySem.Str))=false
abbrev oU(x:PySem.Str):Prop:=(x == ("__classdict__" : PySem.Str))=false
namespace L2
open PySem PySem.Spec PyProof.Rows
inductive NK where
 | num (i:Int)
 | txt (x:Str)
 | tup (xs:List NK)
noncomputable instance:DecidableEq NK:=λ_ _=>Classical.propDecidable _
mutual
def Ad(h:Heap):NK->Value->Prop
 | .num i,v=>(∃t,v = .int i t)\/∃b:Bool,v = .bool b/\i=if b then 1 else 0
 | .txt x,v=>∃t,v = .str x t
 | .tup ks,v=>∃a o items n,v = .ref a/\h.get? a=some o/\o.cls = .type "tuple"/\o.data = .seq items n/\nA h ks items.toList
def nA(h:Heap):List NK->List Value->Prop
 | [],vs=>vs=[]
 | k::ks,vs=>∃v r,vs=v::r/\Ad h k v/\nA h ks r
end
mutual
def NK.dep:NK->Nat
 | .num _=>0
 | .txt _=>0
 | .tup ks=>1+NK.wH ks
def NK.wH:List NK->Nat
 | []=>0
 | k::ks=>max (NK.dep k) (NK.wH ks)
end
mutual
def NK.draws:NK->Nat
 | .num _=>1
 | .txt _=>1
 | .tup ks=>NK.o6 ks+1
def NK.o6:List NK->Nat
 | []=>0
 | k::ks=>NK.draws k+NK.o6 ks
end
section
variable(P:Program)(w:World)
mutual
def NK.hash:NK->Int
 | .num i=>hashInt i
 | .txt x=>(strKind P w).hash x
 | .tup ks=>reduceHash (Builtin.Tuple.tupleHashOf (NK.hashes ks))
def NK.hashes:List NK->List Int
 | []=>[]
 | k::ks=>NK.hash k::NK.hashes ks
end
end
theorem nA.length{h:Heap}:∀{ks:List NK} {vs:List Value},nA h ks vs->vs.length=ks.length
 | [],_,e=>by cases e;rfl
 | k::ks,_,e=>by obtain⟨v,r,rfl,_,q⟩:=e;rw[List.length_cons,List.length_cons,q.length]
theorem nA.get{h:Heap}:∀{ks:List NK} {vs:List Value} {j:Nat} {v:Value},nA h ks vs->vs[j]? = some v->∃k,ks[j]? = some k/\Ad h k v
 | [],_,_,_,e,g=>by cases e;simp at g
 | k::ks,_,j,v,e,g=>by
  obtain⟨u,r,rfl,h1,h2⟩:=e;cases j with
  | zero=>simp at g;subst g;exact⟨k,rfl,h1⟩
  | succ j=>obtain⟨k',e1,e2⟩:=nA.get h2 (j:=j) (by simpa using g);exact⟨k',by simpa using e1,e2⟩
theorem NK.zK:∀{ks:List NK} {j:Nat} {k:NK},ks[j]? = some k->k.dep<=NK.wH ks
 | [],_,_,e=>by simp at e
 | c::ks,j,k,e=>by
  unfold NK.wH;cases j with
  | zero=>simp at e;subst e;exact Nat.le_max_left _ _
  | succ j=>exact Nat.le_trans (NK.zK (j:=j) (by simpa using e)) (Nat.le_max_right _ _)
mutual
theorem Ad.inj{h:Heap}:∀{x y:NK} {v:Value},Ad h x v->Ad h y v->x=y
 | .num i,.num j,v,a,b=>by
  rcases a with ⟨t,rfl⟩|⟨c,rfl,rfl⟩
  ·rcases b with ⟨t',e⟩|⟨c,e,_⟩
   ·cases e;rfl
   ·cases e
  ·rcases b with ⟨t',e⟩|⟨c,e,rfl⟩
   ·cases e
   ·cases e;rfl
 | .num i,.txt x,v,a,b=>by obtain⟨t,rfl⟩:=b;rcases a with ⟨t',e⟩|⟨c,e,_⟩<;>cases e
 | .num i,.tup ks,v,a,b=>by obtain⟨_,_,_,_,rfl,_⟩:=b;rcases a with ⟨t',e⟩|⟨c,e,_⟩<;>cases e
 | .txt x,.num i,v,a,b=>by obtain⟨t,rfl⟩:=a;rcases b with ⟨t',e⟩|⟨c,e,_⟩<;>cases e
 | .txt x,.txt y,v,a,b=>by obtain⟨t,rfl⟩:=a;obtain⟨t',e⟩:=b;cases e;rfl
 | .txt x,.tup ks,v,a,b=>by obtain⟨t,rfl⟩:=a;obtain⟨_,_,_,_,e,_⟩:=b;cases e
 | .tup ks,.num i,v,a,b=>by obtain⟨_,_,_,_,rfl,_⟩:=a;rcases b with ⟨t',e⟩|⟨c,e,_⟩<;>cases e
 | .tup ks,.txt y,v,a,b=>by obtain⟨_,_,_,_,rfl,_⟩:=a;obtain⟨t',e⟩:=b;cases e
 | .tup ks,.tup ls,v,a,b=>by
  obtain⟨p,o,items,n,rfl,h1,_,h3,h4⟩:=a;obtain⟨p',o',items',n',e,h1',_,h3',h4'⟩:=b;cases e;rw[h1] at h1';cases h1';rw[h3] at h3';cases h3';rw[nA.inj h4 h4']
theorem nA.inj{h:Heap}:∀{x y:List NK} {v:List Value},nA h x v->nA h y v->x=y
 | [],[],_,_,_=>rfl
 | [],k::ks,_,a,b=>by cases a;obtain⟨_,_,e,_⟩:=b;cases e
 | k::ks,[],_,a,b=>by cases b;obtain⟨_,_,e,_⟩:=a;cases e
 | k::ks,l::ls,_,a,b=>by
  obtain⟨v,r,rfl,h1,h2⟩:=a;obtain⟨v',r',e,h1',h2'⟩:=b;cases e;rw[Ad.inj h1 h1',nA.inj h2 h2']
end
mutual
theorem Ad.keeps{h h':Heap}{d:Addr}{o:Obj}{es ep}(ho:h.get? d=some o)(hd:o.data = .dict es ep)(hs:Heap.SameBut d h h'):∀{k:NK} {v:Value},Ad h k v->Ad h' k v
 | .num _,_,e=>e
 | .txt _,_,e=>e
 | .tup ks,_,e=>by
  obtain⟨a,o',items,n,rfl,h1,h2,h3,h4⟩:=e;have hne:a≠d:=by rintro rfl;rw[h1] at ho;cases ho;rw[h3] at hd;cases hd
  exact⟨a,o',items,n,rfl,(hs.2 a hne).trans h1,h2,h3,nA.keeps ho hd hs h4⟩
theorem nA.keeps{h h':Heap}{d:Addr}{o:Obj}{es ep}(ho:h.get? d=some o)(hd:o.data = .dict es ep)(hs:Heap.SameBut d h h'):∀{ks:List NK} {vs:List Value},nA h ks vs->nA h' ks vs
 | [],_,e=>e
 | k::ks,_,e=>by obtain⟨v,r,rfl,h1,h2⟩:=e;exact⟨v,r,rfl,Ad.keeps ho hd hs h1,nA.keeps ho hd hs h2⟩
end
section
variable{P:Program}{w:World}
def Nz{A:Around}{E:Value->Shared->Prop}{s:Shared}{b:Bool}{Q:Int->Shared->Prop}(h:Q (hashInt (if b then 1 else 0)) { s with toks:=s.toks+1 }):wpAny (model P w) A (pyHash (.bool b)) Q E s:=by
 have hT:s.TypeIs (.bool b) "bool":=rfl;have hr:=rawHash_range (if b then 1 else 0);unfold pyHash;have hv:[Value.bool b].any Value.onHeap=false:=rfl;refine wpAny_bind ?_;rw[cRoomFor,if_neg (by rw[hv];exact Bool.false_ne_true)];refine wpAny_pure ?_;refine wpAny_bind (wpAny_specialOf hT F.slot_bool_hash.lookup ?_);show wpAny _ _ (if (some (Value.builtin "int.__hash__") == some Value.none)=true then _ else _) Q E s;rw[if_neg (by rw[beq_builtin_none];exact Bool.false_ne_true)];refine wpAny_bind (wpAny_specialOf hT F.slot_bool_hash.lookup ?_);show wpAny _ _ (callSpecialIfBoundUnlessNone? (.bool b) "__hash__" _ >>= _) Q E s;refine wpAny_bind (wpAny_callSpecialIfBoundUnlessNone?_slot hT F.slot_bool_hash
  (wpAny_call_entry F.slot_bool_hash hT entry_int_hash
   (show wpAny _ _ (do ret (<-mkInt (rawHash (if b then 1 else 0)))) _ _ s from wpAny_ret_mkInt ?_) (args_int_hash _)))
 show wpAny _ _ (if (decide (-(2:Int)^63<=rawHash (if b then 1 else 0))&&decide (rawHash (if b then 1 else 0)<2^63))=true then _ else _) Q E _;rw[if_pos (by rw[decide_eq_true hr.1,decide_eq_true hr.2];rfl)];exact wpAny_pure h
mutual
theorem RC:∀(k:NK) (v:Value) (A:Around) (E:Value->Shared->Prop) (s:Shared) (Q:Int->Shared->Prop),A.units+k.dep<cLine->Ad s.heap k v->Q (k.hash P w) { s with toks:=s.toks+k.draws }->wpAny (model P w) A (pyHash v) Q E s
 | .num i,v,A,E,s,Q,hu,e,h=>by
  rcases e with ⟨t,rfl⟩|⟨b,rfl,rfl⟩
  ·exact wpAny_pyHash_int h
  ·exact Nz h
 | .txt x,v,A,E,s,Q,hu,e,h=>by
  obtain⟨t,rfl⟩:=e;exact wpAny_pyHash_str h
 | .tup ks,v,A,E,s,Q,hu,e,h=>by
  obtain⟨a,o,items,n,rfl,ho,hc,hd,hi⟩:=e;have hT:s.TypeIs (.ref a) "tuple":=⟨o,ho,hc⟩;have abt:(NK.tup ks).dep=1+NK.wH ks:=by rw[NK.dep]
  rw[abt] at hu;have hu0:A.units<cLine:=by omega
  have hin:A.in1.units+NK.wH ks<cLine:=by show A.units+1+NK.wH ks<cLine;omega
  unfold pyHash
  first|unfold pyHashByItsType|skip
  first|refine wpAny_bind (wpAny_cRoomFor_or (.inr hu0) ?_)|skip
  refine wpAny_bind (wpAny_specialOf hT F.slot_tuple_hash.lookup ?_);show wpAny _ _ (if (some (Value.builtin "tuple.__hash__") == some Value.none)=true then _ else _) Q E s;rw[if_neg (by rw[beq_builtin_none];exact Bool.false_ne_true)];refine wpAny_bind (wpAny_specialOf hT F.slot_tuple_hash.lookup ?_);show wpAny _ _ (callSpecialIfBoundUnlessNone? (.ref a) "__hash__" _ >>= _) Q E s;refine wpAny_bind (wpAny_callSpecialIfBoundUnlessNone?_slot hT F.slot_tuple_hash (wpAny_call_entry F.slot_tuple_hash hT F.entry_tuple_hash ?_ (F.args_tuple_hash_1 _)));show wpAny _ _ (Builtin.Tuple.tupleItemsOf (.ref a) >>= _) _ _ s;refine wpAny_bind (wpAny_tupleItemsOf ho hd ?_);refine wpAny_bind ?_;rw[<-Array.forIn_toList];refine GC ks items.toList A.in1 _ s _ _ #[] hin hi (λx b s' R q=>?_) ?_
  ·first
    | exact wpAny_bind (wpAny_mono q (λz s2 hz=>wpAny_pure hz) λ_ _ z=>z)
    | exact wpAny_bind (wpAny_mono q (λz s2 hz=>wpAny_bind (wpAny_pure (wpAny_pure hz))) λ_ _ z=>z)
  ·show wpAny _ _ (retInt (Builtin.Tuple.tupleHashOf ((#[]:Array Int).toList++NK.hashes P w ks))) _ _ _;have hh:(NK.tup ks).hash P w=reduceHash (Builtin.Tuple.tupleHashOf (NK.hashes P w ks)):=by rw[NK.hash]
   have hdr:(NK.tup ks).draws=NK.o6 ks+1:=by rw[NK.draws]
   rw[hh,hdr] at h;rw[show(#[]:Array Int).toList++NK.hashes P w ks=NK.hashes P w ks from rfl];refine wpAny_ret_mkInt ?_;show wpAny _ _ (if (decide (-(2:Int)^63<=Builtin.Tuple.tupleHashOf (NK.hashes P w ks))&&decide (Builtin.Tuple.tupleHashOf (NK.hashes P w ks)<2^63))=true then _ else _) Q E _;unfold reduceHash at h;by_cases hr:(decide (-(2:Int)^63<=Builtin.Tuple.tupleHashOf (NK.hashes P w ks))&&decide (Builtin.Tuple.tupleHashOf (NK.hashes P w ks)<2^63))=true
   ·rw[if_pos hr];rw[if_pos hr] at h;exact wpAny_pure (by simpa[Nat.add_assoc] using h)
   ·rw[if_neg hr];rw[if_neg hr] at h;exact wpAny_bind (wpAny_rule (wpAny_pure (by simpa[Nat.add_assoc] using h)))
theorem GC:∀(ks:List NK) (vs:List Value) (A:Around) (E:Value->Shared->Prop) (s:Shared) (body:Value->Array Int->Sem (ForInStep (Array Int))) (Q:Array Int->Shared->Prop) (acc:Array Int),A.units+NK.wH ks<cLine->nA s.heap ks vs->
  (∀x b s' (R:ForInStep (Array Int)->Shared->Prop),wpAny (model P w) A (pyHash x) (λz s2=>R (.yield (b.push z)) s2) E s'->wpAny (model P w) A (body x b) R E s')->
  Q (acc.toList++NK.hashes P w ks).toArray { s with toks:=s.toks+NK.o6 ks }->wpAny (model P w) A (forIn vs acc body) Q E s
 | [],vs,A,E,s,body,Q,acc,hu,e,hb,q=>by
  cases e;rw[List.forIn_nil];refine wpAny_pure ?_;have:(acc.toList++NK.hashes P w []).toArray=acc:=by rw[NK.hashes];simp
  rw[this] at q;have e0:NK.o6 []=0:=by rw[NK.o6]
  rw[e0] at q;exact q
 | k::ks,vs,A,E,s,body,Q,acc,hu,e,hb,q=>by
  obtain⟨v,r,rfl,h1,h2⟩:=e;have abt:NK.wH (k::ks)=max k.dep (NK.wH ks):=by rw[NK.wH]
  rw[abt] at hu;rw[List.forIn_cons];refine wpAny_bind (hb v acc s _ (RC k v A E s _ (by omega) h1 ?_));refine GC ks r A E { s with toks:=s.toks+k.draws } body Q (acc.push (k.hash P w)) (by omega) h2 hb ?_;have e1:NK.hashes P w (k::ks)=k.hash P w::NK.hashes P w ks:=by rw[NK.hashes]
  have e2:NK.o6 (k::ks)=k.draws+NK.o6 ks:=by rw[NK.o6]
  rw[e1,e2] at q
  simpa[Nat.add_assoc] using q
end
theorem aef:∀(n:Nat) (x y:NK) (u v:Value) (A:Around) (s:Shared),x.dep<=n->A.units+n+1<cLine->Ad s.heap x u->Ad s.heap y v->SeqAt.EqAt A s u v (decide (x=y))
 | n,.num i,.num j,u,v,A,s,hn,hu,hx,hy=>by
  have e:decide (NK.num i=NK.num j)=(i == j):=by rw[Bool.eq_iff_iff];simp
  rw[e];rcases hx with ⟨t,rfl⟩|⟨b,rfl,rfl⟩
  ·rcases hy with ⟨t',rfl⟩|⟨c,rfl,rfl⟩
   ·exact SeqAt.EqAt.int_int i t j t'
   ·exact SeqAt.EqAt.int_bool i t c
  ·rcases hy with ⟨t',rfl⟩|⟨c,rfl,rfl⟩
   ·exact SeqAt.EqAt.bool_int b j t'
   ·have:((if b then (1:Int) else 0) == (if c then 1 else 0))=(b == c):=by cases b<;>cases c<;>rfl
    rw[this];exact SeqAt.EqAt.bool_bool b c
 | n,.num i,.txt z,u,v,A,s,hn,hu,hx,hy=>by
  rw[decide_eq_false (λe=>by cases e)];obtain⟨t,rfl⟩:=hy;rcases hx with ⟨t',rfl⟩|⟨b,rfl,rfl⟩
  ·exact SeqAt.EqAt.int_str i t' _ t
  ·exact SeqAt.EqAt.bool_str b _ t
 | n,.num i,.tup ks,u,v,A,s,hn,hu,hx,hy=>by
  rw[decide_eq_false (λe=>by cases e)];obtain⟨a,o,items,m,rfl,h1,h2,h3,_⟩:=hy;have p:s.heap.IsTuple a items:=⟨o,h1,h2,m,h3⟩;rcases hx with ⟨t',rfl⟩|⟨b,rfl,rfl⟩
  ·exact SeqAt.EqAt.int_tuple i t' p (by omega)
  ·exact SeqAt.EqAt.bool_tuple b p (by omega)
 | n,.txt z,.num i,u,v,A,s,hn,hu,hx,hy=>by
  rw[decide_eq_false (λe=>by cases e)];obtain⟨t,rfl⟩:=hx;rcases hy with ⟨t',rfl⟩|⟨b,rfl,rfl⟩
  ·exact SeqAt.EqAt.str_int _ t i t'
  ·exact SeqAt.EqAt.str_bool _ t b
 | n,.txt z,.txt z',u,v,A,s,hn,hu,hx,hy=>by
  have e:decide (NK.txt z=NK.txt z')=(z == z'):=by rw[Bool.eq_iff_iff];simp
  rw[e];obtain⟨t,rfl⟩:=hx;obtain⟨t',rfl⟩:=hy;exact SeqAt.EqAt.str_str _ t _ t'
 | n,.txt z,.tup ks,u,v,A,s,hn,hu,hx,hy=>by
  rw[decide_eq_false (λe=>by cases e)];obtain⟨t,rfl⟩:=hx;obtain⟨a,o,items,m,rfl,h1,h2,h3,_⟩:=hy;have p:s.heap.IsTuple a items:=⟨o,h1,h2,m,h3⟩;exact SeqAt.EqAt.str_tuple _ t p (by omega)
 | n,.tup ks,.num i,u,v,A,s,hn,hu,hx,hy=>by
  rw[decide_eq_false (λe=>by cases e)];obtain⟨a,o,items,m,rfl,h1,h2,h3,_⟩:=hx;have p:s.heap.IsTuple a items:=⟨o,h1,h2,m,h3⟩;rcases hy with ⟨t',rfl⟩|⟨b,rfl,rfl⟩
  ·exact SeqAt.EqAt.tuple_int i t' p (by omega)
  ·exact SeqAt.EqAt.tuple_bool b p (by omega)
 | n,.tup ks,.txt z,u,v,A,s,hn,hu,hx,hy=>by
  rw[decide_eq_false (λe=>by cases e)];obtain⟨a,o,items,m,rfl,h1,h2,h3,_⟩:=hx;have p:s.heap.IsTuple a items:=⟨o,h1,h2,m,h3⟩;obtain⟨t,rfl⟩:=hy;exact SeqAt.EqAt.tuple_str _ t p (by omega)
 | 0,.tup ks,.tup ls,u,v,A,s,hn,hu,hx,hy=>by
  rw[NK.dep] at hn;omega
 | n+1,.tup ks,.tup ls,u,v,A,s,hn,hu,hx,hy=>by
  have hx0:=hx;have hy0:=hy;obtain⟨a,o,items,m,rfl,h1,h2,h3,h4⟩:=hx;obtain⟨a',o',items',m',rfl,h1',h2',h3',h4'⟩:=hy;have p:s.heap.IsTuple a items:=⟨o,h1,h2,m,h3⟩;have p':s.heap.IsTuple a' items':=⟨o',h1',h2',m',h3'⟩;rw[NK.dep] at hn;by_cases haa:a=a'
  ·subst haa;rw[decide_eq_true (Ad.inj hx0 hy0)];exact SeqAt.EqAt.same _
  ·refine SeqAt.EqAt.of_refs haa ?_;have l1:=h4.length;have l2:=h4'.length;rw[Array.length_toList] at l1 l2;have hu0:A.units<cLine:=by omega
   have:=SeqAt.RcAt.tuples (e:=λj=>decide (ks[j]? = ls[j]?)) p p' hu0 λj q1 q2=>?_
   ·have e:((List.range (min items.size items'.size)).all (λj=>decide (ks[j]? = ls[j]?))&&items.size == items'.size)=decide (NK.tup ks=NK.tup ls):=by
     rw[Bool.eq_iff_iff];simp only[Bool.and_eq_true,List.all_eq_true,List.mem_range,decide_eq_true_eq,beq_iff_eq,NK.tup.injEq];constructor
     ·rintro⟨g1,g2⟩;apply List.ext_getElem?;intro j;by_cases hj:j<min items.size items'.size
      ·exact g1 j hj
      ·rw[List.getElem?_eq_none (by omega),List.getElem?_eq_none (by omega)]
     ·rintro rfl;exact⟨λ_ _=>rfl,by omega⟩
    rw[<-e];exact this
   ·have g1:items.toList[j]? = some items[j]:=by simp
    have g2:items'.toList[j]? = some items'[j]:=by simp
    obtain⟨k,r1,r2⟩:=h4.get g1;obtain⟨l,r3,r4⟩:=h4'.get g2;have e:decide (ks[j]? = ls[j]?)=decide (k=l):=by rw[r1,r3];simp
    rw[e];exact aef n k l _ _ A.in1 s (Nat.le_trans (NK.zK r1) (by omega)) (by show A.units+1+n+1<cLine;omega) r2 r4
theorem KZ:∀(n:Nat) (k:NK) (v:Value) (A:Around) (E:Value->Shared->Prop) (s:Shared) (Q:Bool->Shared->Prop),k.dep<=n->Ad s.heap k v->Q true s->wpAny (model P w) A (eqIsQuiet n v) Q E s
 | n,.num i,v,A,E,s,Q,hn,e,h=>by
  rcases e with ⟨t,rfl⟩|⟨b,rfl,rfl⟩
  ·rw[eqIsQuiet_byValue n rfl];exact wpAny_pure h
  ·rw[eqIsQuiet_byValue n rfl];exact wpAny_pure h
 | n,.txt x,v,A,E,s,Q,hn,e,h=>by
  obtain⟨t,rfl⟩:=e;rw[eqIsQuiet_byValue n rfl];exact wpAny_pure h
 | 0,.tup ks,v,A,E,s,Q,hn,e,h=>by
  rw[NK.dep] at hn;omega
 | n+1,.tup ks,v,A,E,s,Q,hn,e,h=>by
  obtain⟨a,o,items,m,rfl,ho,hc,hd,hi⟩:=e;rw[NK.dep] at hn;have hT:s.TypeIs (.ref a) "tuple":=⟨o,ho,hc⟩;unfold eqIsQuiet;refine wpAny_bind (wpAny_specialOf hT F.slot_tuple_eq.lookup ?_);show wpAny _ _ (isInstance (.ref a) (.type "tuple") >>= _) _ _ s;refine wpAny_bind (wpAny_isInstance hT isSubtype_tuple_tuple ?_);simp only[Bool.not_true,Bool.false_eq_true,if_false];refine wpAny_bind (wpAny_seqItems ho hd ?_);refine wpAny_bind ?_;show wpAny _ _ (forIn items _ _) _ _ s;rw[<-Array.forIn_toList];refine wpAny_forIn_list _ (λrest r s'=>r.1=none/\s'=s/\∀v∈rest,∃k:NK,k.dep<=n/\Ad s.heap k v) _ ?_ ?_ _ _ ⟨rfl,rfl,λv hv=>?_⟩
  ·rintro v rest r s' ⟨hr,rfl,hall⟩;obtain⟨k,hk1,hk2⟩:=hall v List.mem_cons_self;refine wpAny_bind (KZ n k v A E _ _ hk1 hk2 ?_);simp only[Bool.not_true,Bool.false_eq_true,if_false];exact wpAny_pure ⟨rfl,rfl,λu hu'=>hall u (List.mem_cons_of_mem _ hu')⟩
  ·rintro⟨r1,r2⟩ s' ⟨hr,rfl,_⟩;simp only at hr;subst hr;exact wpAny_pure h
  ·obtain⟨j,hj,rfl⟩:=List.mem_iff_getElem.mp hv;obtain⟨k,r1,r2⟩:=hi.get (List.getElem?_eq_getElem hj);exact⟨k,Nat.le_trans (NK.zK r1) (by omega),r2⟩
noncomputable def ql(P:Program)(w:World):HeapKind P w NK where
 is:=λh k a=>Ad h k (.ref a)/\k.dep<=8
 hash:=NK.hash P w
 draws:=NK.draws
 room:=λA=>A.units+10<cLine
 inj:=λhx hy=>hx.1.inj hy.1
 keeps:=λx ho hd hs=>⟨x.1.keeps ho hd hs,x.2⟩
 pyHash:=λhu hk h=>RC _ _ _ _ _ _ (by have:=hk.2;omega) hk.1 h
 eqBool:=λhu hx hy h=>aef 8 _ _ _ _ _ _ hx.2 (by omega) hx.1 hy.1 P w _ _ h
 quiet:=λhk h=>KZ 8 _ _ _ _ _ _ hk.2 hk.1 h
end
abbrev Key:=Sum Int Str
def zp:Key->Value->Bool
 | .inl k,v=>Value.isInt k v
 | .inr x,v=>Value.isStrOf x v
def ahv(w:World):Key->Int
 | .inl k=>hashInt k
 | .inr x=>hashStr w x
theorem fD:∀{k:Key} {v:Value},zp k v=true->(∃i t,k=Sum.inl i/\v=Value.int i t)\/(∃x t,k=Sum.inr x/\v=Value.str x t)
 | .inl i,v,h=>by
  obtain⟨t,e⟩:=Value.isInt_shape (k:=i) (v:=v) h;exact .inl ⟨i,t,rfl,e⟩
 | .inr x,v,h=>by
  obtain⟨t,e⟩:=Value.isStrOf_shape (x:=x) (v:=v) h;exact .inr ⟨x,t,rfl,e⟩
def Nt(i:Int)(t:Tok):zp (.inl i) (.int i t)=true:=by simp[zp,Value.isInt]
def Nr(x:Str)(t:Tok):zp (.inr x) (.str x t)=true:=by simp[zp,Value.isStrOf]
def aaW(a b:Int):decide ((Sum.inl a:Key)=Sum.inl b)=(a == b):=by
 by_cases e:a=b
 ·subst e;simp
 ·have h:¬(Sum.inl a:Key)=Sum.inl b:=λq=>e (Sum.inl.inj q);rw[decide_eq_false h];exact(beq_eq_false_iff_ne.mpr e).symm
def aaT(a b:Str):decide ((Sum.inr a:Key)=Sum.inr b)=decide (a=b):=by
 by_cases e:a=b
 ·subst e;simp
 ·have h:¬(Sum.inr a:Key)=Sum.inr b:=λq=>e (Sum.inr.inj q);rw[decide_eq_false h,decide_eq_false e]
def aaV(a:Int)(b:Str):decide ((Sum.inl a:Key)=Sum.inr b)=false:=decide_eq_false (λq=>nomatch q)
def aaU(a:Str)(b:Int):decide ((Sum.inr a:Key)=Sum.inl b)=false:=decide_eq_false (λq=>nomatch q)
def dZ(prog:Program)(w:World):PySem.KeyKind prog w Key where
 is:=zp
 hash:=ahv w
 inj:=λv a b ha hb=>by
  rcases fD ha with ⟨i,t,rfl,rfl⟩|⟨x,t,rfl,rfl⟩
  ·rcases fD hb with ⟨j,u,rfl,e⟩|⟨y,u,rfl,e⟩
   ·injection e with e1 _;rw[e1]
   ·exact nomatch e
  ·rcases fD hb with ⟨j,u,rfl,e⟩|⟨y,u,rfl,e⟩
   ·exact nomatch e
   ·injection e with e1 _;rw[e1]
 byValue:=λk v h=>by
  rcases fD h with ⟨i,t,rfl,rfl⟩|⟨x,t,rfl,rfl⟩<;>rfl
 pyHash:=λhv h=>by
  rcases fD hv with ⟨i,t,rfl,rfl⟩|⟨x,t,rfl,rfl⟩
  ·exact wpAny_pyHash_int h
  ·exact wpAny_pyHash_str h
 eqBool:=λhu hv h=>by
  rcases fD hu with ⟨i,t,rfl,rfl⟩|⟨x,t,rfl,rfl⟩
  ·rcases fD hv with ⟨j,u,rfl,rfl⟩|⟨y,u,rfl,rfl⟩
   ·rw[aaW] at h;exact wpAny_eqBool_int h
   ·rw[aaV] at h;exact SeqAt.EqAt.int_str i t y u _ _ _ _ h
  ·rcases fD hv with ⟨j,u,rfl,rfl⟩|⟨y,u,rfl,rfl⟩
   ·rw[aaU] at h;exact SeqAt.EqAt.str_int x t j u _ _ _ _ h
   ·rw[aaT] at h;exact wpAny_eqBool_str h
 «strs»:=λk x t v h=>by
  rcases fD h with ⟨i,u,rfl,e⟩|⟨y,u,rfl,e⟩
  ·exact nomatch e
  ·injection e with e1 _
   subst e1;cases v<;>rfl
def GJ(prog:Program)(w:World)(i:Int)(t:Tok):(dZ prog w).is (.inl i) (.int i t)=true:=Nt i t
def GF(prog:Program)(w:World)(x:Str)(t:Tok):(dZ prog w).is (.inr x) (.str x t)=true:=Nr x t
inductive V where
 | non|bl (b:Bool)|int (i:Int)|str (x:Str)|byt (b:Array UInt8)|flt (b:UInt64)|ref (a:Addr)|ty (n:String)
 deriving DecidableEq
def RelV:V->Value->Prop
 | .non,u=>u=Value.none
 | .bl b,u=>u=Value.bool b
 | .int i,u=>∃t,u=Value.int i t
 | .str x,u=>∃t,u=Value.str x t
 | .byt b,u=>∃t,u=Value.bytes b t
 | .flt b,u=>∃t,u=Value.float b t
 | .ref a,u=>u=Value.ref a
 | .ty n,u=>u=Value.type n
abbrev Vals:List V->List Value->Prop:=Paired RelV
def Vals.length{xs:List V}{us:List Value}(r:Vals xs us):xs.length=us.length:=Paired.length r
theorem Vals.get:∀{xs:List V} {us:List Value} {i:Nat} {x:V},Vals xs us->xs[i]? = some x->∃u,us[i]? = some u/\RelV x u
 | _,_,_,_,.nil,e=>by simp at e
 | _,_,0,_,.cons r _,e=>by simp at e;subst e;exact⟨_,rfl,r⟩
 | _,_,i+1,x,.cons _ t,e=>by
  obtain⟨u,h1,h2⟩:=Vals.get (i:=i) (x:=x) t (by simpa using e);exact⟨u,by simpa using h1,h2⟩
theorem Vals.set{x:V}{u:Value}(r:RelV x u):∀{xs:List V} {us:List Value} (i:Nat),Vals xs us->Vals (xs.set i x) (us.set i u)
 | _,_,_,.nil=>.nil
 | _,_,0,.cons _ t=>.cons r t
 | _,_,i+1,.cons q t=>.cons q (Vals.set r i t)
theorem Vals.append:∀{xs ys:List V} {us ws:List Value},Vals xs us->Vals ys ws->Vals (xs++ys) (us++ws)
 | _,_,_,_,.nil,s=>s
 | _,_,_,_,.cons r t,s=>.cons r (Vals.append t s)
theorem Vals.take:∀{xs:List V} {us:List Value} (n:Nat),Vals xs us->Vals (xs.take n) (us.take n)
 | _,_,0,_=>.nil
 | _,_,_+1,.nil=>.nil
 | _,_,n+1,.cons r t=>.cons r (Vals.take n t)
theorem Vals.drop:∀{xs:List V} {us:List Value} (n:Nat),Vals xs us->Vals (xs.drop n) (us.drop n)
 | _,_,0,r=>r
 | _,_,_+1,.nil=>.nil
 | _,_,n+1,.cons _ t=>Vals.drop n t
def wM:Option V->Option Value->Prop
 | some v,some u=>RelV v u
 | none,none=>True
 | _,_=>False
def KV{κ:Type}:List (κ×V)->List (κ×Value)->Prop:=Paired λ(p:κ×V) (q:κ×Value)=>p.1=q.1/\RelV p.2 q.2
def kV:Key->V
 | .inl i=>.int i
 | .inr x=>.str x
inductive HO where
 /-- a list -/
 | lst (xs:List V)
 /-- a tuple (never changes) -/
 | tup (xs:List V)
 /-- a dict whose keys are ints and texts;one whose keys are tuples of ints and texts (the empty one is both) -/
 | dK (kvs:List (Key×V))|dT (kvs:List (List Key×V))|dN (kvs:List (NK×V×V))
 /-- a set of ints: its members,its size -/
 | set (S:Int->Bool) (n:Nat)
 /-- an instance of the class at C,its dict at dx,its attributes -/
 | ins (C dx:Addr) (fs:List (Str×V))
 /-- the dict of the instance at x -/
 | own (x:Addr)
 /-- the dict of an exception -/
 | xd (fs:List (Str×V))
 /-- a bound method,f of x -/
 | met (f x:Addr)
 /-- a range object lo,lo+1,.. below hi -/
 | rng (lo hi:Int)
 /-- a thing that is known to the object (the script;a dict while a loop walks it): read,never written while it is so -/
 | j5 (o:Obj) (u:HO)
 /-- a code object's table -/
 | YK (ps:Array Value)
 /-- a code object's table: whatever it holds,the codes made at these places are known and bear these names -/
 | tab (qs:List (Pos×Str))
 /-- any other thing,by what is true of its one object (a def of one's own: afs a S n:=HO.ext λh=>..) -/
 | ext (φ:Heap->Prop)
abbrev Hp:=Addr->Option HO
def upd(H:Hp)(a:Addr)(o:HO):Hp:=λb=>if b=a then some o else H b
def aZ{H:Hp}{a:Addr}{o:HO}:upd H a o a=some o:=by unfold upd;rw[if_pos rfl]
def bH{H:Hp}{a b:Addr}{o:HO}(h:b≠a):upd H a o b=H b:=by unfold upd;rw[if_neg h]
def Uo{H:Hp}{a:Addr}{o u:HO}:upd (upd H a o) a u=upd H a u:=by funext b;unfold upd;split<;>rfl
def aec{H:Hp}{a b:Addr}{o u:HO}(h:H a=some o)(h':H b=some u)(d:o≠u):a≠b:=by intro e;subst e;rw[h] at h';exact d (Option.some.inj h')
def cW{H:Hp}{a b:Addr}{o:HO}(h:H a=some o)(h':H b=none):a≠b:=by intro e;subst e;rw[h] at h';cases h'
def Bh(h:Heap)(a:Addr)(items:Array Value):Prop:=∃o,h.get? a=some o/\o.cls = .type "tuple"/\(∃n,o.data = .seq items n)/\o.dict=none
def Bh.is{h:Heap}{a:Addr}{items:Array Value}(x:Bh h a items):IsTup h a items:=let ⟨o,h1,h2,h3,_⟩:=x;⟨o,h1,h2,h3⟩
def Bh.new(h:Heap)(items:Array Value):Bh (h.push { cls:=.type "tuple",data:=.seq items }) h.objs.size items:=⟨_,Heap.get?_push_size _ rfl,rfl,⟨_,rfl⟩,rfl⟩
section
variable(P:Program)(w:World)
def gq(H:Hp)(h:Heap)(a:Addr):HO->Prop
 | .lst xs=>xs.length<=sizeLine/\∃(its:List Value) (n:Nat),Vals xs its/\h.get? a=some { cls:=.type "list",data:=.seq its.toArray n }
 | .tup xs=>xs.length<=sizeLine/\∃its:List Value,Vals xs its/\Bh h a its.toArray
 | .dK kvs=>kvs.length<=sizeLine/\(a == sysModules)=false/\∃vs,KV kvs vs/\h.DictOf (dZ P w) a vs
 | .dT kvs=>kvs.length<=sizeLine/\(a == sysModules)=false/\∃xs:List (List Key×Addr×Value),
   Paired (λ(p:List Key×V) (q:List Key×Addr×Value)=>p.1=q.1/\H q.2.1=some (.tup (p.1.map kV))/\RelV p.2 q.2.2) kvs xs/\
   ∃o es ep,h.get? a=some o/\o.ExactDict/\o.data = .dict es ep/\es.toList=xs.map (entryOfKey (tupleKind (dZ P w)))/\(xs.map (·.1)).Nodup
 | .dN kvs=>kvs.length<=sizeLine/\(a == sysModules)=false/\∃xs:List (NK×Addr×Value),
   Paired (λ(p:NK×V×V) (q:NK×Addr×Value)=>p.1=q.1/\p.2.1 = .ref q.2.1/\RelV p.2.2 q.2.2) kvs xs/\
   ∃o es ep,h.get? a=some o/\o.ExactDict/\o.data = .dict es ep/\es.toList=xs.map (entryOfKey (ql P w))/\(xs.map (·.1)).Nodup
 | .set S n=>h.SetOf (intKind P w) a S n
 | .ins C dx fs=>H dx=some (.own a)/\fs.length<=1000/\dx≠a/\h.get? a=some (PySem.W.instObj C dx)/\
   ∃mA,h.Ns1 dx mA/\(∀f,wM (fs.lookup f) (mA f))/\PySem.Within mA (fs.map (·.1))
 | .own _=>∃o,h.get? a=some o
 | .xd fs=>∃mA,h.Ns1 a mA/\∀f,wM (fs.lookup f) (mA f)
 | .rng lo hi=>∃t u v,h.get? a=some { cls:=.type "range",data:=.fields #[.int lo t,.int hi u,.int 1 v] }
 | .j5 o u=>h.get? a=some o/\gq H h a u
 | .YK ps=>h.get? a=some { cls:=.none,data:=.fields ps }
 | .tab qs=>∃ps:Array Value,h.get? a=some { cls:=.none,data:=.fields ps }/\TriplesOk ps.toList/\∀q∈qs,codeAmong q.1 ps.toList=none\/∃(c:Addr) (o:Obj) (u:HO) (vs:Array Value) (t:Tok),codeAmong q.1 ps.toList=some (.ref c)/\H c=some (.j5 o u)/\o.data = .fields vs/\vs[1]? = some (.str q.2 t)
 | .met f x=>h.get? a=some (PySem.W.methodObj (.ref f) (.ref x))
 | .ext φ=>φ h/\(∃o,h.get? a=some o)/\∀h1 h2:Heap,φ h1->(∀o,h1.get? a=some o->h2.get? a=some o)->φ h2
def tQ(H:Hp)(h:Heap):Prop:=∀a o,H a=some o->gq P w H h a o
end
section
variable{P:Program}{w:World}{H H':Hp}{h h':Heap}{a:Addr}{o:HO}
def gq.lt(x:gq P w H h a o):a<h.objs.size:=by
 cases o with
 | lst xs=>obtain⟨_,_,_,_,e⟩:=x;exact Heap.lt_size e
 | tup xs=>obtain⟨_,_,_,p⟩:=x;exact p.is.lt
 | dK kvs=>obtain⟨_,_,_,_,o,_,_,e,_⟩:=x;exact Heap.lt_size e
 | dT kvs=>obtain⟨_,_,_,_,o,_,_,e,_⟩:=x;exact Heap.lt_size e
 | dN kvs=>obtain⟨_,_,_,_,o,_,_,e,_⟩:=x;exact Heap.lt_size e
 | set S n=>obtain⟨o,_,_,_,e,_⟩:=x;exact Heap.lt_size e
 | ins C dx fs=>obtain⟨_,_,_,e,_⟩:=x;exact Heap.lt_size e
 | own y=>obtain⟨_,e⟩:=x;exact Heap.lt_size e
 | xd fs=>obtain⟨_,⟨_,_,_,e,_⟩,_⟩:=x;exact Heap.lt_size e
 | rng lo hi=>obtain⟨_,_,_,e⟩:=x;exact Heap.lt_size e
 | j5 ob u=>obtain⟨e,_⟩:=x;exact Heap.lt_size e
 | YK ps=>exact Heap.lt_size (show h.get? a=some _ from x)
 | tab qs=>obtain⟨_,e,_⟩:=x;exact Heap.lt_size e
 | met f y=>exact Heap.lt_size (show h.get? a=some _ from x)
 | ext φ=>obtain⟨_,⟨_,e⟩,_⟩:=x;exact Heap.lt_size e
theorem Paired.aaN{α β:Type}{F G:α->β->Prop}:∀{l₁:List α} {l₂:List β},Paired F l₁ l₂->(∀a b,F a b->G a b)->Paired G l₁ l₂
 | _,_,.nil,_=>.nil
 | _,_,.cons r t,f=>.cons (f _ _ r) (Paired.aaN t f)
def gq.stay(x:gq P w H h a o)(k:∀b u,(b=a\/H b=some (.own a))->h.get? b=some u->h'.get? b=some u)
  (ho:∀b,H b=some (.own a)->H' b=some (.own a)) (ht:∀b xs,H b=some (.tup xs)->H' b=some (.tup xs))
  (hz:∀(b:Addr) (o:Obj) (u:HO) (vs:Array Value),o.data = .fields vs->H b=some (.j5 o u)->H' b=some (.j5 o u):=by intro _ _ _ _ _ q;exact q):gq P w H' h' a o:=by
 induction o with
 | lst xs=>obtain⟨z,its,n,r,e⟩:=x;exact⟨z,its,n,r,k _ _ (.inl rfl) e⟩
 | tup xs=>obtain⟨z,its,r,ob,e,c⟩:=x;exact⟨z,its,r,ob,k _ _ (.inl rfl) e,c⟩
 | dK kvs=>obtain⟨z,y,vs,r,ob,es,ep,e,c⟩:=x;exact⟨z,y,vs,r,ob,es,ep,k _ _ (.inl rfl) e,c⟩
 | dT kvs=>
  obtain⟨z,y,xs,r,ob,es,ep,e,c⟩:=x;exact⟨z,y,xs,Paired.aaN r λp q z=>⟨z.1,ht _ _ z.2.1,z.2.2⟩,ob,es,ep,k _ _ (.inl rfl) e,c⟩
 | dN kvs=>obtain⟨z,y,xs,r,ob,es,ep,e,c⟩:=x;exact⟨z,y,xs,r,ob,es,ep,k _ _ (.inl rfl) e,c⟩
 | set S n=>obtain⟨ob,es,ep,t,e,c⟩:=x;exact⟨ob,es,ep,t,k _ _ (.inl rfl) e,c⟩
 | ins C dx fs=>
  obtain⟨d,z,ne,e,mA,⟨od,es,ep,e2,c⟩,r⟩:=x;exact⟨ho _ d,z,ne,k _ _ (.inl rfl) e,mA,⟨od,es,ep,k _ _ (.inr d) e2,c⟩,r⟩
 | own y=>obtain⟨ob,e⟩:=x;exact⟨ob,k _ _ (.inl rfl) e⟩
 | xd fs=>obtain⟨mA,⟨od,es,ep,e,c⟩,r⟩:=x;exact⟨mA,⟨od,es,ep,k _ _ (.inl rfl) e,c⟩,r⟩
 | rng lo hi=>obtain⟨t,u,v,e⟩:=x;exact⟨t,u,v,k _ _ (.inl rfl) e⟩
 | j5 ob u ih=>obtain⟨e,q⟩:=x;exact⟨k _ _ (.inl rfl) e,ih q⟩
 | YK ps=>
  have e:h.get? a=some { cls:=.none,data:=.fields ps }:=x;show h'.get? a=some { cls:=.none,data:=.fields ps };exact k a _ (.inl rfl) e
 | tab qs=>
  obtain⟨ps,e,t,r⟩:=x;refine⟨ps,k a _ (.inl rfl) e,t,λq hq=>?_⟩;rcases r q hq with z|⟨c,o,u,vs,t,h1,h2,h3,h4⟩
  ·exact .inl z
  ·exact .inr ⟨c,o,u,vs,t,h1,hz c o u vs h3 h2,h3,h4⟩
 | met f y=>
  have e:h.get? a=some (PySem.W.methodObj (.ref f) (.ref y)):=x;show h'.get? a=some (PySem.W.methodObj (.ref f) (.ref y));exact k a _ (.inl rfl) e
 | ext φ=>obtain⟨p,⟨o,e⟩,st⟩:=x;exact⟨st _ _ p λo q=>k _ _ (.inl rfl) q,⟨o,k _ _ (.inl rfl) e⟩,st⟩
def tQ.lt(x:tQ P w H h)(e:H a=some o):a<h.objs.size:=(x a o e).lt
def tQ.fresh(x:tQ P w H h)(e:h.objs.size<=a):H a=none:=by
 cases q:H a with
 | none=>rfl
 | some u=>exact absurd (Nat.lt_of_lt_of_le (x.lt q) e) (Nat.lt_irrefl _)
def tQ.kept(x:tQ P w H h)(k:∀b u,h.get? b=some u->h'.get? b=some u):tQ P w H h':=λa o e=>
 (x a o e).stay (λb u _ q=>k b u q) (λ_ q=>q) λ_ _ q=>q
def tQ.laid(x:tQ P w H h)(k:∀b u,h.get? b=some u->h'.get? b=some u)(hp:h.objs.size<=a)(new:gq P w (upd H a o) h' a o):tQ P w (upd H a o) h':=λb u e=>by
 have hn:=x.fresh hp;by_cases hb:b=a
 ·subst hb;rw[aZ] at e;cases e;exact new
 ·rw[bH hb] at e;exact(x b u e).stay (λc v _ q=>k c v q) (λc q=>by rw[bH (cW q hn)];exact q) (λc xs q=>by rw[bH (cW q hn)];exact q) λc _ _ _ _ q=>by rw[bH (cW q hn)];exact q
end
def Rd(H:Hp)(a:Addr)(u:HO):Prop:=H a=some u\/∃o,H a=some (.j5 o u)
def Rd.ok{P:Program}{w:World}{H:Hp}{h:Heap}{a:Addr}{u:HO}(r:Rd H a u)(x:tQ P w H h):gq P w H h a u:=by
 rcases r with r|⟨o,r⟩
 ·exact x a u r
 ·obtain⟨_,q⟩:=x a _ r;exact q
def Mut:Option HO->Prop
 | some (.lst _)=>True
 | some (.dK _)=>True
 | some (.dT _)=>True
 | some (.dN _)=>True
 | some (.set _ _)=>True
 | some (.ins _ _ _)=>True
 | some (.ext _)=>True
 | _=>False
section
variable{P:Program}{w:World}{H:Hp}{h h':Heap}{x e:Addr}{o':HO}
def tQ.write(ok:tQ P w H h)(mu:Mut (H x))(he:e=x\/H e=some (.own x))(k:∀b u,b≠e->h.get? b=some u->h'.get? b=some u)(heo:∃u,h'.get? e=some u)
  (new:gq P w (upd H x o') h' x o'):tQ P w (upd H x o') h':=λb u q=>by
 have ad8:∀c y,H c=some (.own y)->c≠x:=λc y r z=>by subst z;rw[r] at mu;exact mu
 have ahm:∀c xs,H c=some (.tup xs)->c≠x:=λc xs r z=>by subst z;rw[r] at mu;exact mu
 by_cases hb:b=x
 ·subst hb;rw[aZ] at q;cases q;exact new
 ·rw[bH hb] at q;by_cases hbe:b=e
  ·have q':H b=some (.own x):=by
    rcases he with z|z
    ·exact absurd (hbe.trans z) hb
    ·rw[hbe];exact z
   rw[q] at q';cases q';obtain⟨v,hv⟩:=heo;exact⟨v,by rw[hbe];exact hv⟩
  ·refine(ok b u q).stay (λc v hc r=>k c v ?_ r) (λc r=>by rw[bH (ad8 c b r)];exact r) (λc xs r=>by rw[bH (ahm c xs r)];exact r) λc _ _ _ _ r=>by rw[bH (λz=>by subst z;rw[r] at mu;exact mu)];exact r
   rcases hc with rfl|hc
   ·exact hbe
   ·rintro rfl;rcases he with z|z
    ·exact ad8 c b hc z
    ·rw[hc] at z;cases z;exact hb rfl
end
structure Un(fs ex:List Addr)(H H':Hp)(h h':Heap):Prop where
 keep:∀b o,h.get? b=some o->H b=none->b ∉ fs->b ∉ ex->h'.get? b=some o
 slot:∀b o,h.get? b=some o->H b=none->b∈fs->b ∉ ex->∃sl,h'.get? b=some { o with slots:=sl }
 free:∀b o,h.get? b=some o->H b=none->b ∉ ex->H' b=none
 there:∀b o,h.get? b=some o->b ∉ ex->∃o',h'.get? b=some o'
 tups:∀b xs,H b=some (.tup xs)->H' b=some (.tup xs)
 wD:∀b o u,H b=some (.j5 o u)->H' b=some (.j5 o u)
 Cv:∀b ps,H b=some (.YK ps)->∃more,H' b=some (.YK (ps++more))
 tabs:∀b qs,H b=some (.tab qs)->H' b=some (.tab qs)
section
variable{fs fs' ex ex':List Addr}{H H1 H2:Hp}{h h1 h2 h':Heap}{a x e:Addr}{o:HO}
def Un.any(u:Un fs ex H H1 h h1){b:Addr}{ob:Obj}(q:h.get? b=some ob)(n:H b=none)(hx:b ∉ ex):∃sl,h1.get? b=some { ob with slots:=sl }:=by
 by_cases hb:b∈fs
 ·exact u.slot b ob q n hb hx
 ·exact⟨ob.slots,u.keep b ob q n hb hx⟩
def Un.kept(k:∀b u,h.get? b=some u->h'.get? b=some u):Un fs ex H H h h':=
 ⟨λb ob q _ _ _=>k b ob q,λb ob q _ _ _=>⟨ob.slots,k b ob q⟩,λ_ _ _ n _=>n,λb ob q _=>⟨ob,k b ob q⟩,λ_ _ q=>q,λ_ _ _ q=>q,λ_ ps q=>⟨#[],by rw[q];simp⟩,λ_ _ q=>q⟩
def Un.refl:Un fs ex H H h h:=Un.kept λ_ _ q=>q
def Un.laid(k:∀b u,h.get? b=some u->h'.get? b=some u)(hp:h.objs.size<=a)(hn:H a=none):Un fs ex H (upd H a o) h h' where
 keep:=λb u q _ _ _=>k b u q
 slot:=λb u q _ _ _=>⟨u.slots,k b u q⟩
 free:=λb u q n _=>by rw[bH (Nat.ne_of_lt (Nat.lt_of_lt_of_le (Heap.lt_size q) hp))];exact n
 there:=λb u q _=>⟨u,k b u q⟩
 tups:=λb xs q=>by rw[bH (cW q hn)];exact q
 wD:=λb u xs q=>by rw[bH (cW q hn)];exact q
 Cv:=λb ps q=>⟨#[],by rw[bH (cW q hn),q];simp⟩
 tabs:=λb qs q=>by rw[bH (cW q hn)];exact q
def Un.write(mu:Mut (H x))(he:e=x\/H e=some (.own x))(k:∀b u,b≠e->h.get? b=some u->h'.get? b=some u)(heo:∃u,h'.get? e=some u):Un fs ex H (upd H x o) h h':=by
 have hx:∀b,H b=none->b≠x:=λb n z=>by subst z;rw[n] at mu;exact mu
 have hb:∀b,H b=none->b≠e:=λb n z=>by
  subst z;rcases he with r|r
  ·exact hx b n r
  ·rw[n] at r;cases r
 have hm:∀b u,H b=some u->¬Mut (some u)->b≠x:=λb u q nm z=>by subst z;rw[q] at mu;exact nm mu
 refine⟨λb u q n _ _=>k b u (hb b n) q,λb u q n _ _=>⟨u.slots,k b u (hb b n) q⟩,λb u q n _=>by rw[bH (hx b n)];exact n,λb u q _=>?_,
  λb xs q=>by rw[bH (hm b _ q λz=>z)];exact q,λb u xs q=>by rw[bH (hm b _ q λz=>z)];exact q,λb ps q=>⟨#[],by rw[bH (hm b _ q λz=>z),q];simp⟩,λb qs q=>by rw[bH (hm b _ q λz=>z)];exact q⟩
 by_cases hbe:b=e
 ·subst hbe;exact heo
 ·exact⟨u,k b u hbe q⟩
end
def trk(h:Heap)(H:Hp):List Addr:=(List.range h.objs.size).filter λa=>(H a).isSome
def Bb(h:Heap)(H:Hp):Heap:=PySem.W.hideAll h (trk h H)
def Ny(h:Heap)(H:Hp):(Bb h H).objs.size=h.objs.size:=PySem.W.hideAll_size _ _
def Sx{h:Heap}{H:Hp}{b:Addr}{o:Obj}(e:h.get? b=some o)(n:H b=none):(Bb h H).get? b=some o:=
 PySem.W.hideAll_get _ e λhm=>by
  have q:(H b).isSome=true:=(List.mem_filter.mp hm).2;rw[n] at q;simp at q
def VN{h:Heap}{H:Hp}{b:Addr}{o:Obj}(e:(Bb h H).get? b=some o):h.get? b=some o/\H b=none:=by
 have e':h.get? b=some o:=PySem.W.of_hideAll (trk h H) e;refine⟨e',?_⟩;cases q:H b with
 | none=>rfl
 | some x=>
  have hm:b∈trk h H:=List.mem_filter.mpr ⟨List.mem_range.mpr (Heap.lt_size e'),by simp[q]⟩;have z:(Bb h H).get? b=none:=PySem.W.hideAll_none (trk h H) hm;rw[z] at e;cases e
def WR(g h:Heap)(L:Addr):List (Addr×Obj):=(List.range h.objs.size).filterMap λa=>if a=L\/(g.get? a).isSome=true then none else (h.get? a).map λo=>(a,o)
def rest(g h:Heap)(L d:Addr):List (Addr×Obj):=(WR g h L).filter λp=>decide (p.1≠d)
structure Mod(K:PySem.W.Frag)(mg:Str->Option Value)(base:Heap):Prop where
 HJ:K.In base
 glob:base.Ns mainGlobals mg
 blt:∃mb,base.Ns builtinsNs mb/\∀x:Str,x ≠ "__name__"->mb x=bootBuiltins x
 nolimit:base.NoLimit
structure Cx where
 prog:Program
 w:World
 K:PySem.W.Frag
 mg:Str->Option Value
 base:Heap
 A:Around
 N:List Str
 s₀:Shared
 H₀:Hp
 env:Env
 outer:List Env
 stack:List Env
 ex:List Addr
 fn:Str->Bool
 calm:Bool
 pn:List (Addr×Obj)
 xe:Value->Shared->Prop
def frs(l:List Env):List Addr:=l.filterMap (·.frame)
abbrev Cx.fs(X:Cx):List Addr:=frs X.outer
def pD(sc:Scope)(x:Str):Prop:=sc.names.lookup x=some .local\/sc.names.lookup x=some .cell\/sc.names.lookup x=some .free
def Loc(sc:Scope)(x:Str):Prop:=sc.names.lookup x=some .local\/sc.names.lookup x=some .cell
def Look(env:Env)(h:Heap)(m:Str->Option Value)(x:Str)(u:Value):Prop:=
 (env.kindOf x=some .local/\m x=some u)\/((env.kindOf x=some .cell\/env.kindOf x=some .free)/\∃c,env.cells.lookup x=some c/\h.IsCell c (some u))
structure Cx.Ok(X:Cx):Prop where
 mod:Mod X.K X.mg X.base
 kind:X.env.scope.kind = .function
 glob:X.env.globals=mainGlobals
 blt:X.env.builtins=builtinsNs
 above:X.s₀.heap.objs.size<=X.env.locals
 inj:∀x y c,X.env.cells.lookup x=some c->X.env.cells.lookup y=some c->x=y
 has:∀x,(X.env.kindOf x=some .cell\/X.env.kindOf x=some .free)->∃c,X.env.cells.lookup x=some c
 cab:∀x c,X.fn x=true->X.env.cells.lookup x=some c->X.s₀.heap.objs.size<=c
 hd:X.calm=true->X.A.handled=none
 frames:X.A.frames=some X.stack
 eF:X.stack=X.outer\/(X.stack=X.env::X.outer/\X.env.frame=some X.env.locals)
 exf:∀b∈X.ex,b≠X.env.locals/\∀x c,X.env.cells.lookup x=some c->c≠b
 bs:∀b o,X.base.get? b=some o->X.s₀.heap.get? b=some o/\X.H₀ b=none
 TQ:X.base.objs.size<=X.s₀.heap.objs.size
 Rv:∀b o,X.base.get? b=some o->b ∉ X.ex
 S7:∀b∈X.ex,b ∉ X.fs
 uI:X.s₀.heap.FunFrames X.base X.outer
 XX:∀b∈X.fs,X.H₀ b=none
structure Inv(X:Cx)(pins:List (Addr×Obj))(σ:List (Option V))(H:Hp)(s:Shared):Prop where
 ok:X.Ok
 os:s.os=X.s₀.os
 bare:AllBare s.gens
 base:Un X.fs X.ex X.H₀ H X.s₀.heap s.heap
 loc:∃m,s.heap.Ns X.env.locals m/\∀(i:Nat) (x:Str) (v:V),X.N[i]? = some x->σ[i]? = some (some v)->pD X.env.scope x->∃u,RelV v u/\Look X.env s.heap m x u
 cell:∀x c,X.env.cells.lookup x=some c->∃v,s.heap.IsCell c v
 free:H X.env.locals=none
 qG:∀x c,X.env.cells.lookup x=some c->H c=none\/(X.fn x=false/\∃o u,H c=some (.j5 o u))
 pin:∀p∈X.pn++pins,s.heap.get? p.1=some p.2/\H p.1=none/\p.1≠X.env.locals/\p.1 ∉ X.fs/\∀v,p.2.data ≠ .cell v
 hok:tQ X.prog X.w H s.heap
 len:σ.length=X.N.length
section
variable{X:Cx}{pins:List (Addr×Obj)}{σ:List (Option V)}{H H':Hp}{s:Shared}{h':Heap}
def Cx.Ok.aho(ok:X.Ok){b:Addr}{o:Obj}(e:X.base.get? b=some o):b ∉ X.fs:=λhb=>by
 have:=(ok.uI.mem hb).1;rw[e] at this;cases this
def Inv.bs(I:Inv X pins σ H s):∀b o,X.base.get? b=some o->s.heap.get? b=some o/\H b=none:=λb o e=>
 ⟨I.base.keep b o (I.ok.bs b o e).1 (I.ok.bs b o e).2 (I.ok.aho e) (I.ok.Rv b o e),I.base.free b o (I.ok.bs b o e).1 (I.ok.bs b o e).2 (I.ok.Rv b o e)⟩
def Inv.bk(I:Inv X pins σ H s):∀b o,X.base.get? b=some o->s.heap.get? b=some o:=λb o e=>(I.bs b o e).1
def Inv.mod(I:Inv X pins σ H s):Mod X.K X.mg X.base:=I.ok.mod
def Inv.RP(I:Inv X pins σ H s):X.K.In s.heap:=I.ok.mod.HJ.keeps I.bk
def Inv.lt(I:Inv X pins σ H s):X.env.locals<s.heap.objs.size:=let ⟨_,hn,_⟩:=I.loc;hn.lt
def Inv.sz(I:Inv X pins σ H s):X.s₀.heap.objs.size<=s.heap.objs.size:=Nat.le_trans I.ok.above (Nat.le_of_lt I.lt)
def Inv.ahn(I:Inv X pins σ H s){a:Addr}(h:s.heap.objs.size<=a):a ∉ X.fs:=λhb=>by
 obtain⟨_,o,ho,_⟩:=I.ok.uI.mem hb;exact absurd (Nat.lt_of_lt_of_le (Heap.lt_size ho) (Nat.le_trans I.sz h)) (Nat.lt_irrefl _)
def Inv.X6(I:Inv X pins σ H s):∀x c,X.env.cells.lookup x=some c->c≠X.env.locals:=λx c e z=>by
 obtain⟨v,o,ho,hd⟩:=I.cell x c e;obtain⟨m,⟨o',es,ep,ho',hd',_⟩,_⟩:=I.loc;rw[z,ho'] at ho;cases ho;rw[hd'] at hd;cases hd
def Inv.uI(I:Inv X pins σ H s):s.heap.FunFrames X.base X.outer:=by
 have all:∀(l:List Env),(∀b∈frs l,b∈X.fs)->X.s₀.heap.FunFrames X.base l->s.heap.FunFrames X.base l:=by
  intro l
  induction l with
  | nil=>intro _ _;trivial
  | cons env r ih=>
   intro hs hl;obtain⟨hk,⟨L,o,hf,hn,ho,hd⟩,hr⟩:=hl;have hL:L∈X.fs:=hs L (by unfold frs;rw[List.filterMap_cons,hf];exact List.mem_cons_self);obtain⟨sl,e⟩:=I.base.slot L o ho (I.ok.XX L hL) hL λz=>I.ok.S7 L z hL;exact⟨hk,⟨L,_,hf,hn,e,hd⟩,ih (λb hb=>hs b (by unfold frs;rw[List.filterMap_cons,hf];exact List.mem_cons_of_mem _ hb)) hr⟩
 exact all X.outer (λ_ hb=>hb) I.ok.uI
def Inv.stack(I:Inv X pins σ H s):s.heap.FunFrames X.base X.stack:=by
 rcases I.ok.eF with e|⟨e,hf⟩
 ·rw[e];exact I.uI
 ·rw[e];obtain⟨m,hn,_⟩:=I.loc;refine .cons (by rw[I.ok.kind];decide) hf hn ?_ I.uI;exact Heap.get?_none_of_le (Nat.le_trans I.ok.TQ I.ok.above)
def Inv.CQ(I:Inv X pins σ H s):∀b∈frs X.stack,b∈X.env.locals::X.fs:=λb hb=>by
 rcases I.ok.eF with e|⟨e,hf⟩
 ·rw[e] at hb;exact List.mem_cons_of_mem _ hb
 ·rw[e] at hb;unfold frs at hb;rw[List.filterMap_cons,hf] at hb;exact hb
def Inv.Ku(I:Inv X pins σ H s):∀b∈frs X.stack,H b=none:=λb hb=>by
 rcases List.mem_cons.mp (I.CQ b hb) with e|hb
 ·rw[e];exact I.free
 ·obtain⟨_,o,ho,_⟩:=I.ok.uI.mem hb;exact I.base.free b o ho (I.ok.XX b hb) λz=>I.ok.S7 b z hb
def Inv.step{g':Array GenState}{t':Nat}{d':Drawn}{ch:List Addr}(I:Inv X pins σ H s)
  (hch:∀b∈ch,(b∈X.ex\/X.s₀.heap.objs.size<=b)/\b≠X.env.locals/\(∀x c,X.env.cells.lookup x=some c->c≠b)/\∀p∈X.pn++pins,p.1≠b)
  (keep:∀b o,b≠X.env.locals->b ∉ X.fs->b ∉ ch->s.heap.get? b=some o->H b=none->h'.get? b=some o)
  (slot:∀b o,b≠X.env.locals->b∈X.fs->b ∉ ch->s.heap.get? b=some o->H b=none->∃sl,h'.get? b=some { o with slots:=sl }) (free:∀b o,b ∉ ch->s.heap.get? b=some o->H b=none->H' b=none)
  (there:∀b o,b ∉ ch->s.heap.get? b=some o->∃o',h'.get? b=some o')
  (tups:∀b xs,H b=some (.tup xs)->H' b=some (.tup xs)) (wD:∀b o u,H b=some (.j5 o u)->H' b=some (.j5 o u)) (Cv:∀b ps,H b=some (.YK ps)->∃more,H' b=some (.YK (ps++more)))
  (ns:∀m,s.heap.Ns X.env.locals m->h'.Ns X.env.locals m) (hok:tQ X.prog X.w H' h') (hg:AllBare g')
  (tabs:∀(b:Addr) (qs:List (Pos×Str)),H b=some (.tab qs)->H' b=some (.tab qs):=by intro _ _ q;exact q) :
  Inv X pins σ H' { s with heap:=h',gens:=g',drawn:=d',toks:=t' }:=by
 have neL:∀b o,X.s₀.heap.get? b=some o->b≠X.env.locals:=λb o e=>Nat.ne_of_lt (Nat.lt_of_lt_of_le (Heap.lt_size e) I.ok.above);have neC:∀b o,X.s₀.heap.get? b=some o->b ∉ X.ex->b ∉ ch:=λb o e hx hb=>by
  rcases(hch b hb).1 with z|z
  ·exact hx z
  ·exact absurd (Nat.lt_of_lt_of_le (Heap.lt_size e) z) (Nat.lt_irrefl _)
 have cellK:∀x c,X.env.cells.lookup x=some c->∀v,s.heap.IsCell c v->h'.IsCell c v:=λx c e v ⟨o,ho,hd⟩=>by
  have nch:c ∉ ch:=λz=>(hch c z).2.2.1 x c e rfl;rcases I.qG x c e with hn|⟨_,fo,fu,hz⟩
  ·by_cases hc:c∈X.fs
   ·obtain⟨sl,q⟩:=slot c o (I.X6 x c e) hc nch ho hn;exact⟨_,q,hd⟩
   ·exact⟨o,keep c o (I.X6 x c e) hc nch ho hn,hd⟩
  ·have e1:=(I.hok c _ hz).1;rw[ho] at e1;cases e1;exact⟨o,(hok c _ (wD c o fu hz)).1,hd⟩
 refine⟨I.ok,I.os,hg,⟨λb o e n hb hx=>?_,λb o e n hb hx=>?_,λb o e n hx=>?_,λb o e hx=>?_,λb xs e=>tups b xs (I.base.tups b xs e),λb o xs e=>wD b o xs (I.base.wD b o xs e),λb ps e=>?_,λb qs e=>tabs b qs (I.base.tabs b qs e)⟩,?_,λx c e=>?_,?_,λx c e=>?_,λp hp=>?_,hok,I.len⟩
 ·exact keep b o (neL b o e) hb (neC b o e hx) (I.base.keep b o e n hb hx) (I.base.free b o e n hx)
 ·obtain⟨sl,e1⟩:=I.base.slot b o e n hb hx;obtain⟨sl',e2⟩:=slot b _ (neL b o e) hb (neC b o e hx) e1 (I.base.free b o e n hx);exact⟨sl',e2⟩
 ·obtain⟨o',e1⟩:=I.base.there b o e hx;exact free b o' (neC b o e hx) e1 (I.base.free b o e n hx)
 ·obtain⟨o',e1⟩:=I.base.there b o e hx;exact there b o' (neC b o e hx) e1
 ·obtain⟨m1,e1⟩:=I.base.Cv b ps e;obtain⟨m2,e2⟩:=Cv b _ e1;exact⟨m1++m2,by rw[e2,Array.append_assoc]⟩
 ·obtain⟨m,hn,hl⟩:=I.loc;refine⟨m,ns m hn,λi x v e1 e2 e3=>?_⟩;obtain⟨u,r,l⟩:=hl i x v e1 e2 e3;refine⟨u,r,?_⟩;rcases l with l|⟨k,c,e,z⟩
  ·exact .inl l
  ·exact .inr ⟨k,c,e,cellK x c e _ z⟩
 ·obtain⟨v,z⟩:=I.cell x c e;exact⟨v,cellK x c e v z⟩
 ·obtain⟨m,⟨o,_,_,ho,_⟩,_⟩:=I.loc;exact free _ o (λz=>(hch _ z).2.1 rfl) ho I.free
 ·rcases I.qG x c e with hn|⟨h1,fo,fu,hz⟩
  ·obtain⟨v,o,ho,hd⟩:=I.cell x c e;exact .inl (free c o (λz=>(hch c z).2.2.1 x c e rfl) ho hn)
  ·exact .inr ⟨h1,fo,fu,wD c fo fu hz⟩
 ·obtain⟨e,n,ne,nf,d⟩:=I.pin p hp;have nch:p.1 ∉ ch:=λz=>(hch p.1 z).2.2.2 p hp rfl;exact⟨keep p.1 p.2 ne nf nch e n,free p.1 p.2 nch e n,ne,nf,d⟩
def Inv.un{t':Nat}(I:Inv X pins σ H s)(u:Un X.fs [] H H' s.heap h')(hok:tQ X.prog X.w H' h'):Inv X pins σ H' { s with heap:=h',toks:=t' }:=by
 obtain⟨m,⟨o,es,ep,ho,r⟩,_⟩:=id I.loc;obtain⟨sl,hL⟩:=u.any ho I.free (by simp);exact I.step (g':=s.gens) (d':=s.drawn) (ch:=[]) (λ_ z=>nomatch z) (λb o _ hb _ e n=>u.keep b o e n hb (by simp)) (λb o _ hb _ e n=>u.slot b o e n hb (by simp)) (λb o _ e n=>u.free b o e n (by simp)) (λb o _ e=>u.there b o e (by simp)) u.tups u.wD u.Cv (λm' hm=>by
  obtain⟨o',es',ep',ho',r'⟩:=hm;rw[ho] at ho';cases ho';exact⟨_,es',ep',hL,r'⟩) hok I.bare u.tabs
def Inv.call{g':Array GenState}{t':Nat}{d':Drawn}{ch:List Addr}(I:Inv X pins σ H s)(u:Un (frs X.stack) ch H H' s.heap h')(hok:tQ X.prog X.w H' h')(hg:AllBare g')
  (hch:∀b∈ch,(b∈X.ex\/X.s₀.heap.objs.size<=b)/\b≠X.env.locals/\(∀x c,X.env.cells.lookup x=some c->c≠b)/\∀p∈X.pn++pins,p.1≠b) :
  Inv X pins σ H' { s with heap:=h',gens:=g',drawn:=d',toks:=t' }:=by
 obtain⟨m,⟨o,es,ep,ho,r⟩,_⟩:=id I.loc;obtain⟨sl,hL⟩:=u.any ho I.free λz=>(hch _ z).2.1 rfl;exact I.step (ch:=ch) hch (λb o hL hb hc e n=>u.keep b o e n (λz=>(List.mem_cons.mp (I.CQ b z)).elim hL hb) hc) (λb o _ _ hc e n=>u.any e n hc) (λb o hc e n=>u.free b o e n hc) (λb o hc e=>u.there b o e hc) u.tups u.wD u.Cv (λm' hm=>by
  obtain⟨o',es',ep',ho',r'⟩:=hm;rw[ho] at ho';cases ho';exact⟨_,es',ep',hL,r'⟩) hok hg u.tabs
def Inv.turned{t':Nat}{it:Addr}(I:Inv X pins σ H s)(k:∀b o,b≠it->s.heap.get? b=some o->h'.get? b=some o)(hn:H it=none)(hL:it≠X.env.locals)
  (h1:it∈X.ex\/X.s₀.heap.objs.size<=it) (h2:∀x c,X.env.cells.lookup x=some c->c≠it) (h3:∀p∈X.pn++pins,p.1≠it):Inv X pins σ H { s with heap:=h',toks:=t' }:=by
 have Xx:∀b u,H b=some u->b≠it:=λb u e z=>by rw[z,hn] at e;cases e
 refine I.step (g':=s.gens) (d':=s.drawn) (ch:=[it]) (λb hb=>?_) (λb o _ _ hc e _=>k b o (λz=>hc (by simp[z])) e) (λb o _ _ hc e _=>⟨o.slots,k b o (λz=>hc (by simp[z])) e⟩) (λ_ _ _ _ n=>n)
  (λb o hc e=>⟨o,k b o (λz=>hc (by simp[z])) e⟩) (λ_ _ e=>e) (λ_ _ _ e=>e) (λb ps e=>⟨#[],by rw[e];simp⟩) (λm hm=>?_) (λb u e=>?_) I.bare
 ·have e:b=it:=by simpa using hb
  subst e;exact⟨h1,hL,h2,h3⟩
 ·obtain⟨o,es,ep,ho,r⟩:=hm;exact⟨o,es,ep,k _ o (Ne.symm hL) ho,r⟩
 ·refine(I.hok b u e).stay (λc v hc q=>k c v ?_ q) (λ_ q=>q) λ_ _ q=>q;rcases hc with z|z
  ·rw[z];exact Xx b u e
  ·exact Xx c _ z
def Inv.tok(I:Inv X pins σ H s)(t:Nat):Inv X pins σ H { s with toks:=t }:=I.un (h':=s.heap) (t':=t) Un.refl I.hok
def Inv.kept{t':Nat}(I:Inv X pins σ H s)(k:∀b u,s.heap.get? b=some u->h'.get? b=some u):Inv X pins σ H { s with heap:=h',toks:=t' }:=I.un (Un.kept k) (I.hok.kept k)
def Inv.laid{a:Addr}{o:HO}{t':Nat}(I:Inv X pins σ H s)(k:∀b u,s.heap.get? b=some u->h'.get? b=some u)(hp:s.heap.objs.size<=a)(new:gq X.prog X.w (upd H a o) h' a o) :
  Inv X pins σ (upd H a o) { s with heap:=h',toks:=t' }:=I.un (Un.laid k hp (I.hok.fresh hp)) (I.hok.laid k hp new)
def Inv.write{x e:Addr}{o:HO}{t':Nat}(I:Inv X pins σ H s)(mu:Mut (H x))(he:e=x\/H e=some (.own x))(k:∀b u,b≠e->s.heap.get? b=some u->h'.get? b=some u)(heo:∃u,h'.get? e=some u)
  (new:gq X.prog X.w (upd H x o) h' x o):Inv X pins σ (upd H x o) { s with heap:=h',toks:=t' }:=I.un (Un.write mu he k heo) (I.hok.write mu he k heo new)
def Inv.KJ{Xo:List (Addr×Obj)}(I:Inv X pins σ H s)(h:∀p∈Xo,s.heap.get? p.1=some p.2/\H p.1=none/\p.1≠X.env.locals/\p.1 ∉ X.fs/\∀v,p.2.data ≠ .cell v):Inv X Xo σ H s:=
 ⟨I.ok,I.os,I.bare,I.base,I.loc,I.cell,I.free,I.qG,λp hp=>(List.mem_append.mp hp).elim (λz=>I.pin p (List.mem_append_left _ z)) (h p),I.hok,I.len⟩
def Gx{N:List Str}(hN:N.Nodup){i j:Nat}{x:Str}(a:N[i]? = some x)(b:N[j]? = some x):i=j:=by obtain⟨h1,e1⟩:=List.getElem?_eq_some_iff.mp a;obtain⟨h2,e2⟩:=List.getElem?_eq_some_iff.mp b;exact(List.getElem_inj hN).mp (e1.trans e2.symm)
def Bo{M:Model}{A:Around}{E:Value->Shared->Prop}{i:Nat}{x:Str}{v:V}{u:Value}{Q:Unit->Shared->Prop}(I:Inv X pins σ H s)(hN:X.N.Nodup)(hi:X.N[i]? = some x)(hx:Loc X.env.scope x)(r:RelV v u)
  (h:∀s',Inv X pins (σ.set i (some v)) H s'->(∃a,Heap.SameBut a s.heap s'.heap/\(a=X.env.locals\/X.env.cells.lookup x=some a))->Q () s') (hf:X.fn x=true\/X.env.scope.names.lookup x=some .local:=by first|exact .inl rfl|exact .inr rfl|assumption):wpAny M A (storeName X.env x u) Q E s:=by
 obtain⟨m,hn,hl⟩:=id I.loc;have hcls:(X.env.scope.kind == .class||(X.env.scope.kind == .module&&X.env.locals != X.env.globals))=false:=by rw[I.ok.kind];rfl
 have hiσ:i<σ.length:=by rw[I.len];exact(List.getElem?_eq_some_iff.mp hi).1
 have X6:=I.X6;have tracked:∀{a:Addr} {h':Heap},(∃o,s.heap.get? a=some o/\H a=none)->Heap.SameBut a s.heap h'->tQ X.prog X.w H h':=λ{a h'} ha hs b ob e=>by
  obtain⟨_,_,hfree⟩:=ha;refine(I.hok b ob e).stay (λc w' hc q=>(hs.2 c ?_).trans q) (λ_ q=>q) λ_ _ q=>q;rintro rfl;rcases hc with rfl|hc
  ·rw[hfree] at e;cases e
  ·rw[hfree] at hc;cases hc
 rcases hx with hk|hk
 ·refine wpAny_storeName_local hk hn (λh' hn' hs=>?_) hcls;obtain⟨oL,_,_,hoL,_⟩:=id hn;refine h _ ⟨I.ok,I.os,I.bare,⟨λb o e n hb hx=>?_,λb o e n hb hx=>?_,I.base.free,λb o e hx=>?_,I.base.tups,I.base.wD,I.base.Cv,I.base.tabs⟩,⟨_,hn',λj y v' e1 e2 e3=>?_⟩,λy c e=>?_,I.free,I.qG,λp hp=>?_,tracked ⟨oL,hoL,I.free⟩ hs,by simpa using I.len⟩ ⟨_,hs,.inl rfl⟩
  ·exact(hs.2 b (Nat.ne_of_lt (Nat.lt_of_lt_of_le (Heap.lt_size e) I.ok.above))).trans (I.base.keep b o e n hb hx)
  ·obtain⟨sl,e1⟩:=I.base.slot b o e n hb hx;exact⟨sl,(hs.2 b (Nat.ne_of_lt (Nat.lt_of_lt_of_le (Heap.lt_size e) I.ok.above))).trans e1⟩
  ·obtain⟨o',e1⟩:=I.base.there b o e hx;exact⟨o',(hs.2 b (Nat.ne_of_lt (Nat.lt_of_lt_of_le (Heap.lt_size e) I.ok.above))).trans e1⟩
  ·by_cases hj:j=i
   ·subst hj;rw[hi] at e1;cases e1;rw[List.getElem?_set_self hiσ] at e2;cases e2;exact⟨u,r,.inl ⟨hk,by simp⟩⟩
   ·rw[List.getElem?_set_ne (Ne.symm hj)] at e2;obtain⟨u',r',q⟩:=hl j y v' e1 e2 e3;refine⟨u',r',?_⟩;rcases q with ⟨k,e⟩|⟨k,c,e,z⟩
    ·refine .inl ⟨k,?_⟩;have:y≠x:=λe=>hj (Gx hN e1 (e ▸ hi));simp[this,e]
    ·exact .inr ⟨k,c,e,z.sameBut hs (X6 y c e)⟩
  ·obtain⟨w',z⟩:=I.cell y c e;exact⟨w',z.sameBut hs (X6 y c e)⟩
  ·obtain⟨e,n,ne,nf,d⟩:=I.pin p hp;exact⟨(hs.2 p.1 ne).trans e,n,ne,nf,d⟩
 ·have hfn:X.fn x=true:=by
   rcases hf with z|z
   ·exact z
   ·rw[z] at hk;cases hk
  obtain⟨c,hc⟩:=I.ok.has x (.inl hk);obtain⟨w',z⟩:=I.cell x c hc;refine wpAny_storeName_cell I.ok.kind hk hc z (λh' hc' hs=>?_);obtain⟨oc,hoc,aih⟩:=id z;refine h { s with heap:=h' } ⟨I.ok,I.os,I.bare,⟨λb o e n hb hx=>?_,λb o e n hb hx=>?_,I.base.free,λb o e hx=>?_,I.base.tups,I.base.wD,I.base.Cv,I.base.tabs⟩,⟨m,hn.sameBut hs (Ne.symm (X6 x c hc)),λj y v' e1 e2 e3=>?_⟩,λy c' e=>?_,I.free,I.qG,λp hp=>?_,tracked ⟨oc,hoc,(I.qG x c hc).resolve_right λz=>by rw[hfn] at z;cases z.1⟩ hs,by simpa using I.len⟩ ⟨c,hs,.inr hc⟩
  ·exact(hs.2 b (Nat.ne_of_lt (Nat.lt_of_lt_of_le (Heap.lt_size e) (I.ok.cab x c hfn hc)))).trans (I.base.keep b o e n hb hx)
  ·obtain⟨sl,e1⟩:=I.base.slot b o e n hb hx;exact⟨sl,(hs.2 b (Nat.ne_of_lt (Nat.lt_of_lt_of_le (Heap.lt_size e) (I.ok.cab x c hfn hc)))).trans e1⟩
  ·obtain⟨o',e1⟩:=I.base.there b o e hx;exact⟨o',(hs.2 b (Nat.ne_of_lt (Nat.lt_of_lt_of_le (Heap.lt_size e) (I.ok.cab x c hfn hc)))).trans e1⟩
  ·by_cases hj:j=i
   ·subst hj;rw[hi] at e1;cases e1;rw[List.getElem?_set_self hiσ] at e2;cases e2;exact⟨u,r,.inr ⟨.inl hk,c,hc,hc'⟩⟩
   ·rw[List.getElem?_set_ne (Ne.symm hj)] at e2;obtain⟨u',r',q⟩:=hl j y v' e1 e2 e3;refine⟨u',r',?_⟩;rcases q with q|⟨k,c',e,z'⟩
    ·exact .inl q
    ·refine .inr ⟨k,c',e,z'.sameBut hs ?_⟩;rintro rfl;exact hj (Gx hN e1 (I.ok.inj _ _ _ e hc ▸ hi))
  ·by_cases hcc:c'=c
   ·subst hcc;exact⟨_,hc'⟩
   ·obtain⟨w2,z2⟩:=I.cell y c' e;exact⟨w2,z2.sameBut hs hcc⟩
  ·obtain⟨e,n,ne,nf,d⟩:=I.pin p hp;refine⟨(hs.2 p.1 ?_).trans e,n,ne,nf,d⟩;intro q;rw[q,hoc] at e;have q':oc=p.2:=Option.some.inj e;exact d w' (by rw[<-q'];exact aih)
def uf{M:Model}{A:Around}{E:Value->Shared->Prop}{i:Nat}{x:Str}{v:V}{u:Value}{Q:Unit->Shared->Prop}(I:Inv X pins σ H s)(hN:X.N.Nodup)(hi:X.N[i]? = some x)(hx:Loc X.env.scope x)(r:RelV v u)
  (h:∀s',Inv X pins (σ.set i (some v)) H s'->Q () s') (hf:X.fn x=true\/X.env.scope.names.lookup x=some .local:=by first|exact .inl rfl|exact .inr rfl|assumption):wpAny M A (storeName X.env x u) Q E s:=
 Bo I hN hi hx r (λs' I' _=>h s' I') hf
def Inv.call'{s':Shared}{ch:List Addr}(I:Inv X pins σ H s)(ho:s'.os=s.os)(u:Un (frs X.stack) ch H H' s.heap s'.heap)(hok:tQ X.prog X.w H' s'.heap)(hg:AllBare s'.gens)
  (hch:∀b∈ch,(b∈X.ex\/X.s₀.heap.objs.size<=b)/\b≠X.env.locals/\(∀x c,X.env.cells.lookup x=some c->c≠b)/\∀p∈X.pn++pins,p.1≠b):Inv X pins σ H' s':=by
 obtain⟨h',g',d',t',o'⟩:=s';have e:o'=s.os:=ho;subst e;exact I.call (g':=g') (t':=t') (d':=d') u hok hg hch
end
abbrev XK:=Value->Option Addr->Hp->Prop
abbrev St:=List (Option V)
abbrev VK:=V->Hp->Prop
abbrev TE:=St->Hp->VK->Prop
abbrev TT:=St->Hp->(Bool->Hp->Prop)->Prop
abbrev TA:=St->Hp->(List V->Hp->Prop)->Prop
structure Ends where
 nx:St->Hp->Prop
 rt:VK
 bk:St->Hp->Prop:=λ_ _=>False
 ct:St->Hp->Prop:=λ_ _=>False
abbrev TS:=Ends->St->Hp->Prop
def EP(X:Cx)(pins:List (Addr×Obj))(σ:St)(Q:VK)(u:Value)(s':Shared):Prop:=∃v H',Inv X pins σ H' s'/\RelV v u/\Q v H'
def TP(X:Cx)(pins:List (Addr×Obj))(σ:St)(Q:Bool->Hp->Prop)(b:Bool)(s':Shared):Prop:=∃H',Inv X pins σ H' s'/\Q b H'
def AP(X:Cx)(pins:List (Addr×Obj))(σ:St)(Q:List V->Hp->Prop)(us:List Value)(s':Shared):Prop:=∃vs H',Inv X pins σ H' s'/\Vals vs us/\Q vs H'
def SP(X:Cx)(pins:List (Addr×Obj))(D:Ends)(f:Flow)(s':Shared):Prop:=
 match f with
 | .next=>∃σ' H',Inv X pins σ' H' s'/\D.nx σ' H'
 | .brk=>∃σ' H',Inv X pins σ' H' s'/\D.bk σ' H'
 | .cont=>∃σ' H',Inv X pins σ' H' s'/\D.ct σ' H'
 | .ret u=>∃v σ' H',Inv X pins σ' H' s'/\RelV v u/\D.rt v H'
def PE(X:Cx)(e:Expr)(t:TE):Prop:=
 ∀(pins:List (Addr×Obj)) (s:Shared) (σ:St) (H:Hp) (Q:VK),Inv X pins σ H s->t σ H Q->wpAny (model X.prog X.w) X.A (eval e X.env) (EP X pins σ Q) X.xe s
def PT(X:Cx)(e:Expr)(t:TT):Prop:=
 ∀(pins:List (Addr×Obj)) (s:Shared) (σ:St) (H:Hp) (Q:Bool->Hp->Prop),Inv X pins σ H s->t σ H Q->wpAny (model X.prog X.w) X.A (isTrue e X.env (eval e X.env)) (TP X pins σ Q) X.xe s
def PW(X:Cx)(e:Expr)(t:TT):Prop:=
 ∀(whole:Sem Value) (pins:List (Addr×Obj)) (s:Shared) (σ:St) (H:Hp) (Q:Bool->Hp->Prop),Inv X pins σ H s->t σ H Q->wpAny (model X.prog X.w) X.A (isTrue e X.env whole) (TP X pins σ Q) X.xe s
def PW.pt{X:Cx}{e:Expr}{t:TT}(h:PW X e t):PT X e t:=h _
def PA(X:Cx)(es:List Expr)(t:TA):Prop:=
 ∀(pos:Pos) (pins:List (Addr×Obj)) (s:Shared) (σ:St) (H:Hp) (Q:List V->Hp->Prop),Inv X pins σ H s->t σ H Q->wpAny (model X.prog X.w) X.A (spliced (backTo pos (starEach es X.env))) (AP X pins σ Q) X.xe s
def PS(X:Cx)(st:Stmt)(t:TS):Prop:=
 ∀(pins:List (Addr×Obj)) (s:Shared) (σ:St) (H:Hp) (D:Ends),Inv X pins σ H s->t D σ H->wpAny (model X.prog X.w) X.A (exec st X.env) (SP X pins D) X.xe s
def Et(X:Cx)(st:List Stmt)(t:TS):Prop:=
 ∀(pins:List (Addr×Obj)) (s:Shared) (σ:St) (H:Hp) (D:Ends),Inv X pins σ H s->t D σ H->wpAny (model X.prog X.w) X.A (execs st X.env) (SP X pins D) X.xe s
def gr{α:Type}{t:Sem α}{Q Q':α->Shared->Prop}{M:Model}{A:Around}{E:Value->Shared->Prop}{s:Shared}(h:wpAny M A t Q E s)(hQ:∀a s,Q a s->Q' a s):wpAny M A t Q' E s:=wpAny_mono h hQ λ_ _ x=>x
section
variable{X:Cx}
def Ur(i:Nat):TE:=λσ H Q=>∃v,σ[i]? = some (some v)/\Q v H
def tC(v:V):TE:=λ_ H Q=>Q v H
def jk{i:Nat}{x:Str}{pos:Pos}(hN:X.N[i]? = some x)(hv:pD X.env.scope x)(hd:iZ x:=by decide)(hcd:oU x:=by decide):PE X (.Name x pos) (Ur i):=by
 intro pins s σ H Q I h;obtain⟨v,e,h⟩:=h;obtain⟨m,hn,hl⟩:=I.loc;obtain⟨u,r,l⟩:=hl i x v hN e hv;have fin:EP X pins σ Q u s:=⟨v,H,I,r,h⟩;rcases l with ⟨hk,hm⟩|⟨hk,c,hc,hcell⟩
 ·exact wpAny_Name (wpAny_loadName_local I.ok.kind hk hn hm fin) hd
 ·rcases hk with hk|hk
  ·exact wpAny_Name (wpAny_loadName_cell I.ok.kind hk hc hcell fin) hd
  ·exact wpAny_Name (wpAny_loadName_free I.ok.kind hk hc hcell fin hcd) hd
def Ra{i j pos}:PE X (.Constant (.int i) j pos) (tC (.int i)):=λ_ _ _ H _ I h=>wpAny_Constant_int ⟨.int i,H,I.tok _,⟨_,rfl⟩,h⟩
def adZ{b j pos}:PE X (.Constant (.bool b) j pos) (tC (.bl b)):=λ_ _ _ H _ I h=>Constant_bool ⟨.bl b,H,I,rfl,h⟩
def Z6{j pos}:PE X (.Constant .none j pos) (tC .non):=λ_ _ _ H _ I h=>Constant_none ⟨.non,H,I,rfl,h⟩
def Z2{x j pos}:PE X (.Constant (.str x) j pos) (tC (.str x)):=λ_ _ _ H _ I h=>Calls.Constant_str ⟨.str x,H,I.tok _,⟨_,rfl⟩,h⟩
def Gl(X:Cx)(x:Str):Prop:=X.env.kindOf x=some .globalImplicit
def yg{E:Value->Shared->Prop}{pins:List (Addr×Obj)}{s:Shared}{σ:St}{H:Hp}{x:Str}{u:Value}{pos:Pos}{Q:Value->Shared->Prop}(I:Inv X pins σ H s)(hg:Gl X x)(hm:X.mg x=some u)(h:Q u s)
  (hd:iZ x:=by decide):wpAny (model X.prog X.w) X.A (eval (.Name x pos) X.env) Q E s:=
 Calls.Name_function_global I.ok.kind hg (Calls.loadGlobal_global (by rw[I.ok.glob];exact I.mod.glob.keeps I.bk) hm h) hd
def wg{E:Value->Shared->Prop}{pins:List (Addr×Obj)}{s:Shared}{σ:St}{H:Hp}{x:Str}{u:Value}{pos:Pos}{Q:Value->Shared->Prop}(I:Inv X pins σ H s)(hg:Gl X x)(hm:X.mg x=none)(hv:bootBuiltins x=some u)(h:Q u s)
  (hn:x ≠ "__name__":=by decide) (hd:iZ x:=by decide):wpAny (model X.prog X.w) X.A (eval (.Name x pos) X.env) Q E s:=by
 obtain⟨mb,h1,h2⟩:=I.mod.blt;exact Calls.Name_function_global I.ok.kind hg (Calls.loadGlobal_builtin (by rw[I.ok.glob];exact I.mod.glob.keeps I.bk) hm (by rw[I.ok.blt];exact h1.keeps I.bk) ((h2 x hn).trans hv) h) hd
def VD{x:Str}{v:V}{u:Value}{pos:Pos}(hg:Gl X x)(hm:X.mg x=some u)(r:RelV v u)(hd:iZ x:=by decide):PE X (.Name x pos) (tC v):=
 λ_ _ _ H _ I h=>yg I hg hm ⟨v,H,I,r,h⟩ hd
def VG{x:Str}{v:V}{u:Value}{pos:Pos}(hg:Gl X x)(hm:X.mg x=none)(hv:bootBuiltins x=some u)(r:RelV v u)(hn:x ≠ "__name__":=by decide)(hd:iZ x:=by decide):PE X (.Name x pos) (tC v):=
 λ_ _ _ H _ I h=>wg I hg hm hv ⟨v,H,I,r,h⟩ hn hd
variable{a b:Expr}{ta tb:TE}{pos:Pos}
def tB(t:TE):TT:=λσ H Q=>t σ H λx H1=>∃c,x = .bl c/\Q c H1
def ZM{e:Expr}{t:TE}(h:PE X e t)(he:∀whole,isTrue e X.env whole=(do let v <-whole;standAt e.pos;holding [v] (truthy v)):=by intro _;rfl):PT X e (tB t):=by intro pins s σ H Q I hw;refine isTrue_plain (gr (h pins s σ H _ I hw) λv s1 ⟨x,H1,I1,r1,q1⟩=>?_) (he _);obtain⟨d,rfl,q⟩:=q1;cases r1;exact wpAny_truthy_bool ⟨H1,I1,q⟩
variable{tA tB':TT}{rest:List Expr}
def ag8(t u:TT):TT:=λσ H Q=>t σ H λc H1=>if c=true then u σ H1 Q else Q false H1
def tOr(t u:TT):TT:=λσ H Q=>t σ H λc H1=>if c=true then Q true H1 else u σ H1 Q
def ag1(t:TT):TT:=λσ H Q=>t σ H λc H1=>Q (!c) H1
def pw_and1(ha:PT X a tA):PW X (.BoolOp .And [a] pos) tA:=by
 intro wh pins s σ H Q I h;refine isTrue_and (gr (ha pins s σ H Q I h) λc s1 e=>?_);cases c with
 | true=>exact isTrue_and_nil e
 | false=>exact e
def pw_or1(ha:PT X a tA):PW X (.BoolOp .Or [a] pos) tA:=by
 intro wh pins s σ H Q I h;refine isTrue_or (gr (ha pins s σ H Q I h) λc s1 e=>?_);cases c with
 | false=>exact isTrue_or_nil e
 | true=>exact e
def pw_and(ha:PT X a tA)(hb:PW X (.BoolOp .And (b::rest) pos) tB'):PW X (.BoolOp .And (a::b::rest) pos) (ag8 tA tB'):=by
 intro wh pins s σ H Q I h;refine isTrue_and (gr (ha pins s σ H _ I h) λc s1 ⟨H1,I1,q1⟩=>?_);cases c with
 | true=>exact hb wh pins s1 σ H1 Q I1 q1
 | false=>exact⟨H1,I1,q1⟩
def pw_or(ha:PT X a tA)(hb:PW X (.BoolOp .Or (b::rest) pos) tB'):PW X (.BoolOp .Or (a::b::rest) pos) (tOr tA tB'):=by
 intro wh pins s σ H Q I h;refine isTrue_or (gr (ha pins s σ H _ I h) λc s1 ⟨H1,I1,q1⟩=>?_);cases c with
 | true=>exact⟨H1,I1,q1⟩
 | false=>exact hb wh pins s1 σ H1 Q I1 q1
def ZP(ha:PT X a tA):PT X (.UnaryOp .Not a pos) (ag1 tA):=by intro pins s σ H Q I h;exact isTrue_not (ha pins s σ H (λc H1=>Q (!c) H1) I h)
def ac9(ta tb:TE):TE:=λσ H Q=>ta σ H λx H1=>∃c,x = .bl c/\if c=true then tb σ H1 Q else Q (.bl false) H1
def ag0(ta tb:TE):TE:=λσ H Q=>ta σ H λx H1=>∃c,x = .bl c/\if c=true then Q (.bl true) H1 else tb σ H1 Q
def ac3(ta:TE):TE:=λσ H Q=>ta σ H λx H1=>∃c,x = .bl c/\Q (.bl (!c)) H1
def Z4{op}{t:TE}(h:PE X a t):PE X (.BoolOp op [a] pos) t:=λpins s σ H Q I hw=>BoolOp_one (h pins s σ H Q I hw)
def Z8(ha:PE X a ta)(hb:PE X (.BoolOp .And (b::rest) pos) tb):PE X (.BoolOp .And (a::b::rest) pos) (ac9 ta tb):=by
 intro pins s σ H Q I h;refine BoolOp_and (gr (ha pins s σ H _ I h) λv s1 ⟨x,H1,I1,r1,q1⟩=>?_);obtain⟨c,rfl,q1⟩:=q1;cases r1;refine wpAny_truthy_bool ?_;cases c with
 | true=>exact hb pins s1 σ H1 Q I1 q1
 | false=>exact⟨.bl false,H1,I1,rfl,q1⟩
def adX(ha:PE X a ta)(hb:PE X (.BoolOp .Or (b::rest) pos) tb):PE X (.BoolOp .Or (a::b::rest) pos) (ag0 ta tb):=by
 intro pins s σ H Q I h;refine BoolOp_or (gr (ha pins s σ H _ I h) λv s1 ⟨x,H1,I1,r1,q1⟩=>?_);obtain⟨c,rfl,q1⟩:=q1;cases r1;refine wpAny_truthy_bool ?_;cases c with
 | false=>exact hb pins s1 σ H1 Q I1 q1
 | true=>exact⟨.bl true,H1,I1,rfl,q1⟩
def Z5(ha:PE X a ta):PE X (.UnaryOp .Not a pos) (ac3 ta):=by intro pins s σ H Q I h;refine UnaryOp_ (gr (ha pins s σ H _ I h) λv s1 ⟨x,H1,I1,r1,q1⟩=>?_);obtain⟨c,rfl,q1⟩:=q1;cases r1;exact not_of (wpAny_truthy_bool ⟨.bl (!c),H1,I1,rfl,q1⟩)
def tIf(t:TT)(ta tb:TE):TE:=λσ H Q=>t σ H λc H1=>if c=true then ta σ H1 Q else tb σ H1 Q
def Rb{c:Expr}(hc:PT X c tA)(ha:PE X a ta)(hb:PE X b tb):PE X (.IfExp c a b pos) (tIf tA ta tb):=by
 intro pins s σ H Q I h;refine wpAny_IfExp (gr (hc pins s σ H _ I h) λd s1 ⟨H1,I1,q1⟩=>?_);cases d with
 | true=>exact ha pins s1 σ H1 Q I1 q1
 | false=>exact hb pins s1 σ H1 Q I1 q1
end
def n8(K:PySem.W.Frag)(H:Hp)(a:Addr)(xs:List V):Prop:=
 Rd H a (.lst xs)\/
  ∃(o:Obj) (its:Array Value) (n:Nat),K.lookup a=some o/\o.cls = .type "list"/\o.dict=none/\o.data = .seq its n/\its.size<=sizeLine/\Vals xs its.toList
def lB(K:PySem.W.Frag)(H:Hp)(a:Addr)(xs:List V):Prop:=
 Rd H a (.tup xs)\/
  ∃(o:Obj) (its:Array Value) (n:Nat),K.lookup a=some o/\o.cls = .type "tuple"/\o.dict=none/\o.data = .seq its n/\its.size<=sizeLine/\Vals xs its.toList
def ai5:Value->Option V
 | .none=>some .non
 | .bool b=>some (.bl b)
 | .int i _=>some (.int i)
 | .str x _=>some (.str x)
 | .bytes b _=>some (.byt b)
 | .float b _=>some (.flt b)
 | .ref a=>some (.ref a)
 | .type n=>some (.ty n)
 | _=>none
def RelV.abs{x:V}{u:Value}(r:RelV x u):ai5 u=some x:=by
 cases x with
 | non=>cases r;rfl
 | bl _=>cases r;rfl
 | int _=>obtain⟨t,rfl⟩:=r;rfl
 | str _=>obtain⟨t,rfl⟩:=r;rfl
 | byt _=>obtain⟨t,rfl⟩:=r;rfl
 | flt _=>obtain⟨t,rfl⟩:=r;rfl
 | ref _=>cases r;rfl
 | ty _=>cases r;rfl
def RelV.inj{x y:V}{u:Value}(r:RelV x u)(q:RelV y u):x=y:=Option.some.inj (r.abs.symm.trans q.abs)
theorem Vals.inj:∀{xs ys:List V} {us:List Value},Vals xs us->Vals ys us->xs=ys
 | _,_,_,.nil,.nil=>rfl
 | _,_,_,.cons r t,.cons r' t'=>by rw[r.inj r',Vals.inj t t']
section
variable{X:Cx}{pins:List (Addr×Obj)}{σ:St}{H:Hp}{s:Shared}{a:Addr}{xs ys:List V}
theorem n8.of{K:PySem.W.Frag}(h:H a=some (.lst xs)):n8 K H a xs:=.inl (.inl h)
theorem lB.of{K:PySem.W.Frag}(h:H a=some (.tup xs)):lB K H a xs:=.inl (.inl h)
def Inv.list(I:Inv X pins σ H s)(h:n8 X.K H a xs):∃its:List Value,Vals xs its/\PlainL s.heap a its.toArray/\xs.length<=sizeLine:=by
 rcases h with h|⟨o,its,n,hk,hc,hd,hs,hz,r⟩
 ·obtain⟨z,its,n,r,e⟩:=h.ok I.hok;exact⟨its,r,⟨_,n,e,rfl,rfl,rfl⟩,z⟩
 ·refine⟨its.toList,r,⟨o,n,I.RP a o hk,hc,hd,by simpa using hs⟩,?_⟩;have e:=r.length;simp only[Array.length_toList] at e;omega
def Inv.tuple(I:Inv X pins σ H s)(h:lB X.K H a xs):∃its:List Value,Vals xs its/\IsTup s.heap a its.toArray/\xs.length<=sizeLine:=by
 rcases h with h|⟨o,its,n,hk,hc,hdn,hs,hz,r⟩
 ·obtain⟨z,its,r,p⟩:=h.ok I.hok;exact⟨its,r,p.is,z⟩
 ·refine⟨its.toList,r,⟨o,I.RP a o hk,hc,n,by simpa using hs⟩,?_⟩;have e:=r.length;simp only[Array.length_toList] at e;omega
def Inv.RJ(I:Inv X pins σ H s)(h:n8 X.K H a xs)(h':n8 X.K H a ys):xs=ys:=by
 obtain⟨its,r,⟨o,n,e,_,_,d⟩,_⟩:=I.list h;obtain⟨its',r',⟨o',n',e',_,_,d'⟩,_⟩:=I.list h';rw[e] at e';cases e';rw[d] at d';injection d' with d1 _
 have:its=its':=by simpa using congrArg Array.toList d1
 subst this;exact r.inj r'
def Inv.vA(I:Inv X pins σ H s)(h:lB X.K H a xs)(h':lB X.K H a ys):xs=ys:=by
 obtain⟨its,r,⟨o,e,_,n,d⟩,_⟩:=I.tuple h;obtain⟨its',r',⟨o',e',_,n',d'⟩,_⟩:=I.tuple h';rw[e] at e';cases e';rw[d] at d';injection d' with d1 _
 have:its=its':=by simpa using congrArg Array.toList d1
 subst this;exact r.inj r'
end
abbrev Cx.wish(X:Cx)(E:Value->Shared->Prop):Cx:={ X with xe:=E }
abbrev Cx.VV(X:Cx):Cx:=X.wish λ_ _=>False
def Cx.Ok.wish{X:Cx}(ok:X.Ok)(E:Value->Shared->Prop):(X.wish E).Ok:=
 ⟨ok.mod,ok.kind,ok.glob,ok.blt,ok.above,ok.inj,ok.has,ok.cab,ok.hd,ok.frames,ok.eF,ok.exf,ok.bs,ok.TQ,ok.Rv,ok.S7,ok.uI,ok.XX⟩
def Cx.Ok.pU{X:Cx}{E:Value->Shared->Prop}(ok:(X.wish E).Ok):X.Ok:=
 ⟨ok.mod,ok.kind,ok.glob,ok.blt,ok.above,ok.inj,ok.has,ok.cab,ok.hd,ok.frames,ok.eF,ok.exf,ok.bs,ok.TQ,ok.Rv,ok.S7,ok.uI,ok.XX⟩
section
variable{X:Cx}{pins:List (Addr×Obj)}{σ:St}{H:Hp}{s:Shared}{E:Value->Shared->Prop}
def Inv.wish(I:Inv X pins σ H s)(E:Value->Shared->Prop):Inv (X.wish E) pins σ H s:=⟨I.ok.wish E,I.os,I.bare,I.base,I.loc,I.cell,I.free,I.qG,I.pin,I.hok,I.len⟩
def Inv.pU(I:Inv (X.wish E) pins σ H s):Inv X pins σ H s:=⟨I.ok.pU,I.os,I.bare,I.base,I.loc,I.cell,I.free,I.qG,I.pin,I.hok,I.len⟩
def SP.pU{D:Ends}{f:Flow}{s':Shared}(h:SP (X.wish E) pins D f s'):SP X pins D f s':=by
 cases f with
 | next=>obtain⟨σ',H',I,q⟩:=h;exact⟨σ',H',I.pU,q⟩
 | brk=>obtain⟨σ',H',I,q⟩:=h;exact⟨σ',H',I.pU,q⟩
 | cont=>obtain⟨σ',H',I,q⟩:=h;exact⟨σ',H',I.pU,q⟩
 | ret u=>obtain⟨v,σ',H',I,r,q⟩:=h;exact⟨v,σ',H',I.pU,r,q⟩
def Et.VV{st:List Stmt}{t:TS}(h:Et X.VV st t):Et X st t:=λpins s σ H D I hw=>
 wpAny_mono (h pins s σ H D (I.wish _) hw) (λ_ _ q=>q.pU) λ_ _ z=>False.elim z
end
section
variable{X:Cx}{st:Stmt}{rest:List Stmt}{t u:TS}{e:Expr}{te:TE}{pos:Pos}
def ac5:TS:=λD σ H=>D.nx σ H
def agW(t u:TS):TS:=λD σ H=>t { D with nx:=u D } σ H
def Vs:Et X [] ac5:=λ_ _ σ H _ I h=>wpAny_execs_nil ⟨σ,H,I,h⟩
def QX(h1:PS X st t)(h2:Et X rest u):Et X (st::rest) (agW t u):=by
 intro pins s σ H D I h;refine wpAny_execs_cons (gr (h1 pins s σ H { D with nx:=u D } I h) λf s1 q=>?_);cases f with
 | next=>
  obtain⟨σ',H',I',q⟩:=q;exact h2 pins s1 σ' H' D I' q
 | ret v=>exact q
 | brk=>exact q
 | cont=>exact q
def KH(h1:PS X st t):Et X [st] t:=by
 intro pins s σ H D I h;refine wpAny_execs_cons (gr (h1 pins s σ H D I h) λf s1 q=>?_);cases f with
 | next=>exact wpAny_execs_nil q
 | ret v=>exact q
 | brk=>exact q
 | cont=>exact q
def ac8:TS:=λD σ H=>D.ct σ H
def Gp:PS X (.Continue pos) ac8:=λ_ _ σ H _ I h=>wpAny_Continue ⟨σ,H,I,h⟩
def Inv.quiet{pins:List (Addr×Obj)}{σ:St}{H:Hp}{s:Shared}(I:Inv X pins σ H s):interactive X.env=false:=by simp[interactive,I.ok.kind]
def ac6(te:TE):TS:=λD σ H=>te σ H λ_ H1=>D.nx σ H1
def Vt(he:PE X e te)(hs:swapsWith e none pos.line X.env=pure false:=by rfl):PS X (.Expr e pos) (ac6 te):=by intro pins s σ H D I h;exact wpAny_Expr_any (gr (he pins s σ H _ I h) λv s1 ⟨x,H1,I1,r1,q1⟩=>⟨σ,H1,I1,q1⟩) I.quiet hs
def agY(te:TE):TS:=λD σ H=>te σ H D.rt
def Jj(he:PE X e te):PS X (.Return (some e) pos) (agY te):=by intro pins s σ H D I h;exact wpAny_Return_some (gr (he pins s σ H _ I h) λv s1 ⟨x,H1,I1,r1,q1⟩=>⟨x,σ,H1,I1,r1,q1⟩)
def ag4(c:TT)(t u:TS):TS:=λD σ H=>c σ H λb H1=>if b=true then t D σ H1 else u D σ H1
def adT{c:Expr}{a b:List Stmt}{tc:TT}(hc:PT X c tc)(ha:Et X a t)(hb:Et X b u):PS X (.If c a b pos) (ag4 tc t u):=by
 intro pins s σ H D I h;refine wpAny_If (gr (hc pins s σ H _ I h) λd s1 ⟨H1,I1,q1⟩=>?_);cases d with
 | true=>exact ha pins s1 σ H1 D I1 q1
 | false=>exact hb pins s1 σ H1 D I1 q1
end
abbrev TG:=V->St->Hp->(St->Hp->Prop)->Prop
abbrev WX:=List V->St->Hp->(St->Hp->Prop)->Prop
def PG(X:Cx)(target:Expr)(t:TG):Prop:=
 ∀(pins:List (Addr×Obj)) (s:Shared) (σ:St) (H:Hp) (v:V) (u:Value) (Q:St->Hp->Prop),Inv X pins σ H s->RelV v u->t v σ H Q->
  wpAny (model X.prog X.w) X.A (assign target X.env u) (λ_ s'=>∃σ' H',Inv X pins σ' H' s'/\Q σ' H') X.xe s
def Ym(X:Cx)(ts:List Expr)(t:WX):Prop:=
 ∀(pins:List (Addr×Obj)) (s:Shared) (σ:St) (H:Hp) (vs:List V) (us:List Value) (Q:St->Hp->Prop),Inv X pins σ H s->Vals vs us->t vs σ H Q->
  wpAny (model X.prog X.w) X.A (assignInOrder ((assignEach ts X.env).map (·.2)) us) (λ_ s'=>∃σ' H',Inv X pins σ' H' s'/\Q σ' H') X.xe s
abbrev J6:=V->V->V->Hp->(Hp->Prop)->Prop
def afu(X:Cx)(t:J6):Prop:=
 ∀(pins:List (Addr×Obj)) (s:Shared) (σ:St) (H:Hp) (o i v:V) (ov iv u:Value) (Q:Hp->Prop),Inv X pins σ H s->RelV o ov->RelV i iv->RelV v u->t o i v H Q->
  wpAny (model X.prog X.w) X.A (setItem ov iv u) (λ_ s'=>∃H',Inv X pins σ H' s'/\Q H') X.xe s
abbrev TIp:=V->V->Hp->VK->Prop
def PIp(X:Cx)(op:Operator)(t:TIp):Prop:=
 ∀(pins:List (Addr×Obj)) (s:Shared) (σ:St) (H:Hp) (x y:V) (v u:Value) (Q:VK),Inv X pins σ H s->RelV x v->RelV y u->t x y H Q->
  wpAny (model X.prog X.w) X.A (inplaceOp op v u) (EP X pins σ Q) X.xe s
section
variable{X:Cx}{pos:Pos}
def G7(i:Nat):TG:=λv σ H Q=>Q (σ.set i (some v)) H
def VB{i:Nat}{x:Str}(hN:X.N.Nodup)(hi:X.N[i]? = some x)(hx:Loc X.env.scope x)(hf:X.fn x=true\/X.env.scope.names.lookup x=some .local:=by first|exact .inl rfl|exact .inr rfl|assumption):PG X (.Name x pos) (G7 i):=by intro pins s σ H v u Q I r h;exact wpAny_assign_Name (uf I hN hi hx r (λs' I'=>⟨_,H,I',h⟩) hf)
def aiC:WX:=λvs σ H Q=>vs=[]/\Q σ H
def ae0(t:TG)(u:WX):WX:=λvs σ H Q=>∃v r,vs=v::r/\t v σ H λσ' H'=>u r σ' H' Q
def Vz:Ym X [] aiC:=by intro pins s σ H vs us Q I r h;obtain⟨e,h⟩:=h;subst e;cases r;exact assignInOrder_nil ⟨σ,H,I,h⟩
def Q9{e:Expr}{es:List Expr}{t:TG}{u:WX}(h1:PG X e t)(h2:Ym X es u)
  (hs:(assignEach (e::es) X.env).map (·.2)=assign e X.env::(assignEach es X.env).map (·.2):=by rfl):Ym X (e::es) (ae0 t u):=by
 intro pins s σ H vs us Q I r h;obtain⟨v,vr,e1,h⟩:=h;subst e1;cases r with
 | cons r rr=>
  rw[hs];refine assignInOrder_cons (gr (h1 pins s σ H _ _ _ I r h) λ_ s1 ⟨σ1,H1,I1,q1⟩=>?_);exact h2 pins s1 σ1 H1 _ _ Q I1 rr q1
def aiu(K:PySem.W.Frag)(n:Nat)(t:WX):TG:=λv σ H Q=>∃a xs,v = .ref a/\lB K H a xs/\xs.length=n/\t xs σ H Q
def ZZ{es:List Expr}{k:Nat}{t:WX}{n:Nat}(hc:X.calm=true)(h:Ym X es t)
  (hn:(assignEach es X.env).length=n:=by rfl) (hst:(assignEach es X.env).findIdx? (·.1)=none:=by rfl):PG X (.Tuple es k pos) (aiu X.K n t):=by
 intro pins s σ H v u Q I r hw;obtain⟨a,xs,e1,hq,hl,hw⟩:=hw;subst e1;cases r;obtain⟨its,rv,ht,hz⟩:=I.tuple hq;refine assign_Tuple_tuple (I.ok.hd hc) ht (by simp[hn,<-hl,rv.length]) hst λh' hx=>?_;have I1:Inv X pins σ H { s with heap:=h' }:=I.kept (t':=s.toks) λb o e=>hx b o (Nat.ne_of_lt (Heap.lt_size e)) e;exact h pins _ σ H xs _ Q I1 (by simpa using rv) hw
def qz(to ti:TE)(t:J6):TG:=λv σ H Q=>to σ H λo H1=>ti σ H1 λi H2=>t o i v H2 λH3=>Q σ H3
def Z0{o i:Expr}{to ti:TE}{t:J6}(ho:PE X o to)(hi:PE X i ti)(hs:afu X t)
  (ha:∀v,assign (.Subscript o i pos) X.env v=(do
   let ov <-holding [v] (eval o X.env)
   let iv <-holding [v,ov] (eval i X.env)
   standAt pos
   holding [v,ov,iv] (setItem ov iv v)
   release [v,ov,iv] []):=by intro _;rfl):PG X (.Subscript o i pos) (qz to ti t):=by
 intro pins s σ H v u Q I r h;rw[ha];refine wpAny_bind (wpAny_holding (gr (ho pins s σ H _ I h) λov s1 ⟨x,H1,I1,r1,q1⟩=>?_));refine wpAny_bind (wpAny_holding (gr (hi pins s1 σ H1 _ I1 q1) λiv s2 ⟨y,H2,I2,r2,q2⟩=>?_));refine wpAny_bind (wpAny_standAt (wpAny_bind (wpAny_holding (gr (hs pins s2 σ H2 x y v ov iv u _ I2 r1 r2 r q2) λ_ s3 ⟨H3,I3,q3⟩=>?_))));exact wpAny_release ⟨σ,H3,I3,q3⟩
def Ut(te:TE)(g:TG):TS:=λD σ H=>te σ H λx H1=>g x σ H1 D.nx
def ZS{tg e:Expr}{te:TE}{g:TG}(he:PE X e te)(hg:PG X tg g)(hs:swapsWithSole [tg] e pos.line X.env=pure false:=by rfl)(hw:swappedStores [tg] e X.env=pure none:=by rfl)
  (h1:(assignEach [tg] X.env).map (·.2)=[assign tg X.env]:=by rfl):PS X (.Assign [tg] e pos) (Ut te g):=by
 intro pins s σ H D I h;refine wpAny_Assign_stores (gr (he pins s σ H _ I h) λv s1 ⟨x,H1,I1,r1,q1⟩=>?_) hs hw;rw[h1];exact gr (hg pins s1 σ H1 x v _ I1 r1 q1) λ_ s2 q=>q
def Q3{i:Nat}{x:Str}{e:Expr}{te:TE}{pos':Pos}(hN:X.N.Nodup)(hi:X.N[i]? = some x)(hx:Loc X.env.scope x)(he:PE X e te)(hs:swapsWith e (some (.Name x pos')) pos.line X.env=pure false:=by rfl)(hf:X.fn x=true\/X.env.scope.names.lookup x=some .local:=by first|exact .inl rfl|exact .inr rfl|assumption) :
  PS X (.Assign [.Name x pos'] e pos) (Ut te (G7 i)):=by
 intro pins s σ H D I h;refine wpAny_Assign_Name (gr (he pins s σ H _ I h) λv s1 ⟨y,H1,I1,r1,q1⟩=>?_) hs;exact uf I1 hN hi hx r1 (λs2 I2=>⟨_,H1,I2,q1⟩) hf
def ag7(i:Nat)(te:TE)(ti:TIp):TS:=λD σ H=>∃x,σ[i]? = some (some x)/\te σ H λy H1=>ti x y H1 λz H2=>D.nx (σ.set i (some z)) H2
def ZR{i:Nat}{x:Str}{e:Expr}{te:TE}{op:Operator}{ti:TIp}{pos':Pos}(hN:X.N.Nodup)(hi:X.N[i]? = some x)(hx:Loc X.env.scope x)(he:PE X e te)(ho:PIp X op ti)(hf:X.fn x=true\/X.env.scope.names.lookup x=some .local:=by first|exact .inl rfl|exact .inr rfl|assumption) :
  PS X (.AugAssign (.Name x pos') op e pos) (ag7 i te ti):=by
 intro pins s σ H D I h;obtain⟨v,e1,h⟩:=h;obtain⟨m,hn,hl⟩:=I.loc;have vis:pD X.env.scope x:=by rcases hx with k|k;exact .inl k;exact .inr (.inl k)
 obtain⟨u,r,l⟩:=hl i x v hi e1 vis;refine wpAny_AugAssign_Name ?_;have go:wpAny (model X.prog X.w) X.A (eval e X.env) (λw s₂=>wpAny (model X.prog X.w) X.A (inplaceOp op u w) (λr s₃=>wpAny (model X.prog X.w) X.A (storeName X.env x r) (λ_=>SP X pins D .next) X.xe s₃) X.xe s₂) X.xe s:=by refine gr (he pins s σ H _ I h) λw s1 ⟨y,H1,I1,r1,q1⟩=>?_;refine gr (ho pins s1 σ H1 v y u w _ I1 r r1 q1) λz s2 ⟨zv,H2,I2,r2,q2⟩=>?_;exact uf I2 hN hi hx r2 (λs3 I3=>⟨_,H2,I3,q2⟩) hf
 rcases l with ⟨hk,hm⟩|⟨hk,c,hc,hcell⟩
 ·exact wpAny_loadName_local I.ok.kind hk hn hm go
 ·rcases hk with hk|hk
  ·exact wpAny_loadName_cell I.ok.kind hk hc hcell go
  ·rcases hx with k|k
   ·have:X.env.scope.names.lookup x=some .free:=hk;rw[k] at this;cases this
   ·have:X.env.scope.names.lookup x=some .free:=hk;rw[k] at this;cases this
def ipI(f:Int->Int->Int):TIp:=λx y H Q=>∃i j,x = .int i/\y = .int j/\Q (.int (f i j)) H
def abm:PIp X .Add (ipI λi j=>i+j):=by intro pins s σ H x y v u Q I r1 r2 h;obtain⟨i,j,e1,e2,q⟩:=h;subst e1;subst e2;obtain⟨t,rfl⟩:=r1;obtain⟨t',rfl⟩:=r2;exact iadd_int ⟨.int _,H,I.tok _,⟨_,rfl⟩,q⟩
def YS(c:TT)(tb:TS):TS:=λD σ H=>∃W:Nat->St->Hp->Prop,(∃m,W m σ H)/\∀m σ H,W m σ H->
 c σ H λb H1=>if b=true then ∃N:St->Hp->Prop,(∀σ' H',N σ' H'->∃m',m'<m/\W m' σ' H')/\tb { D with nx:=N,ct:=N,bk:=D.nx } σ H1 else D.nx σ H1
def QZ{c:Expr}{body:List Stmt}{tc:TT}{tb:TS}(hp:PassesOwn (model X.prog X.w) X.A X.env X.xe)(hc:PT X c tc)(hb:Et X body tb):PS X (.While c body [] pos) (YS tc tb):=by
 intro pins s σ H D I h;obtain⟨W,⟨m0,w0⟩,turn⟩:=h;refine wpAny_While (codeAny_whileLoop (λn s'=>∃σ' H',Inv X pins σ' H' s'/\W n σ' H') ?_ m0 ⟨σ,H,I,w0⟩);rintro n s1 ⟨σ1,H1,I1,w1⟩;refine wpAny_passesOwn hp (gr (hc pins s1 σ1 H1 _ I1 (turn n σ1 H1 w1)) λb s2 ⟨H2,I2,q2⟩=>?_);cases b with
 | true=>
  obtain⟨N,hN,q2⟩:=q2;rw[if_pos rfl];refine wpAny_passesOwn hp (gr (hb pins s2 σ1 H2 _ I2 q2) λf s3 q3=>?_);cases f with
  | next=>
   obtain⟨σ3,H3,I3,n3⟩:=q3;obtain⟨m',hm,w3⟩:=hN σ3 H3 n3;exact⟨m',hm,σ3,H3,I3,w3⟩
  | cont=>
   obtain⟨σ3,H3,I3,n3⟩:=q3;obtain⟨m',hm,w3⟩:=hN σ3 H3 n3;exact⟨m',hm,σ3,H3,I3,w3⟩
  | brk=>exact q3
  | ret v=>exact q3
 | false=>
  rw[if_neg Bool.false_ne_true];exact wpAny_execs_nil ⟨σ1,H2,I2,q2⟩
end
structure It where
 go:Nat->Hp->Prop
 yld:Nat->Hp->V->Hp->Prop
 stop:Nat->Hp->Prop
def vh(X:Cx)(pins:List (Addr×Obj))(H:Hp)(b:Addr):Prop:=
 H b=none/\b≠X.env.locals/\b ∉ X.fs/\(b∈X.ex\/X.s₀.heap.objs.size<=b)/\(∀x c,X.env.cells.lookup x=some c->c≠b)/\∀p∈X.pn++pins,p.1≠b
def Inv.abE{X:Cx}{pins:List (Addr×Obj)}{σ:St}{H H':Hp}{s:Shared}{b:Addr}(I:Inv X pins σ H s)(hb:s.heap.objs.size<=b)(hn:H' b=none):vh X pins H' b:=by
 refine⟨hn,Nat.ne_of_gt (Nat.lt_of_lt_of_le I.lt hb),I.ahn hb,.inr (Nat.le_trans I.sz hb),λx c e z=>?_,λp hp z=>?_⟩
 ·obtain⟨v,q⟩:=I.cell x c e;exact absurd (Nat.lt_of_lt_of_le q.lt (by rw[z];exact hb)) (Nat.lt_irrefl _)
 ·exact absurd (Nat.lt_of_lt_of_le (Heap.lt_size (I.pin p hp).1) (by rw[z];exact hb)) (Nat.lt_irrefl _)
structure Turn(P:Program)(w:World)(K:PySem.W.Frag)(tg:Expr)(J:It)(fp:List Addr)(it:Addr)(tn:Nat->Heap->Prop):Prop where
 mem:it∈fp
 obj:∀i h,tn i h->∀b∈fp,∃o,h.get? b=some o/\∀v,o.data ≠ .cell v
 keep:∀i h h',tn i h->(∀b∈fp,∀o,h.get? b=some o->h'.get? b=some o)->tn i h'
 item:∀(X:Cx),X.prog=P->X.w=w->X.K=K->X.calm=true->∀(i:Nat) (pins:List (Addr×Obj)) (s:Shared) (σ:St) (H:Hp) (E:Value->Shared->Prop),Inv X pins σ H s->(∀b∈fp,vh X pins H b)->tn i s.heap->J.go i H->
  wpAny (model P w) X.A (pyNext (.ref it)) (λr s1=>∃u,r=some u/\
   wpAny (model P w) X.A (letOwnedTupleGo tg (.ref it) u) (λ_ s2=>∃x H',Inv X pins σ H' s2/\RelV x u/\J.yld i H x H'/\tn (i+1) s2.heap/\∀b∈fp,H' b=none) E s1) E s
 done:∀(X:Cx),X.prog=P->X.w=w->X.K=K->X.calm=true->∀(i:Nat) (pins:List (Addr×Obj)) (s:Shared) (σ:St) (H:Hp) (E:Value->Shared->Prop),Inv X pins σ H s->(∀b∈fp,vh X pins H b)->tn i s.heap->J.stop i H->
  wpAny (model P w) X.A (pyNext (.ref it)) (λr s1=>r=none/\Inv X pins σ H s1) E s
 self:∀(A:Around) (i:Nat) (s:Shared) (Q:Value->Shared->Prop) (E:Value->Shared->Prop),tn i s.heap->Q (.ref it) s->wpAny (model P w) A (pyIter (.ref it)) Q E s
abbrev TI:=St->Hp->(It->Hp->Prop)->Prop
def PIE(X:Cx)(pins:List (Addr×Obj))(σ:St)(tg:Expr)(R:It->Hp->Prop)(itv:Value)(s2:Shared):Prop:=
 ∃(it:Addr) (fp:List Addr) (tn:Nat->Heap->Prop) (J:It) (H':Hp),itv = .ref it/\Inv X pins σ H' s2/\Turn X.prog X.w X.K tg J fp it tn/\tn 0 s2.heap/\(∀b∈fp,vh X pins H' b)/\R J H'
def PI(X:Cx)(tg iter:Expr)(wi:TI):Prop:=
 ∀(pins:List (Addr×Obj)) (s:Shared) (σ:St) (H:Hp) (R:It->Hp->Prop),Inv X pins σ H s->wi σ H R->
  wpAny (model X.prog X.w) X.A (eval iter X.env) (λv s1=>wpAny (model X.prog X.w) X.A (pyIter v) (PIE X pins σ tg R) X.xe s1) X.xe s
def G4{M : Model}{A : Around}{E : Value → Shared → Prop}{s : Shared}{tg : Expr}{it : Addr}{u : Value}{o : Obj}{n : String}{vs : Array Value}{Q : Unit → Shared → Prop}(ho : s.heap.get? it = some o)(hc : o.cls = .type n)(hd : o.data = .fields vs)
    (hn : ["enumerate", "zip", "dict_itemiterator", "dict_reverseitemiterator", "odict_iterator", "itertools.zip_longest", "itertools.pairwise"].contains n = false) (hQ : Q () s) : wpAny M A (letOwnedTupleGo tg (.ref it) u) Q E s := by
  unfold letOwnedTupleGo;cases tg <;> first
    | exact wpAny_pure hQ
    | (cases u <;> first
        | exact wpAny_pure hQ
        | (refine wpAny_bind (wpAny_load ho ?_)
           rw [hc, hd];show wpAny M A (if (["enumerate", "zip", "dict_itemiterator", "dict_reverseitemiterator", "odict_iterator", "itertools.zip_longest", "itertools.pairwise"].contains n && vs[0]? == some (rawInt _)) = true then _ else _) Q E s;rw [if_neg (by intro h; rw [hn, Bool.false_and] at h; cases h)];exact wpAny_pure hQ))
def Itl(K:PySem.W.Frag)(a:Addr):It:=
 ⟨λi H=>∃xs x,n8 K H a xs/\xs[i]? = some x,λi H x H'=>H'=H/\∀xs,n8 K H a xs->xs[i]? = some x,λi H=>∃xs,n8 K H a xs/\xs.length<=i⟩
def Itt(K:PySem.W.Frag)(a:Addr):It:=
 ⟨λi H=>∃xs x,lB K H a xs/\xs[i]? = some x,λi H x H'=>H'=H/\∀xs,lB K H a xs->xs[i]? = some x,λi H=>∃xs,lB K H a xs/\xs.length<=i⟩
def Itr(lo:Int)(n:Nat):It:=⟨λi _=>i<n,λi H x H'=>H'=H/\x = .int (lo+i),λi _=>n<=i⟩
theorem Mm{P:Program}{w:World}{K:PySem.W.Frag}{tg:Expr}(a it:Addr):Turn P w K tg (Itl K a) [it] it (λi h=>h.IsListIter it a i) where
 mem:=by simp
 obj:=λi h st b hb=>by
  have e:b=it:=by simpa using hb
  subst e;obtain⟨o,e,c,d⟩:=st;exact⟨o,e,λv z=>by rw[d] at z;cases z⟩
 keep:=λi h h' st k=>st.at λo e=>k it (by simp) o e
 item:=by intro X hP hw hK hc i pins s σ H E I hf st hg;subst hP hw hK;obtain⟨xs,x,hq,hx⟩:=hg;obtain⟨its,rv,p,hz⟩:=I.list hq;obtain⟨u,hu,ru⟩:=rv.get hx;obtain⟨f0,f1,f2,f3,f4,f5⟩:=hf it (by simp);refine wpAny_pyNext_list_item st p.isList (x:=u) (by simpa using hu) λh' st' sb=>?_;have I1:Inv X pins σ H { s with heap:=h' }:=I.turned (t':=s.toks) (λb o hb e=>(sb.2 b hb).trans e) f0 f1 f3 f4 f5;obtain⟨o,e,c,d⟩:=id st';exact⟨u,rfl,G4 (s:={ s with heap:=h' }) e c d (by decide) ⟨x,H,I1,ru,⟨rfl,λys hy=>by rw[I.RJ hy hq];exact hx⟩,st',λb hb=>(hf b hb).1⟩⟩
 done:=by intro X hP hw hK hc i pins s σ H E I hf st hg;subst hP hw hK;obtain⟨xs,hq,hx⟩:=hg;obtain⟨its,rv,p,hz⟩:=I.list hq;obtain⟨f0,f1,f2,f3,f4,f5⟩:=hf it (by simp);have hl:=rv.length;exact wpAny_pyNext_list_end (I.ok.hd hc) st p.isList (by simp;omega) λh' eb=>⟨rfl,I.turned (t':=s.toks) (λb o hb e=>eb b o hb e) f0 f1 f3 f4 f5⟩
 self:=λ_ _ _ _ _ st h=>wpAny_pyIter_listiter st h
theorem Ih{P:Program}{w:World}{K:PySem.W.Frag}{tg:Expr}(a it:Addr):Turn P w K tg (Itt K a) [it] it (λi h=>h.IsTupleIter it a i) where
 mem:=by simp
 obj:=λi h st b hb=>by
  have e:b=it:=by simpa using hb
  subst e;obtain⟨o,e,c,d⟩:=st;exact⟨o,e,λv z=>by rw[d] at z;cases z⟩
 keep:=λi h h' st k=>st.at λo e=>k it (by simp) o e
 item:=by intro X hP hw hK hc i pins s σ H E I hf st hg;subst hP hw hK;obtain⟨xs,x,hq,hx⟩:=hg;obtain⟨its,rv,p,hz⟩:=I.tuple hq;obtain⟨u,hu,ru⟩:=rv.get hx;obtain⟨f0,f1,f2,f3,f4,f5⟩:=hf it (by simp);refine wpAny_pyNext_tuple_item st (show s.heap.IsTuple a its.toArray from p) (x:=u) (by simpa using hu) λh' st' sb=>?_;have I1:Inv X pins σ H { s with heap:=h' }:=I.turned (t':=s.toks) (λb o hb e=>(sb.2 b hb).trans e) f0 f1 f3 f4 f5;obtain⟨o,e,c,d⟩:=id st';exact⟨u,rfl,G4 (s:={ s with heap:=h' }) e c d (by decide) ⟨x,H,I1,ru,⟨rfl,λys hy=>by rw[I.vA hy hq];exact hx⟩,st',λb hb=>(hf b hb).1⟩⟩
 done:=by intro X hP hw hK hc i pins s σ H E I hf st hg;subst hP hw hK;obtain⟨xs,hq,hx⟩:=hg;obtain⟨its,rv,p,hz⟩:=I.tuple hq;obtain⟨f0,f1,f2,f3,f4,f5⟩:=hf it (by simp);have hl:=rv.length;exact wpAny_pyNext_tuple_end (I.ok.hd hc) st (show s.heap.IsTuple a its.toArray from p) (by simp;omega) λh' eb=>⟨rfl,I.turned (t':=s.toks) (λb o hb e=>eb b o hb e) f0 f1 f3 f4 f5⟩
 self:=λ_ _ _ _ _ st h=>wpAny_pyIter_tupleiter st h
theorem Ii{P:Program}{w:World}{K:PySem.W.Frag}{tg:Expr}(it:Addr)(lo:Int)(n:Nat):Turn P w K tg (Itr lo n) [it] it (λi h=>IsRangeIter h it (lo+(i:Nat)*1) ((n:Int) - (i:Nat)) 1) where
 mem:=by simp
 obj:=λi h st b hb=>by
  have e:b=it:=by simpa using hb
  subst e;exact⟨_,st,λv z=>by
   have z':Data.fields _=Data.cell v:=z;cases z'⟩
 keep:=λi h h' st k=>k it (by simp) _ st
 item:=by intro X hP hw hK hc i pins s σ H E I hf st hg;subst hP hw hK;obtain⟨f0,f1,f2,f3,f4,f5⟩:=hf it (by simp);have W:=Walks.range (prog:=X.prog) (w:=X.w) (I.ok.hd hc) it lo 1 n;refine W.item i s _ _ hg st λv h' tk hv st' kk=>?_;obtain⟨t,rfl⟩:=hv;have I1:Inv X pins σ H { s with heap:=h',toks:=tk }:=I.turned (λb o hb e=>kk b o (by simpa using hb) e) f0 f1 f3 f4 f5;refine⟨_,rfl,G4 (s:={ s with heap:=h',toks:=tk }) (n:="range_iterator") st' rfl rfl (by decide) ⟨.int (lo+i),H,I1,⟨t,?_⟩,⟨rfl,rfl⟩,st',λb hb=>(hf b hb).1⟩⟩;rw[Int.mul_one]
 done:=by intro X hP hw hK hc i pins s σ H E I hf st hg;subst hP hw hK;obtain⟨f0,f1,f2,f3,f4,f5⟩:=hf it (by simp);exact wpAny_pyNext_range_end (I.ok.hd hc) st (by have:n<=i:=hg;omega) λh' eb=>⟨rfl,I.turned (t':=s.toks) (λb o hb e=>eb b o hb e) f0 f1 f3 f4 f5⟩
 self:=λ_ _ _ _ _ st h=>wpAny_pyIter_rangeiter st h
section
variable{X:Cx}{tg:Expr}
def Gf{pins:List (Addr×Obj)}{σ:St}{H:Hp}{s:Shared}{R:It->Hp->Prop}{E:Value->Shared->Prop}{lo hi:Int}{t u v:Tok}{tk:Nat}(I:Inv X pins σ H s)(h1 : -(2^62)<=lo)(h2:lo<2^62)(h3 : -(2^62)<=hi)(h4:hi<2^62)
  (q:R (Itr lo (hi - lo).toNat) H):wpAny (model X.prog X.w) X.A (pyIter (.ref s.heap.objs.size)) (PIE X pins σ tg R) E { s with heap:=s.heap.push { cls:=.type "range",data:=.fields #[.int lo t,.int hi u,.int 1 v] },toks:=tk }:=by
 refine wpAny_pyIter_range (IsRange.new ..) (small_one h1 h2 h3 h4) ?_;have I1:Inv X pins σ H { s with heap:=s.heap.push { cls:=.type "range",data:=.fields #[.int lo t,.int hi u,.int 1 v] },toks:=tk }:=I.kept λb o e=>Heap.get?_push_of_some _ e;refine⟨(s.heap.push { cls:=.type "range",data:=.fields #[.int lo t,.int hi u,.int 1 v] }).objs.size,[(s.heap.push { cls:=.type "range",data:=.fields #[.int lo t,.int hi u,.int 1 v] }).objs.size],_,_,H,rfl,
  I1.kept (t':=tk) λb o e=>Heap.get?_push_of_some _ e,Ii _ lo (hi - lo).toNat,?_,λb hb=>?_,q⟩
 ·have e1:lo+((0:Nat):Int)*1=lo:=by simp
  have e2:(((hi - lo).toNat:Nat):Int) - ((0:Nat):Int)=Builtin.Range.rangeSize lo hi 1:=by rw[rangeSize_one];split<;>omega
  show IsRangeIter _ _ (lo+((0:Nat):Int)*1) ((((hi - lo).toNat:Nat):Int) - ((0:Nat):Int)) 1;rw[e1,e2];exact Heap.get?_push_size _ rfl
 ·have e:b=(s.heap.push { cls:=.type "range",data:=.fields #[.int lo t,.int hi u,.int 1 v] }).objs.size:=by simpa using hb
  subst e;exact I1.abE (Nat.le_refl _) (I1.hok.fresh (Nat.le_refl _))
def aeK(ta:TA):TI:=λσ H R=>ta σ H λvs H1=>∃j:Int,vs=[.int j]/\-(2^62)<=j/\j<2^62/\R (Itr 0 j.toNat) H1
def aeJ(ta:TA):TI:=λσ H R=>ta σ H λvs H1=>∃i j:Int,vs=[.int i,.int j]/\(-(2^62)<=i/\i<2^62/\-(2^62)<=j/\j<2^62)/\R (Itr i (j - i).toNat) H1
def M6{a:Expr}{ta:TA}{p pos:Pos}(hg:Gl X "range")(hm:X.mg "range" = none)(ha:PA X [a] ta)(hs:starEach [a] X.env=[(false,eval a X.env)]:=by rfl):PI X tg (.Call (.Name "range" p) [a] [] pos) (aeK ta):=by
 intro pins s σ H R I h;refine Call_ (wg I hg hm boot_range (PyProof.Rows.callWith_type1 (gr (ha pos pins s σ H _ I h) λus s1 ⟨vs,H1,I1,r1,q1⟩=>?_) hs rfl));obtain⟨j,e,q1,q2,q⟩:=q1;subst e;cases r1 with
 | cons r rr=>
  cases rr;obtain⟨t,rfl⟩:=r;exact call_range_1 (Gf I1 (by omega) (by omega) q1 q2 (by simpa using q))
def M5{a b:Expr}{ta:TA}{p pos:Pos}(hg:Gl X "range")(hm:X.mg "range" = none)(ha:PA X [a,b] ta)(hs:starEach [a,b] X.env=[(false,eval a X.env),(false,eval b X.env)]:=by rfl)(hs2:starEach [b] X.env=[(false,eval b X.env)]:=by rfl) :
  PI X tg (.Call (.Name "range" p) [a,b] [] pos) (aeJ ta):=by
 intro pins s σ H R I h;refine Call_ (wg I hg hm boot_range (PyProof.Rows.callWith_type1 (gr (ha pos pins s σ H _ I h) λus s1 ⟨vs,H1,I1,r1,q1⟩=>?_) (by rw[hs,hs2]) (by rw[hs2];rfl)));obtain⟨i,j,e,⟨q1,q2,q3,q4⟩,q⟩:=q1;subst e;cases r1 with
 | cons r rr=>
  cases rr with
  | cons r' rr=>
   cases rr;obtain⟨t,rfl⟩:=r;obtain⟨t',rfl⟩:=r';exact call_range_2 (Gf I1 q1 q2 q3 q4 q)
def ag5(wi:TI)(g:TG)(tb:TS):TS:=λD σ H=>wi σ H λJ H1=>∃W:Nat->Nat->St->Hp->Prop,(∃m,W 0 m σ H1)/\∀i m σ H,W i m σ H->
 (J.stop i H/\D.nx σ H)\/(J.go i H/\∃N:St->Hp->Prop,(∀σ' H',N σ' H'->∃m',m'<m/\W (i+1) m' σ' H')/\∀x H',J.yld i H x H'->g x σ H' λσ2 H2=>tb { D with nx:=N,ct:=N,bk:=D.nx } σ2 H2)
def yQ(fp:List Addr)(h:Heap):List (Addr×Obj):=fp.filterMap λb=>(h.get? b).map λo=>(b,o)
def oV{fp:List Addr}{h:Heap}{b:Addr}{o:Obj}(hb:b∈fp)(e:h.get? b=some o):(b,o)∈yQ fp h:=List.mem_filterMap.mpr ⟨b,hb,by rw[e];rfl⟩
def Ni{fp:List Addr}{h:Heap}{p:Addr×Obj}(hp:p∈yQ fp h):p.1∈fp/\h.get? p.1=some p.2:=by
 obtain⟨b,hb,e⟩:=List.mem_filterMap.mp hp;cases q:h.get? b with
 | none=>rw[q] at e;cases e
 | some o=>
  rw[q] at e;have e':(b,o)=p:=Option.some.inj e;subst e';exact⟨hb,q⟩
def Inv.pinned{pins:List (Addr×Obj)}{σ:St}{H:Hp}{s:Shared}{fp:List Addr}(I:Inv X pins σ H s)(hf:∀b∈fp,vh X pins H b)(ho:∀b∈fp,∃o,s.heap.get? b=some o/\∀v,o.data ≠ .cell v):Inv X (pins++yQ fp s.heap) σ H s:=
 I.KJ λp hp=>(List.mem_append.mp hp).elim (λz=>I.pin p (List.mem_append_right _ z)) λz=>by
  obtain⟨hb,e⟩:=Ni z;obtain⟨f0,f1,f2,_⟩:=hf p.1 hb;obtain⟨o,e',d⟩:=ho p.1 hb;rw[e] at e';cases e';exact⟨e,f0,f1,f2,d⟩
def Inv.t6{pins pl:List (Addr×Obj)}{σ:St}{H:Hp}{s:Shared}(I:Inv X (pins++pl) σ H s):Inv X pins σ H s:=I.KJ λp hp=>I.pin p (List.mem_append_right _ (List.mem_append_left _ hp))
def ZQ{iter:Expr}{body:List Stmt}{wi:TI}{g:TG}{tb:TS}{pos:Pos}(hp:PassesOwn (model X.prog X.w) X.A X.env X.xe)(hc:X.calm=true)(hi:PI X tg iter wi)(hg:PG X tg g)(hb:Et X body tb)
  (hs:∀x,foldedSetIterable iter X.env x=pure x:=by intro _;rfl):PS X (.For tg iter body [] pos) (ag5 wi g tb):=by
 intro pins s σ H D I h;refine wpAny_For (gr (hi pins s σ H _ I h) λv s1 h1=>gr h1 λitv s2 h2=>?_) hs;obtain⟨it,fp,tn,J,H2,e,I2,T,st2,f2,W,⟨m0,w0⟩,turn⟩:=h2;subst e
 -- what stays true of the iterator's objects through the loop
 have stat:∀{H':Hp},(∀b∈fp,H' b=none)->∀b∈fp,vh X pins H' b:=λhn b hb=>⟨hn b hb,(f2 b hb).2⟩;refine codeAny_forLoop_any (λn s'=>∃i σ' H',Inv X pins σ' H' s'/\tn i s'.heap/\(∀b∈fp,H' b=none)/\W i n σ' H') ?_ m0 ⟨0,σ,H2,I2,st2,λb hb=>(f2 b hb).1,w0⟩;rintro n s3 ⟨i,σ3,H3,I3,st3,fr3,w3⟩;rcases turn i n σ3 H3 w3 with ⟨stop,qn⟩|⟨go,N,hN,step⟩
 ·refine wpAny_passesOwn hp (gr (T.done X rfl rfl rfl hc i pins s3 σ3 H3 X.xe I3 (stat fr3) st3 stop) λr s4 ⟨hr,I4⟩=>?_);subst hr;exact wpAny_execs_nil ⟨σ3,H3,I4,qn⟩
 ·refine wpAny_passesOwn hp (gr (T.item X rfl rfl rfl hc i pins s3 σ3 H3 X.xe I3 (stat fr3) st3 go) λr s4 ⟨u,hr,h4⟩=>?_);subst hr;refine wpAny_passesOwn hp (gr h4 λ_ s5 ⟨x,H5,I5,r5,y5,st5,fr5⟩=>?_);have I5':=I5.pinned (stat fr5) (T.obj _ _ st5);refine wpAny_passesOwn hp (gr (hg _ s5 σ3 H5 x u _ I5' r5 (step x H5 y5)) λ_ s6 ⟨σ6,H6,I6,q6⟩=>?_);refine wpAny_passesOwn hp (gr (hb _ s6 σ6 H6 _ I6 q6) λf s7 q7=>?_);have again:∀{σ7:St} {H7:Hp},Inv X (pins++yQ fp s5.heap) σ7 H7 s7->N σ7 H7->∃m,m<n/\∃i σ' H',Inv X pins σ' H' s7/\tn i s7.heap/\(∀b∈fp,H' b=none)/\W i m σ' H':=λ{σ7 H7} I7 n7=>by
   obtain⟨m',hm,w7⟩:=hN σ7 H7 n7;refine⟨m',hm,i+1,σ7,H7,I7.t6,T.keep _ _ _ st5 λb hb o e=>(I7.pin (b,o) (List.mem_append_right _ (List.mem_append_right _ (oV hb e)))).1,λb hb=>?_,w7⟩;obtain⟨o,e,d⟩:=T.obj _ _ st5 b hb;exact(I7.pin (b,o) (List.mem_append_right _ (List.mem_append_right _ (oV hb e)))).2.1
  cases f with
  | next=>obtain⟨σ7,H7,I7,n7⟩:=q7;exact again I7 n7
  | cont=>obtain⟨σ7,H7,I7,n7⟩:=q7;exact again I7 n7
  | brk=>obtain⟨σ7,H7,I7,q7⟩:=q7;exact⟨σ7,H7,I7.t6,q7⟩
  | ret v=>obtain⟨x7,σ7,H7,I7,r7,q7⟩:=q7;exact⟨x7,σ7,H7,I7.t6,r7,q7⟩
end
abbrev R2:=V->V->Hp->VK->Prop
def nu(X:Cx)(f:Value->Value->Sem Value)(r:R2):Prop:=
 ∀(pins:List (Addr×Obj)) (s:Shared) (σ:St) (H:Hp) (x y:V) (v u:Value) (Q:VK),Inv X pins σ H s->RelV x v->RelV y u->r x y H Q->
  wpAny (model X.prog X.w) X.A (f v u) (EP X pins σ Q) X.xe s
def UnR(X:Cx)(f:Value->Sem Value)(r:V->Hp->VK->Prop):Prop:=
 ∀(pins:List (Addr×Obj)) (s:Shared) (σ:St) (H:Hp) (x:V) (v:Value) (Q:VK),Inv X pins σ H s->RelV x v->r x H Q->
  wpAny (model X.prog X.w) X.A (f v) (EP X pins σ Q) X.xe s
def jo(X:Cx)(f:Value)(r:List V->Hp->VK->Prop):Prop:=
 ∀(pins:List (Addr×Obj)) (s:Shared) (σ:St) (H:Hp) (xs:List V) (us:List Value) (Q:VK),Inv X pins σ H s->Vals xs us->r xs H Q->
  wpAny (model X.prog X.w) X.A (call f us) (EP X pins σ Q) X.xe s
def YT(r:R2)(ta tb:TE):TE:=λσ H Q=>ta σ H λx H1=>tb σ H1 λy H2=>r x y H2 Q
def tUn(r:V->Hp->VK->Prop)(ta:TE):TE:=λσ H Q=>ta σ H λx H1=>r x H1 Q
def rI(C:Int->Int->Prop)(g:Int->Int->V):R2:=λx y H Q=>∃i j,x = .int i/\y = .int j/\C i j/\Q (g i j) H
def Om(g:Int->Int->V):R2:=λx y H Q=>∃i j,x = .int i/\y = .int j/\Q (g i j) H
def rU(g:Int->V):V->Hp->VK->Prop:=λx H Q=>∃i,x = .int i/\Q (g i) H
section
variable{X:Cx}{a b c:Expr}{ta tb tc:TE}{pos:Pos}
def ab2(ha:PE X a ta)(hb:PE X b tb){pins:List (Addr×Obj)}{s:Shared}{σ:St}{H:Hp}{R:V->V->Hp->Prop}(I:Inv X pins σ H s)
  (h:ta σ H λx H1=>tb σ H1 λy H2=>R x y H2) {Q:Value->Shared->Prop} {f:Value->Value->Sem Value}
  (hf:∀v u s2 x y H2,Inv X pins σ H2 s2->RelV x v->RelV y u->R x y H2->wpAny (model X.prog X.w) X.A (f v u) Q X.xe s2) :
  wpAny (model X.prog X.w) X.A (eval a X.env) (λv s₁=>wpAny (model X.prog X.w) X.A (eval b X.env) (λu s₂=>wpAny (model X.prog X.w) X.A (f v u) Q X.xe s₂) X.xe s₁) X.xe s:=by
 refine gr (ha pins s σ H _ I h) λv s1 ⟨x,H1,I1,r1,q1⟩=>?_;refine gr (hb pins s1 σ H1 _ I1 q1) λu s2 ⟨y,H2,I2,r2,q2⟩=>?_;exact hf v u s2 x y H2 I2 r1 r2 q2
def Xq{op:Operator}{r:R2}(ho:nu X (binaryOp op) r)(ha:PE X a ta)(hb:PE X b tb):PE X (.BinOp a op b pos) (YT r ta tb):=by intro pins s σ H Q I h;exact wpAny_BinOp (ab2 ha hb I h λv u s2 x y H2 I2 rx ry q=>ho pins s2 σ H2 x y v u Q I2 rx ry q)
def Xp{op:UnaryOp}{r:V->Hp->VK->Prop}(ho:UnR X (unaryOp op) r)(ha:PE X a ta):PE X (.UnaryOp op a pos) (tUn r ta):=by intro pins s σ H Q I h;exact UnaryOp_ (gr (ha pins s σ H _ I h) λv s1 ⟨x,H1,I1,r1,q1⟩=>ho pins s1 σ H1 x v Q I1 r1 q1)
def opI{f:Value->Value->Sem Value}{C:Int->Int->Prop}{g:Int->Int->Int}
  (rule:∀(i j:Int) (t u:Tok) (s:Shared) (Q:Value->Shared->Prop) (E:Value->Shared->Prop),C i j->Q (.int (g i j) s.toks) { s with toks:=s.toks+1 }->wpAny (model X.prog X.w) X.A (f (.int i t) (.int j u)) Q E s) :
  nu X f (rI C λi j=>.int (g i j)):=by
 intro pins s σ H x y v u Q I rx ry h;obtain⟨i,j,rfl,rfl,hc,q⟩:=h;obtain⟨t,rfl⟩:=rx;obtain⟨t',rfl⟩:=ry;exact rule i j t t' s _ _ hc ⟨.int (g i j),H,I.tok _,⟨_,rfl⟩,q⟩
def aar{f:Value->Value->Sem Value}{g:Int->Int->Int}
  (rule:∀(i j:Int) (t u:Tok) (s:Shared) (Q:Value->Shared->Prop) (E:Value->Shared->Prop),Q (.int (g i j) s.toks) { s with toks:=s.toks+1 }->wpAny (model X.prog X.w) X.A (f (.int i t) (.int j u)) Q E s) :
  nu X f (Om λi j=>.int (g i j)):=by
 intro pins s σ H x y v u Q I rx ry h;obtain⟨i,j,rfl,rfl,q⟩:=h;obtain⟨t,rfl⟩:=rx;obtain⟨t',rfl⟩:=ry;exact rule i j t t' s _ _ ⟨.int (g i j),H,I.tok _,⟨_,rfl⟩,q⟩
def ahj{f:Value->Value->Sem Value}{g:Int->Int->Bool}
  (rule:∀(i j:Int) (t u:Tok) (s:Shared) (Q:Value->Shared->Prop) (E:Value->Shared->Prop),Q (.bool (g i j)) s->wpAny (model X.prog X.w) X.A (f (.int i t) (.int j u)) Q E s) :
  nu X f (Om λi j=>.bl (g i j)):=by
 intro pins s σ H x y v u Q I rx ry h;obtain⟨i,j,rfl,rfl,q⟩:=h;obtain⟨t,rfl⟩:=rx;obtain⟨t',rfl⟩:=ry;exact rule i j t t' s _ _ ⟨.bl (g i j),H,I,rfl,q⟩
def afy(i j:Int):Prop:=0<j/\j<1073741824
def W5(i j:Int):Prop:=0<=j/\j<=1000000/\i.natAbs<2^64
def Ig(k:Nat):(0:Int)<=2^k:=by rw[two_pow_cast];exact Int.natCast_nonneg _
def aaq:nu X (binaryOp .Add) (Om λi j=>.int (i+j)):=aar λ_ _ _ _ _ _ _ q=>add_int q
def aab:nu X (binaryOp .Sub) (Om λi j=>.int (i - j)):=aar λ_ _ _ _ _ _ _ q=>sub_int q
def aag:nu X (binaryOp .Mod) (rI (λ_ j=>0<j) λi j=>.int (i % j)):=opI λi j _ _ _ _ _ hc q=>by
 have h1:(0:Int)<j:=hc;exact mod_int' (by omega) (by rw[Int.fmod_eq_emod_of_nonneg i (by omega)];exact q)
def aae:nu X (binaryOp .Pow) (rI W5 λi j=>.int (i^j.toNat)):=opI λ_ _ _ _ _ _ _ hc q=>pow_int_small hc.1 hc.2.1 hc.2.2 q
def aad:nu X (binaryOp .LShift) (rI W5 λi j=>.int (i*2^j.toNat)):=opI λ_ _ _ _ _ _ _ hc q=>lshift_int_small hc.1 hc.2.1 hc.2.2 q
def aac:nu X (binaryOp .RShift) (rI (λ_ j=>0<=j) λi j=>.int (i / 2^j.toNat)):=opI λi j _ _ _ _ _ hc q=>
 rshift_int hc (by rw[Int.fdiv_eq_ediv_of_nonneg i (Ig _)];exact q)
def aap:nu X (binaryOp .BitAnd) (Om λi j=>.int (Builtin.bitAnd i j)):=aar λ_ _ _ _ _ _ _ q=>and_int q
def unI{f:Value->Sem Value}{g:Int->Int}
  (rule:∀(i:Int) (t:Tok) (s:Shared) (Q:Value->Shared->Prop) (E:Value->Shared->Prop),Q (.int (g i) s.toks) { s with toks:=s.toks+1 }->wpAny (model X.prog X.w) X.A (f (.int i t)) Q E s) :
  UnR X f (rU λi=>.int (g i)):=by
 intro pins s σ H x v Q I rx h;obtain⟨i,rfl,q⟩:=h;obtain⟨t,rfl⟩:=rx;exact rule i t s _ _ ⟨.int (g i),H,I.tok _,⟨_,rfl⟩,q⟩
def O6:UnR X (unaryOp .USub) (rU λi=>.int (-i)):=unI λ_ _ _ _ _ q=>neg_int q
end
def abS{i j:Bool}:decide (V.bl i=V.bl j)=(i == j):=by rw[Bool.eq_iff_iff];simp
section
variable{X:Cx}{a b c:Expr}{ta tb tc:TE}{pos:Pos}
def DQ{pins:List (Addr×Obj)}{σ:St}{H:Hp}{s:Shared}{Q:VK}{k k':Bool}(I:Inv X pins σ H s)(q:Q (.bl k) H)(e:k=k'):EP X pins σ Q (.bool k') s:=by subst e;exact⟨.bl k,H,I,rfl,q⟩
def ad0:nu X (compareOp .Lt) (Om λi j=>.bl (decide (i<j))):=ahj λ_ _ _ _ _ _ _ q=>lt_int q
def Ng:nu X (compareOp .Lt) (λx y H Q=>∃i j,x = .str i/\y = .str j/\Q (.bl (decide (i.cps.toList<j.cps.toList))) H):=by intro pins s σ H x y v u Q I rx ry h;obtain⟨i,j,rfl,rfl,q⟩:=h;obtain⟨t,rfl⟩:=rx;obtain⟨t',rfl⟩:=ry;exact lt_str (DQ I q rfl)
def Nh:nu X (compareOp .In) (λx y H Q=>∃i j,x = .str i/\y = .str j/\Q (.bl (!(Builtin.Str.occurrences j i 0 j.length 1).isEmpty)) H):=by intro pins s σ H x y v u Q I rx ry h;obtain⟨i,j,rfl,rfl,q⟩:=h;obtain⟨t,rfl⟩:=rx;obtain⟨t',rfl⟩:=ry;exact in_str (DQ I q rfl)
def aai:nu X (compareOp .Is) (λx y H Q=>y = .non/\Q (.bl (decide (x = .non))) H):=by
 intro pins s σ H x y v u Q I rx ry h;obtain⟨rfl,q⟩:=h;cases ry;refine is_none_gen (DQ I q ?_);cases x<;>first
  | (cases rx;rfl)
  | (obtain⟨t,rfl⟩:=rx;rfl)
def nu.or{f:Value->Value->Sem Value}{r r':R2}(h:nu X f r)(h':nu X f r'):nu X f (λx y H Q=>r x y H Q\/r' x y H Q):=by
 intro pins s σ H x y v u Q I rx ry q;rcases q with q|q
 ·exact h pins s σ H x y v u Q I rx ry q
 ·exact h' pins s σ H x y v u Q I rx ry q
def KQ{op:CmpOp}{r:R2}(ho:nu X (compareOp op) r)(ha:PE X a ta)(hb:PE X b tb)(hm:behindInMarks op b=false):PE X (.Compare a [op] [b] pos) (YT r ta tb):=by intro pins s σ H Q I h;exact wpAny_Compare1 (ab2 ha hb I h λv u s2 x y H2 I2 rx ry q=>ho pins s2 σ H2 x y v u Q I2 rx ry q) hm
def ac1(t:TE):TT:=λσ H Q=>t σ H λx H'=>∃k,x = .bl k/\Q k H'
def KD{op:CmpOp}{r:R2}(ho:nu X (compareOp op) r)(ha:PE X a ta)(hb:PE X b tb)(hm:behindInMarks op b=false):PT X (.Compare a [op] [b] pos) (ac1 (YT r ta tb)):=by
 intro pins s σ H Q I h;refine wpAny_isTrue_Compare1 (gr (ha pins s σ H _ I h) λv s1 ⟨x,H1,I1,r1,q1⟩=>gr (hb pins s1 σ H1 _ I1 q1) λu s2 ⟨y,H2,I2,r2,q2⟩=>
  gr (ho pins s2 σ H2 x y v u _ I2 r1 r2 q2) λc s3 ⟨z,H3,I3,r3,k,e,q3⟩=>?_) hm
 subst e;cases r3;exact wpAny_truthy_bool ⟨H3,I3,q3⟩
def abk{κ:Type}{kvs:List (κ×V)}{vs:List (κ×Value)}(r:KV kvs vs):(!vs.isEmpty) = !kvs.isEmpty:=by cases r<;>rfl
def abj{xs:List V}{its:List Value}(r:Vals xs its):(!its.toArray.isEmpty) = !xs.isEmpty:=by cases r<;>simp
def vZ:(sizeLine:Nat)<2^63:=by rw[sizeLine_eq];decide
def Jo:nu X (binaryOp .Add) (λx y H Q=>∃i j,x = .str i/\y = .str j/\i.length+j.length<=sizeLine/\Q (.str (i++j)) H):=by intro pins s σ H x y v u Q I rx ry h;obtain⟨i,j,rfl,rfl,hz,q⟩:=h;obtain⟨t,rfl⟩:=rx;obtain⟨t',rfl⟩:=ry;exact add_str (λt' tk=>⟨.str (i++j),H,I.tok _,⟨_,rfl⟩,q⟩) hz
def vals1{x:V}{us:List Value}(r:Vals [x] us):∃u,us=[u]/\RelV x u:=by
 cases r with
 | cons r1 r2=>cases r2;exact⟨_,rfl,r1⟩
def vals2{x y:V}{us:List Value}(r:Vals [x,y] us):∃u w',us=[u,w']/\RelV x u/\RelV y w':=by
 cases r with
 | cons r1 r2=>
  cases r2 with
  | cons r3 r4=>cases r4;exact⟨_,_,rfl,r1,r3⟩
def afw(K:PySem.W.Frag)(x:V)(H:Hp)(n:Nat):Prop:=
 match x with
 | .str y=>y.length<=sizeLine/\n=y.length
 | .byt y=>y.size<=sizeLine/\n=y.size
 | .ref p=>(∃xs,n8 K H p xs/\n=xs.length)\/∃xs,lB K H p xs/\n=xs.length
 | _=>False
def Tw:jo X (.builtin "len") (λxs H Q=>∃x n,xs=[x]/\afw X.K x H n/\Q (.int n) H):=by
 intro pins s σ H xs us Q I r h;obtain⟨x,n,rfl,e,q⟩:=h;obtain⟨u,rfl,rx⟩:=vals1 r;have hl:=vZ;have hs:sizeLine=16777216:=sizeLine_eq;cases x with
 | str y=>
  obtain⟨t,rfl⟩:=rx;obtain⟨hy,e'⟩:y.length<=sizeLine/\n=y.length:=e;subst e';exact len_str (by omega) ⟨.int _,H,I.tok _,⟨_,rfl⟩,q⟩
 | byt y=>
  obtain⟨t,rfl⟩:=rx;obtain⟨hy,e'⟩:y.size<=sizeLine/\n=y.size:=e;subst e';exact PySem.W.len_bytes (by omega) ⟨.int _,H,I.tok _,⟨_,rfl⟩,q⟩
 | ref p=>
  cases rx;have e':(∃xs,n8 X.K H p xs/\n=xs.length)\/∃xs,lB X.K H p xs/\n=xs.length:=e;rcases e' with ⟨xs,hx,e'⟩|⟨xs,hx,e'⟩
  ·subst e';obtain⟨its,r',pl,hz⟩:=I.list hx;have hlen:=r'.length;exact Calls.call_len_list pl.isList (by simp only[List.size_toArray];omega) ⟨.int xs.length,H,I.tok _,⟨_,by simp only[List.size_toArray];rw[hlen]⟩,q⟩
  ·subst e';obtain⟨its,r',pl,hz⟩:=I.tuple hx;have hlen:=r'.length;exact len_tuple pl (by simp only[List.size_toArray];omega) ⟨.int xs.length,H,I.tok _,⟨_,by simp only[List.size_toArray];rw[hlen]⟩,q⟩
 | _=>exact(show False from e).elim
def Hu:jo X (.builtin "divmod") (λxs H Q=>∃i j,xs=[.int i,.int j]/\afy i j/\∀p,H p=none->Q (.ref p) (upd H p (.tup [.int (i / j),.int (i % j)]))):=by intro pins s σ H xs us Q I r h;obtain⟨i,j,rfl,⟨h1,h2⟩,q⟩:=h;obtain⟨u,w',rfl,⟨t,rfl⟩,⟨t',rfl⟩⟩:=vals2 r;refine divmod_int (by omega) ?_ (.inl (PyProof.noPylong_small (by omega)));rw[Int.fdiv_eq_ediv_of_nonneg i (by omega),Int.fmod_eq_emod_of_nonneg i (by omega)];have hn:H s.heap.objs.size=none:=I.hok.fresh (Nat.le_refl _);refine⟨.ref s.heap.objs.size,_,?_,rfl,q _ hn⟩;refine I.laid (λb o e=>Heap.get?_push_of_some _ e) (Nat.le_refl _) ⟨by simp only[List.length_cons,List.length_nil];rw[sizeLine_eq];decide,[.int (i / j) s.toks,.int (i % j) (s.toks+1)],.cons ⟨_,rfl⟩ (.cons ⟨_,rfl⟩ .nil),?_⟩;exact⟨_,Heap.get?_push_size s.heap rfl,rfl,⟨0,rfl⟩,rfl⟩
end
def wM.some_of{v:V}{o:Option Value}(r:wM (some v) o):∃u,o=some u/\RelV v u:=by
 cases o with
 | none=>exact(show False from r).elim
 | some u=>exact⟨u,rfl,r⟩
structure fJ(k:Nat)(A:Around):Prop where
 hd:A.handled=none
 dp:A.depth+3*k+5<recursionLimit
 un:A.units+16*k+200<cLine
def fJ.mono{j k:Nat}{A:Around}(r:fJ k A)(h:j<=k):fJ j A:=⟨r.hd,by have:=r.dp;omega,by have:=r.un;omega⟩
def fJ.deeper{k:Nat}{A:Around}(r:fJ (k+1) A)(env:Env):fJ k (A.deeper env):=
 ⟨r.hd,by have:=r.dp;show A.depth+1+3*k+5<_;omega,by have:=r.un;show A.units+3+16*k+200<_;omega⟩
def fJ.depth{k:Nat}{A:Around}(r:fJ k A):A.depth<recursionLimit:=by have:=r.dp;omega
def fJ.units{k:Nat}{A:Around}(r:fJ k A):A.units+64<cLine:=by have:=r.un;omega
def ac4:TA:=λ_ H Q=>Q [] H
def Bm(ta:TE)(tr:TA):TA:=λσ H Q=>ta σ H λx H1=>tr σ H1 λxs H2=>Q (x::xs) H2
section
variable{X:Cx}{e:Expr}{es:List Expr}{te:TE}{t:TA}{pos:Pos}
def vR:PA X [] ac4:=λ_ _ _ _ H Q I h=>Calls.spliced_nil ⟨[],H,I,.nil,h⟩
def iH(ha:PE X e te)(hr:PA X es t)(hs:starEach (e::es) X.env=(false,eval e X.env)::starEach es X.env:=by rfl):PA X (e::es) (Bm te t):=by intro pos pins s σ H Q I h;rw[hs];show wpAny _ _ (spliced ((false,eval e X.env)::backTo pos (starEach es X.env))) _ _ s;refine Calls.spliced_cons (gr (ha pins s σ H _ I h) λu s1 ⟨x,H1,I1,r1,q1⟩=>?_);exact gr (hr pos pins s1 σ H1 _ I1 q1) λus s2 ⟨xs,H2,I2,r2,q2⟩=>⟨x::xs,H2,I2,.cons r1 r2,q2⟩
def agV(t:TA):TE:=λσ H Q=>t σ H λxs H1=>xs.length<=sizeLine/\∀p,H1 p=none->Q (.ref p) (upd H1 p (.tup xs))
def ag2(t:TA):TE:=λσ H Q=>t σ H λxs H1=>xs.length<=sizeLine/\∀p,H1 p=none->Q (.ref p) (upd H1 p (.lst xs))
def Z1{x1}(h:PA X es t):PE X (.Tuple es x1 pos) (agV t):=by intro pins s σ H Q I hq;refine wpAny_Tuple_spliced (gr (h pos pins s σ H _ I hq) λus s1 ⟨xs,H1,I1,r,z,q⟩=>⟨by rw[<-r.length];exact z,?_⟩);have hf:H1 s1.heap.objs.size=none:=I1.hok.fresh (Nat.le_refl _);refine⟨.ref s1.heap.objs.size,upd H1 s1.heap.objs.size (.tup xs),I1.laid (t':=s1.toks) (λb u e=>Heap.get?_push_of_some _ e) (Nat.le_refl _) ?_,rfl,q _ hf⟩;exact⟨z,us,r,Bh.new _ _⟩
def Z7(h:PA X es t):PE X (.List es pos) (ag2 t):=by intro pins s σ H Q I hq;refine wpAny_List_spliced (gr (h pos pins s σ H _ I hq) λus s1 ⟨xs,H1,I1,r,z,q⟩=>⟨by rw[<-r.length];exact z,?_⟩);have hf:H1 s1.heap.objs.size=none:=I1.hok.fresh (Nat.le_refl _);refine⟨.ref s1.heap.objs.size,upd H1 s1.heap.objs.size (.lst xs),I1.laid (t':=s1.toks) (λb u e=>Heap.get?_push_of_some _ e) (Nat.le_refl _) ?_,rfl,q _ hf⟩;exact⟨z,us,0,r,Heap.get?_push_size _ rfl⟩
end
abbrev Sp:=List V->Hp->VK->XK->Prop
abbrev Ot:=List Env->Hp->Shared->XK->Value->Shared->Prop
structure HB(P:Program)(w:World)(K:PySem.W.Frag)(mg:Str->Option Value)(base:Heap)(A:Around)(outer:List Env)(s:Shared)(H:Hp):Prop where
 frames:A.frames=some outer
 mod:Mod K mg base
 bs:∀b o,base.get? b=some o->s.heap.get? b=some o/\H b=none
 TQ:base.objs.size<=s.heap.objs.size
 uI:s.heap.FunFrames base outer
 XX:∀b∈frs outer,H b=none
 hok:tQ P w H s.heap
 bare:AllBare s.gens
def CE(outer:List Env)(P:Program)(w:World)(H:Hp)(s:Shared)(Q:VK)(u:Value)(s':Shared):Prop:=
 ∃v H',s'.os=s.os/\AllBare s'.gens/\Un (frs outer) [] H H' s.heap s'.heap/\tQ P w H' s'.heap/\RelV v u/\Q v H'
def CR(CX:Ot)(outer:List Env)(P:Program)(w:World)(H:Hp)(s:Shared)(Q:VK)(E:XK)(r:Result)(s':Shared):Prop:=
 match r with
 | .ok (.ret u)=>CE outer P w H s Q u s'
 | .ok _=>False
 | .error e=>CX outer H s E e s'
structure lC(P:Program)(w:World)(K:PySem.W.Frag)(mg:Str->Option Value)(base:Heap)(CX:Ot)(k:Nat)(f:Addr)(fd:FuncData)(ps:List Str)(sp:Sp):Prop where
 len:∀vs H Q E,sp vs H Q E->vs.length=ps.length
 run:∀(A:Around) (outer:List Env) (s:Shared) (H:Hp) (args:Args) (us:List Value) (vs:List V) (Q:VK) (E:XK),fJ k A->HB P w K mg base A outer s H->BindsTo s fd args (ps.zip us)->Vals vs us->sp vs H Q E->
  codeAny (model P w) A (.call (.ref f) args) (CR CX outer P w H s Q E) s
section
variable{X:Cx}{pins:List (Addr×Obj)}{σ:St}{H:Hp}{s s':Shared}
def Inv.env0(I:Inv X pins σ H s):HB X.prog X.w X.K X.mg X.base X.A X.stack s H:=
 ⟨I.ok.frames,I.ok.mod,I.bs,Nat.le_trans I.ok.TQ I.sz,I.stack,I.Ku,I.hok,I.bare⟩
def Inv.after{Q:VK}{u:Value}(I:Inv X pins σ H s)(h:CE X.stack X.prog X.w H s Q u s'):EP X pins σ Q u s':=by obtain⟨v,H',os,bare,un,hok,r,q⟩:=h;obtain⟨hh,g,d,t,os'⟩:=s';obtain rfl:os'=s.os:=os;exact⟨v,H',I.call (h':=hh) (g':=g) (d':=d) (t':=t) (ch:=[]) un hok bare (λb z=>absurd z (by simp)),r,q⟩
end
def Xg(sp:Sp)(Tf:List V)(E:XK)(t:TA):TE:=λσ H Q=>t σ H λvs H1=>sp (vs++Tf) H1 Q E
def Binds(K:PySem.W.Frag)(fd:FuncData)(ps:List Str)(ds:List Value):Prop:=
 ∀(s:Shared) (us:List Value),K.In s.heap->(us++ds).length=ps.length->BindsTo s fd ⟨us,[]⟩ (ps.zip (us++ds))
theorem Binds.all{K:PySem.W.Frag}{fd:FuncData}{ps:List Str}(h:∀us:List Value,us.length=ps.length->bindArgs fd ⟨us,[]⟩=pure (ps.zip us)):Binds K fd ps []:=λs us _ hl=>by
 rw[List.append_nil] at hl ⊢;exact .of_eq (h us hl)
def Passes(CX:Ot)(X:Cx)(E:XK):Prop:=∀(pins:List (Addr×Obj)) (σ:St) (H:Hp) (s:Shared) (e:Value) (s':Shared),Inv X pins σ H s->CX X.stack H s E e s'->X.xe e s'
section
variable{X:Cx}{CX:Ot}{k:Nat}{f C:Addr}{fd:FuncData}{ps:List Str}{sp:Sp}{Tf:List V}{ds:List Value}{E:XK}{x m:Str}{p pos apos:Pos}{e o:Expr}{es:List Expr}{ta:TE}{t:TA}
def Qa{pins:List (Addr×Obj)}{σ:St}{H:Hp}{s:Shared}{Q:VK}{us:List Value}{vs:List V}(F:lC X.prog X.w X.K X.mg X.base CX k f fd ps sp)(hr:fJ k X.A)(hb:Binds X.K fd ps ds)(hd:Vals Tf ds)(hx:Passes CX X E)
  (I:Inv X pins σ H s) (r:Vals vs us) (h:sp (vs++Tf) H Q E):wpAny (model X.prog X.w) X.A (call (.ref f) us) (EP X pins σ Q) X.xe s:=by
 have r2:Vals (vs++Tf) (us++ds):=r.append hd;have hl:(us++ds).length=ps.length:=by rw[<-r2.length];exact F.len _ _ _ _ h
 refine wpAny_call (codeAny_mono (F.run X.A X.stack s H ⟨us,[]⟩ (us++ds) (vs++Tf) Q E hr I.env0 (hb s us I.RP hl) r2 h) λr s' hq=>?_);cases r with
 | error e=>exact hx pins σ H s e s' I hq
 | ok fl=>
  cases fl with
  | ret u=>exact I.after hq
  | next=>exact False.elim hq
  | brk=>exact False.elim hq
  | cont=>exact False.elim hq
def Dp(F:lC X.prog X.w X.K X.mg X.base CX k f fd ps sp)(hr:fJ k X.A)(hg:Gl X x)(hm:X.mg x=some (.ref f))(hk:PySem.W.keepIn X.K (.ref f)=true)(hb:Binds X.K fd ps ds)(hd:Vals Tf ds)(hx:Passes CX X E)
  (ha:PA X (e::es) t) (hdb:iZ x:=by decide) (he:starEach (e::es) X.env=(false,eval e X.env)::starEach es X.env:=by rfl) (hpl:(backTo pos (starEach es X.env)).any (·.1)=false:=by rfl) :
  PE X (.Call (.Name x p) (e::es) [] pos) (Xg sp Tf E t):=by
 intro pins s σ H Q I h;refine wpAny_Call_Name_kw (yg I hg hm ?_ hdb);refine PySem.W.callWith_K (h₀:=X.base) I.ok.mod.HJ hk (gr (ha pos pins s σ H _ I h) λus s1 ⟨vs,H1,I1,r,q⟩=>⟨I1.RP,?_⟩) he hpl;exact Qa F hr hb hd hx I1 r q
end
structure bI(N P:List Str)(sc:Scope):Prop where
 kind:sc.kind = .function
 co:sc.isCoroutine=false
 gen:sc.isGenerator=false
 nd:N.Nodup
 pre:N.take P.length=P
 par:∀x∈P,sc.names.lookup x=some .local\/sc.names.lookup x=some .cell
 aaF:∀y∈sc.names,y.2 ≠ .free
theorem Cg{kindOf:Str->Option NameKind}{x:Str}:∀{binds:List (Str×Value)} {m:Str->Option Value},(∀v,(x,v) ∉ binds)->bindL kindOf binds m x=m x
 | [],_,_=>rfl
 | (n,v)::r,m,h=>by
  unfold bindL;rw[Cg λw hw=>h w (List.mem_cons_of_mem _ hw)];split
  ·have:x≠n:=by rintro rfl;exact h v List.mem_cons_self
   simp[this]
  ·rfl
theorem Cj{kindOf:Str->Option NameKind}{x:Str}:∀{binds:List (Str×Value)} {m:Str->Option Value},(∀v,(x,v) ∉ binds)->bindC kindOf binds m x=m x
 | [],_,_=>rfl
 | (n,v)::r,m,h=>by
  unfold bindC;rw[Cj λw hw=>h w (List.mem_cons_of_mem _ hw)];split
  ·rfl
  ·have:x≠n:=by rintro rfl;exact h v List.mem_cons_self
   simp[this]
theorem Ci{kindOf:Str->Option NameKind}{x:Str}{v:Value}:∀{P:List Str} {vs:List Value} {i:Nat} {m:Str->Option Value},P.Nodup->P[i]? = some x->vs[i]? = some v->kindOf x=some .local->
  bindL kindOf (P.zip vs) m x=some v
 | [],_,_,_,_,h,_,_=>by simp at h
 | _::_,[],_,_,_,_,h,_=>by simp at h
 | p::P,w::vs,0,m,nd,h1,h2,hk=>by
  simp at h1 h2;subst h1;subst h2;show bindL kindOf ((p,w)::P.zip vs) m p=_;unfold bindL;rw[Cg λv hv=>(List.nodup_cons.mp nd).1 (List.of_mem_zip hv).1,if_pos hk];simp
 | p::P,w::vs,i+1,m,nd,h1,h2,hk=>by
  show bindL kindOf ((p,w)::P.zip vs) m x=_;unfold bindL;exact Ci (i:=i) (List.nodup_cons.mp nd).2 (by simpa using h1) (by simpa using h2) hk
theorem Ck{kindOf:Str->Option NameKind}{x:Str}{v:Value}:∀{P:List Str} {vs:List Value} {i:Nat} {m:Str->Option Value},P.Nodup->P[i]? = some x->vs[i]? = some v->kindOf x≠some .local->
  bindC kindOf (P.zip vs) m x=some v
 | [],_,_,_,_,h,_,_=>by simp at h
 | _::_,[],_,_,_,_,h,_=>by simp at h
 | p::P,w::vs,0,m,nd,h1,h2,hk=>by
  simp at h1 h2;subst h1;subst h2;show bindC kindOf ((p,w)::P.zip vs) m p=_;unfold bindC;rw[Cj λv hv=>(List.nodup_cons.mp nd).1 (List.of_mem_zip hv).1,if_neg hk];simp
 | p::P,w::vs,i+1,m,nd,h1,h2,hk=>by
  show bindC kindOf ((p,w)::P.zip vs) m x=_;unfold bindC;exact Ck (i:=i) (List.nodup_cons.mp nd).2 (by simpa using h1) (by simpa using h2) hk
def start(N:List Str)(vs:List V):St:=vs.map some++List.replicate (N.length - vs.length) none
def Hn(CX:Ot)(P:Program)(w:World)(K:PySem.W.Frag)(mg:Str->Option Value)(base:Heap)(N:List Str)(qual:Str)(scope:Scope)(f:Addr)(cd:Value)(A:Around)(outer:List Env)(s:Shared)(H:Hp)(E:XK):Cx where
 prog:=P
 w:=w
 K:=K
 mg:=mg
 base:=base
 A:=A.deeper (envOfC qual scope s.heap.objs.size f cd)
 N:=N
 s₀:=s
 H₀:=H
 env:=envOfC qual scope s.heap.objs.size f cd
 outer:=outer
 stack:=envOfC qual scope s.heap.objs.size f cd::outer
 ex:=[]
 calm:=true
 fn:=λ_=>true
 pn:=[]
 xe:=λe s'=>wpAny (model P w) (A.deeper (envOfC qual scope s.heap.objs.size f cd)) (leaving (envOfC qual scope s.heap.objs.size f cd) e) (λ_ s''=>CX outer H s E e s'') (λe' s''=>CX outer H s E e' s'') s'
def zM{sc:Scope}{n:Nat}{x:Str}(h:sc.names.lookup x=some .cell):∃c,(cellsFrom n sc.names []).lookup x=some c:=by have q:=PySem.W.cellsFrom_some sc.names n [] (.inl h);exact Option.isSome_iff_exists.mp q
theorem Nv{CX:Ot}{P:Program}{w:World}{K:PySem.W.Frag}{mg:Str->Option Value}{base:Heap}{N ps:List Str}{qual:Str}{scope:Scope}{f:Addr}{cd:Value}{A:Around}{outer:List Env}{s s1:Shared}{H:Hp}{E:XK}{us:List Value}{vs:List V}
  (S:bI N ps scope) (hd:A.handled=none) (e0:HB P w K mg base A outer s H) (hl:vs.length=ps.length) (r:Vals vs us)
  (x:InCallC s s.heap.objs.size (bindL (envOfC qual scope s.heap.objs.size f cd).kindOf (ps.zip us) λ_=>none) (cellsFrom (s.heap.objs.size+1) scope.names []) (bindC (envOfC qual scope s.heap.objs.size f cd).kindOf (ps.zip us) λ_=>none) s1) :
  Inv (Hn CX P w K mg base N qual scope f cd A outer s H E) [] (start N vs) H s1:=by
 have hpl:ps.length<=N.length:=by have:=congrArg List.length S.pre;rw[List.length_take] at this;omega
 obtain⟨h1,tk,rfl,hk⟩:=x.done;have Ua:∀b:Addr,b ∉ (Hn CX P w K mg base N qual scope f cd A outer s H E).ex:=λb z=>absurd (show b∈([]:List Addr) from z) (by simp);refine⟨⟨e0.mod,S.kind,rfl,rfl,Nat.le_refl _,λy z c h1 h2=>?_,λy hy=>?_,λy c _ h=>?_,λ_=>hd,Around.frames_deeper e0.frames,.inr ⟨rfl,rfl⟩,λb z=>absurd z (Ua b),e0.bs,e0.TQ,λb _ _=>Ua b,λb z=>absurd z (Ua b),e0.uI,e0.XX⟩,
  rfl,e0.bare,Un.kept hk,⟨_,x.toInCall.ns,λi y v h1 h2 h3=>?_⟩,λy c h=>⟨_,x.cell y c h⟩,e0.hok.fresh (Nat.le_refl _),λy c h=>?_,λp hp=>absurd (show p∈([]:List (Addr×Obj)) from hp) (by simp),e0.hok.kept hk,?_⟩
 ·exact name_of_addr x.apart (PySem.mem_of_lookup h1) (PySem.mem_of_lookup h2)
 ·have hy:scope.names.lookup y=some .cell\/scope.names.lookup y=some .free:=hy;rcases hy with hy|hy
  ·exact zM hy
  ·exact absurd rfl (S.aaF _ (PySem.mem_of_lookup hy))
 ·exact Nat.le_of_lt (x.above y c (PySem.mem_of_lookup h))
 ·have hi:i<vs.length:=by
   unfold start at h2;by_cases hi:i<vs.length
   ·exact hi
   ·rw[List.getElem?_append_right (by simpa using hi)] at h2;rw[List.getElem?_replicate] at h2;split at h2<;>cases h2
  have ha:vs[i]? = some v:=by
   unfold start at h2;rw[List.getElem?_append_left (by simpa using hi),List.getElem?_map] at h2;cases e:vs[i]? with
   | none=>rw[e] at h2;cases h2
   | some a=>rw[e] at h2;cases h2;rfl
  obtain⟨u,hu,rv⟩:=r.get ha;have hp:ps[i]? = some y:=by rw[<-S.pre,List.getElem?_take_of_lt (by omega)];exact h1
  have ndP:ps.Nodup:=by rw[<-S.pre];exact S.nd.sublist (List.take_sublist _ _)
  refine⟨u,rv,?_⟩;rcases S.par y (List.mem_of_getElem? hp) with k|k
  ·exact .inl ⟨k,Ci ndP hp hu k⟩
  ·obtain⟨c,e⟩:=zM (n:=s.heap.objs.size+1) k;refine .inr ⟨.inl k,c,e,?_⟩;have q:=x.cell y c e;rw[Ck ndP hp hu (by show scope.names.lookup y≠_;rw[k];decide)] at q;exact q
 ·exact .inl (e0.hok.fresh (Nat.le_of_lt (x.above y c (PySem.mem_of_lookup h))))
 ·unfold start;show _=N.length;rw[List.length_append,List.length_map,List.length_replicate];omega
theorem X3{CX:Ot}{P:Program}{w:World}{K:PySem.W.Frag}{mg:Str->Option Value}{base:Heap}{k:Nat}{f:Addr}{name qual:Str}{params:Arguments}{body:List Stmt}{scope:Scope}{dV kV doc pm cdv ct oc:Value}{an od:Option Addr}
  {osl:Array (Option Value)} {N ps:List Str} {sp:Sp} (lk:K.lookup f=some ⟨oc,od,.func (PySem.W.fnOf name qual params body scope dV kV doc pm an cdv ct),osl⟩) (hcd:PySem.W.codeIn K cdv qual=true) (S:bI N ps scope)
  (len:∀vs H Q E,sp vs H Q E->vs.length=ps.length)
  (hbody:∀(A:Around) (outer:List Env) (s:Shared) (H:Hp) (vs:List V) (Q:VK) (E:XK),fJ k (A.deeper (envOfC qual scope s.heap.objs.size f cdv))->sp vs H Q E->
   ∃t,Et (Hn CX P w K mg base N qual scope f cdv A outer s H E) body t/\t { nx:=λ_ H'=>Q .non H',rt:=Q } (start N vs) H) :
  lC P w K mg base CX (k+1) f (PySem.W.fnOf name qual params body scope dV kV doc pm an cdv ct) ps sp:=by
 refine⟨len,λA outer s H args us vs Q E hr e0 hb r hsp=>?_⟩;have hl:=len _ _ _ _ hsp;have KX:K.In s.heap:=e0.mod.HJ.keeps λb o e=>(e0.bs b o e).1;have lim:s.heap.NoLimit:=e0.mod.nolimit.keeps λb o e=>(e0.bs b o e).1;have hkind:∀y∈ps.zip us,scope.names.lookup y.1=some .local\/(scope.names.lookup y.1=some .cell/\((cellsFrom (s.heap.objs.size+1) scope.names []).lookup y.1).isSome=true):=λ⟨n,v⟩ hy=>by
  rcases S.par n (List.of_mem_zip hy).1 with q|q
  ·exact .inl q
  ·exact .inr ⟨q,PySem.W.cellsFrom_some _ _ _ (.inl q)⟩
 refine codeAny_call_function hr.depth (KX _ _ lk) rfl S.co S.gen rfl (PySem.W.codeRec_of KX hcd) (hb _ _ _ _ ?_);refine wpAny_newFunctionEnv_cells S.kind hkind λenv he s1 x=>?_;subst he;refine⟨lim.keeps x.toInCall.keep,codeAny_func ?_⟩;obtain⟨t,ht,hq⟩:=hbody A outer s H vs Q E (hr.deeper _) hsp;have I:Inv (Hn CX P w K mg base N qual scope f cdv A outer s H E) [] (start N vs) H s1:=Nv S hr.hd e0 hl r x;refine wpAny_mono (ht [] s1 (start N vs) H _ I hq) (λfl s' hs=>?_) λe s' hs=>hs;have fin:∀{σ':St} {H':Hp} {v:V} {u:Value},Inv (Hn CX P w K mg base N qual scope f cdv A outer s H E) [] σ' H' s'->RelV v u->Q v H'->CE outer P w H s Q u s':=
  λ{σ' H' v u} J rv q=>⟨v,H',J.os,J.bare,J.base,J.hok,rv,q⟩
 cases fl with
 | ret u=>
  obtain⟨v,σ',H',J,rv,q⟩:=hs;exact fin J rv q
 | next=>
  obtain⟨σ',H',J,q⟩:=hs;exact fin (v:=V.non) (u:=Value.none) J rfl q
 | brk=>
  obtain⟨_,_,_,q⟩:=hs;exact False.elim q
 | cont=>
  obtain⟨_,_,_,q⟩:=hs;exact False.elim q
section
variable{X:Cx}{x:Str}{p pos:Pos}{e:Expr}{es:List Expr}{t:TA}{id T:String}{r:List V->Hp->VK->Prop}
def tCB(r:List V->Hp->VK->Prop)(t:TA):TE:=λσ H Q=>t σ H λvs H1=>r vs H1 Q
def Gr(hc:jo X (.builtin id) r)(hg:Gl X x)(hm:X.mg x=none)(hv:bootBuiltins x=some (.builtin id))(ha:PA X (e::es) t)(hn:x ≠ "__name__":=by decide)(hdb:iZ x:=by decide)
  (he:starEach (e::es) X.env=(false,eval e X.env)::starEach es X.env:=by rfl) (hpl:(backTo pos (starEach es X.env)).any (·.1)=false:=by rfl):PE X (.Call (.Name x p) (e::es) [] pos) (tCB r t):=by
 intro pins s σ H Q I h;refine wpAny_Call_Name_kw (wg I hg hm hv ?_ hn hdb);exact PyProof.Rows.callWith_builtin1 (gr (ha pos pins s σ H _ I h) λus s1 ⟨vs,H1,I1,r1,q1⟩=>hc pins s1 σ H1 vs us Q I1 r1 q1) he hpl
def M7(hc:jo X (.type T) r)(hg:Gl X x)(hm:X.mg x=none)(hv:bootBuiltins x=some (.type T))(ha:PA X (e::es) t)(hn:x ≠ "__name__":=by decide)(hdb:iZ x:=by decide)
  (he:starEach (e::es) X.env=(false,eval e X.env)::starEach es X.env:=by rfl) (hpl:(backTo pos (starEach es X.env)).any (·.1)=false:=by rfl):PE X (.Call (.Name x p) (e::es) [] pos) (tCB r t):=by
 intro pins s σ H Q I h;refine wpAny_Call_Name_kw (wg I hg hm hv ?_ hn hdb);exact PyProof.Rows.callWith_type1 (gr (ha pos pins s σ H _ I h) λus s1 ⟨vs,H1,I1,r1,q1⟩=>hc pins s1 σ H1 vs us Q I1 r1 q1) he hpl
end
end L2
namespace HT
open PySem PyProof.Rows
section
variable{prog:Program}{w:World}{A:Around}{E:Value->Shared->Prop}{s:Shared}
def WD{t b:Addr}{vs ws:List Value}{Q:Value->Shared->Prop}(ht:IsTup s.heap t vs.toArray)(hb:IsTup s.heap b ws.toArray)(hv:vs≠[])
  (h1:ws=[]->Q (.ref t) s) (h2:ws≠[]->Q (.ref s.heap.objs.size) { s with heap:=s.heap.push { cls:=.type "tuple",data:=.seq (vs++ws).toArray } })
  (hsz:vs.length+ws.length<=sizeLine):wpAny (model prog w) A (binaryOp .Add (.ref t) (.ref b)) Q E s:=by
 obtain⟨⟨cls,dd,data,sl⟩,ho,hc,n,hd⟩:=id ht;obtain⟨⟨cls2,dd2,data2,sl2⟩,ho2,hc2,n2,hd2⟩:=id hb;simp only at hc hd hc2 hd2;subst hc hd hc2 hd2;have e:vs.toArray++ws.toArray=(vs++ws).toArray:=by simp
 by_cases hw:ws=[]
 ·exact concat_meets ⟨_,ho,rfl⟩ ⟨_,ho2,rfl⟩ noFill_tuple_add seq_tuple_add PySem.F.slot_tuple_add PySem.F.entry_tuple_add (PySem.F.args_tuple_add_2 _ _)
   (tuple_addW1 t b vs.toArray ws.toArray n n2 dd dd2 sl sl2 (by simpa using hv) (by simp[hw])) ⟨ho,ho2,h1 hw⟩
 ·refine concat_meets ⟨_,ho,rfl⟩ ⟨_,ho2,rfl⟩ noFill_tuple_add seq_tuple_add PySem.F.slot_tuple_add PySem.F.entry_tuple_add (PySem.F.args_tuple_add_2 _ _)
   (tuple_addW2 t b vs.toArray ws.toArray n n2 dd dd2 sl sl2 (by simpa using hv) (by simpa using hw) (by rw[List.size_toArray,List.size_toArray];exact hsz)) ⟨ho,ho2,?_⟩
  rw[e];exact h2 hw
def fU(n d:Nat):Option Int->Nat
 | none=>d
 | some v=>if v<0 then (v+(n:Int)).toNat else min v.toNat n
def Dh(n d:Nat)(hd:d<=n)(o:Option Int):fU n d o<=n:=by
 cases o with
 | none=>exact hd
 | some v=>
  show(if v<0 then (v+(n:Int)).toNat else min v.toNat n)<=n;by_cases hv:v<0
  ·rw[if_pos hv];omega
  ·rw[if_neg hv];exact Nat.min_le_right _ _
def Lp(v:Int)(n d:Nat):(if v<0 then max (v+(n:Int)) 0 else min v (n:Int))=((fU n d (some v):Nat):Int):=by
 show(if v<0 then max (v+(n:Int)) 0 else min v (n:Int))=(((if v<0 then (v+(n:Int)).toNat else min v.toNat n):Nat):Int);by_cases hv:v<0
 ·simp only[if_pos hv];omega
 ·simp only[if_neg hv];omega
def J4(lo hi:Option Int)(n:Nat):Builtin.Slice.sliceAdjust lo hi 1 (n:Int)=(((fU n 0 lo:Nat):Int),((fU n n hi:Nat):Int)):=by
 have h1:¬((1:Int)<0):=by omega
 unfold Builtin.Slice.sliceAdjust;simp only[h1,if_false];refine Prod.ext ?_ ?_
 ·cases lo with
  | none=>rfl
  | some v=>exact Lp v n 0
 ·cases hi with
  | none=>rfl
  | some v=>exact Lp v n n
def Jk(i j:Nat):Builtin.Slice.slicePlaces (i:Int) (j:Int) 1=j - i:=by
 unfold Builtin.Slice.slicePlaces;have h1:(1:Int) > 0:=by omega
 simp only[h1,if_true,Int.ediv_one];split<;>omega
def yH{v:Value}{o:Option Int}{Q:Option Int->Shared->Prop}(p:IsPart v o)(h:Q o s):wpAny (model prog w) A (Builtin.Slice.slicePartIndex v) Q E s:=by
 cases p with
 | none=>exact slicePart_none h
 | int i t=>exact slicePart_int h
def nH{sl:Addr}{vl vu:Value}{lo hi:Option Int}{n:Nat}{Q:Int×Int×Nat->Shared->Prop}(hs:s.heap.IsSliceOf sl vl vu .none)(pl:IsPart vl lo)(pu:IsPart vu hi)
  (h:Q (((fU n 0 lo:Nat):Int),1,fU n n hi - fU n 0 lo) s):wpAny (model prog w) A (Builtin.Slice.sliceApplied (.ref sl) (pure (n:Int))) Q E s:=by
 obtain⟨os,hos,hcs,hds⟩:=id hs;unfold Builtin.Slice.sliceApplied Builtin.Slice.sliceFields;refine wpAny_bind (wpAny_bind (wpAny_field hos hds (x:=vl) rfl (wpAny_bind (wpAny_field hos hds (x:=vu) rfl (wpAny_bind (wpAny_field hos hds (x:=.none) rfl (wpAny_pure ?_)))))));refine wpAny_bind (slicePart_none ?_);show wpAny _ _ (if ((1:Int) == 0)=true then _ else _) _ _ s;rw[if_neg (by decide)];refine wpAny_bind (yH pl (wpAny_bind (yH pu (wpAny_bind (wpAny_pure ?_)))));show wpAny _ _ (match Builtin.Slice.sliceAdjust lo hi 1 (n:Int) with|(lo,hi)=>pure (lo,(1:Int),Builtin.Slice.slicePlaces lo hi 1)) _ _ s;rw[J4 lo hi n];show wpAny _ _ (pure (((fU n 0 lo:Nat):Int),(1:Int),Builtin.Slice.slicePlaces ((fU n 0 lo:Nat):Int) ((fU n n hi:Nat):Int) 1)) _ _ s;rw[Jk];exact wpAny_pure h
def Q8(xs:Array Value)(i k:Nat):((List.range k).filterMap λ(m:Nat)=>xs[((i:Int)+(m:Int)*1).toNat]?).toArray=((xs.toList.drop i).take k).toArray:=by
 have e:(λ(m:Nat)=>xs[((i:Int)+(m:Int)*1).toNat]?)=λm=>xs[i+m]?:=by
  funext m
  have:((i:Int)+(m:Int)*1).toNat=i+m:=by omega
  rw[this]
 rw[e];have:=pick_run xs i k;rw[List.filterMap_map] at this;have e2:((λx=>xs[x]?) ∘ λx=>i+x)=λm=>xs[i+m]?:=rfl;rw[e2] at this;rw[this]
def uH{t sl:Addr}{items:Array Value}{vl vu:Value}{lo hi:Option Int}{Q:Value->Shared->Prop}(ht:IsTup s.heap t items)(hs:s.heap.IsSliceOf sl vl vu .none)(pl:IsPart vl lo)(pu:IsPart vu hi)
  (hw:¬(fU items.size 0 lo=0/\fU items.size items.size hi=items.size))
  (h:Q (.ref s.heap.objs.size) { s with heap:=s.heap.push { cls:=.type "tuple",data:=.seq ((items.toList.drop (fU items.size 0 lo)).take (fU items.size items.size hi - fU items.size 0 lo)).toArray } })
  (hsz:items.size<=sizeLine):wpAny (model prog w) A (getItem (.ref t) (.ref sl)) Q E s:=by
 have La:sizeOk (.seq ((items.toList.drop (fU items.size 0 lo)).take (fU items.size items.size hi - fU items.size 0 lo)).toArray):=by show((items.toList.drop (fU items.size 0 lo)).take (fU items.size items.size hi - fU items.size 0 lo)).toArray.size<=sizeLine;rw[List.size_toArray,List.length_take,List.length_drop,Array.length_toList];omega
 have hj:fU items.size items.size hi<=items.size:=Dh _ _ (Nat.le_refl _) hi;obtain⟨os,hos,hcs,hds⟩:=id hs;have hTs:s.TypeIs (.ref sl) "slice":=⟨os,hos,hcs⟩;unfold getItem
 try with_reducible refine wpAny_holding ?_
 first|refine wpAny_bind (wpAny_pure ?_)|skip
 refine wpAny_bind (wpAny_sequenceKey ht.typeIs (by decide) ?_);refine wpAny_bind (wpAny_callSpecial?_slot (name:=Str.ofString "__getitem__") ht.typeIs PyProof.Rows.slot_tuple_getitem
  (wpAny_call_entry PyProof.Rows.slot_tuple_getitem ht.typeIs entry_tuple_getitem ?_ (args_tuple_getitem _ _)))
 show wpAny _ _ (Builtin.Tuple.tupleItemsOf (.ref t) >>= _) _ _ s;refine wpAny_bind (tupleItemsOf_ ht ?_);refine wpAny_bind (wpAny_typeOf hTs ?_);rw[if_pos (by decide)];refine wpAny_bind (nH hs pl pu ?_);have hno:¬((((fU items.size 0 lo:Nat):Int) == 0&&(1:Int) == 1&&(fU items.size items.size hi - fU items.size 0 lo) == items.size)=true):=by intro q;rw[Bool.and_eq_true,Bool.and_eq_true] at q;have q1:((fU items.size 0 lo:Nat):Int)=0:=eq_of_beq q.1.1;have q2:fU items.size items.size hi - fU items.size 0 lo=items.size:=eq_of_beq q.2;exact hw ⟨by omega,by omega⟩
 show wpAny _ _ (if (((fU items.size 0 lo:Nat):Int) == 0&&(1:Int) == 1&&(fU items.size items.size hi - fU items.size 0 lo) == items.size)=true then _ else _) _ _ s;rw[if_neg hno,Q8]
 first
  | exact wpAny_bind (m:=Builtin.Tuple.tupleExact _) (wpAny_newObj_type (wpAny_pure ⟨_,rfl,wpAny_pure h⟩) La)
  | exact wpAny_bind (m:=Builtin.Tuple.tupleExact _) (wpAny_newObj_type (wpAny_bind (wpAny_pure (wpAny_pure ⟨_,rfl,wpAny_pure h⟩))) La)
  | exact wpAny_bind (wpAny_bind (m:=Builtin.Tuple.tupleExact _) (wpAny_newObj_type (wpAny_pure (wpAny_pure ⟨_,rfl,wpAny_pure h⟩)) La))
  | exact wpAny_bind (wpAny_bind (m:=Builtin.Tuple.tupleExact _) (wpAny_newObj_type (wpAny_pure ⟨_,rfl,wpAny_pure h⟩) La))
end
end HT
namespace L2
open PySem PySem.Spec PyProof.Rows
abbrev TO:=St->Hp->(Option Int->Hp->Prop)->Prop
def PO(X:Cx)(e:Option Expr)(t:TO):Prop:=
 ∀(pins:List (Addr×Obj)) (s:Shared) (σ:St) (H:Hp) (Q:Option Int->Hp->Prop),Inv X pins σ H s->t σ H Q->
  wpAny (model X.prog X.w) X.A (evalPart e X.env) (λu s'=>∃o H',Inv X pins σ H' s'/\IsPart u o/\Q o H') X.xe s
def Us:TO:=λ_ H Q=>Q none H
def ac2(t:TE):TO:=λσ H Q=>t σ H λx H1=>∃i,x = .int i/\Q (some i) H1
section
variable{X:Cx}{e:Expr}{te:TE}{lo hi:Option Expr}{tl th:TO}{pos p2:Pos}
def Vw:PO X none Us:=by intro pins s σ H Q I h;rw[evalPart_none];exact wpAny_pure ⟨none,H,I,.none,h⟩
def Vv(h:PE X e te):PO X (some e) (ac2 te):=by intro pins s σ H Q I hw;rw[evalPart_some];refine gr (h pins s σ H _ I hw) λu s1 ⟨x,H1,I1,r1,q1⟩=>?_;obtain⟨i,rfl,q⟩:=q1;obtain⟨t,rfl⟩:=r1;exact⟨some i,H1,I1,.int i t,q⟩
def LK(X:Cx)(r:V->Option Int->Option Int->Hp->VK->Prop):Prop:=
 ∀(pins:List (Addr×Obj)) (s:Shared) (σ:St) (H:Hp) (x:V) (v vl vu:Value) (lo hi:Option Int) (sl:Addr) (Q:VK),Inv X pins σ H s->RelV x v->s.heap.IsSliceOf sl vl vu .none->IsPart vl lo->IsPart vu hi->r x lo hi H Q->
  ∃T id,typeLookup (.type T) "__getitem__" = pure (some (.builtin id))/\s.TypeIs v T/\wpAny (model X.prog X.w) X.A (getItem v (.ref sl)) (EP X pins σ Q) X.xe s
def LK.or{r r':V->Option Int->Option Int->Hp->VK->Prop}(h:LK X r)(h':LK X r'):LK X (λx lo hi H Q=>r x lo hi H Q\/r' x lo hi H Q):=by
 intro pins s σ H x v vl vu lo hi sl Q I rx hs pl pu q;rcases q with q|q
 ·exact h pins s σ H x v vl vu lo hi sl Q I rx hs pl pu q
 ·exact h' pins s σ H x v vl vu lo hi sl Q I rx hs pl pu q
def tSl(r:V->Option Int->Option Int->Hp->VK->Prop)(te:TE)(tl th:TO):TE:=λσ H Q=>te σ H λx H1=>tl σ H1 λl H2=>th σ H2 λu H3=>r x l u H3 Q
def yR{r:V->Option Int->Option Int->Hp->VK->Prop}(hr:LK X r)(he:PE X e te)(hl:PO X lo tl)(hu:PO X hi th):PE X (.Subscript e (.Slice lo hi none p2) pos) (tSl r te tl th):=by intro pins s σ H Q I h;refine Subscript_ (gr (he pins s σ H _ I h) λv s1 ⟨x,H1,I1,r1,q1⟩=>?_);refine wpAny_Slice (gr (hl pins s1 σ H1 _ I1 q1) λvl s2 ⟨l,H2,I2,pl,q2⟩=>gr (hu pins s2 σ H2 _ I2 q2) λvu s3 ⟨u,H3,I3,pu,q3⟩=>?_);rw[evalPart_none];refine wpAny_pure ?_;have I4:Inv X pins σ H3 { s3 with heap:=s3.heap.push { cls:=.type "slice",data:=.fields #[vl,vu,.none] } }:=I3.kept (t':=s3.toks) λb ob q=>Heap.get?_push_of_some _ q;obtain⟨T,id,hT,ht,hg⟩:=hr pins { s3 with heap:=s3.heap.push { cls:=.type "slice",data:=.fields #[vl,vu,.none] } } σ H3 x v vl vu l u s3.heap.objs.size Q I4 r1 (Heap.IsSliceOf.new ..) pl pu q3;show wpAny (model X.prog X.w) X.A (subscriptTail e (.Slice lo hi none p2) v (.ref s3.heap.objs.size)) (EP X pins σ Q) X.xe { s3 with heap:=s3.heap.push { cls:=.type "slice",data:=.fields #[vl,vu,.none] } };exact tail_any (ops:=[.ref s3.heap.objs.size,v]) ht hT hg (by with_unfolding_all rfl)
def xU(xs:List V)(lo hi:Option Int):List V:=(xs.drop (HT.fU xs.length 0 lo)).take (HT.fU xs.length xs.length hi - HT.fU xs.length 0 lo)
def xj(xs:List V)(lo hi:Option Int):(xU xs lo hi).length<=xs.length:=by unfold xU;rw[List.length_take,List.length_drop];omega
def Zd(K:PySem.W.Frag):V->Option Int->Option Int->Hp->VK->Prop:=λx lo hi H Q=>∃a xs,x = .ref a/\lB K H a xs/\
 ¬(HT.fU xs.length 0 lo=0/\HT.fU xs.length xs.length hi=xs.length)/\∀p,H p=none->Q (.ref p) (upd H p (.tup (xU xs lo hi)))
def IK:LK X (Zd X.K):=by
 intro pins s σ H x v vl vu lo hi sl Q I rx hs pl pu h;obtain⟨a,xs,rfl,hx,hw,q⟩:=h;cases rx;obtain⟨its,r,ht,hz⟩:=I.tuple hx;have hlen:its.toArray.size=xs.length:=by rw[List.size_toArray];exact r.length.symm
 refine⟨"tuple",_,PyProof.Rows.slot_tuple_getitem.lookup,ht.typeIs,?_⟩;refine HT.uH ht hs pl pu (by rw[hlen];exact hw) ?_ (by rw[hlen];exact hz);rw[hlen];refine⟨.ref s.heap.objs.size,_,I.laid (t':=s.toks) (o:=.tup (xU xs lo hi)) (λb ob q=>Heap.get?_push_of_some _ q) (Nat.le_refl _) ?_,rfl,q _ (I.hok.fresh (Nat.le_refl _))⟩;exact⟨Nat.le_trans (xj xs lo hi) hz,_,(r.drop (HT.fU xs.length 0 lo)).take (HT.fU xs.length xs.length hi - HT.fU xs.length 0 lo),Bh.new _ _⟩
def Xm(K:PySem.W.Frag):R2:=λx y H Q=>∃a b xs ys,x = .ref a/\y = .ref b/\lB K H a xs/\lB K H b ys/\xs≠[]/\xs.length+ys.length<=sizeLine/\
 (ys=[]->Q (.ref a) H)/\(ys≠[]->∀p,H p=none->Q (.ref p) (upd H p (.tup (xs++ys))))
def Vals.Du{xs:List V}{us:List Value}(r:Vals xs us):us=[]↔xs=[]:=by
 cases r with
 | nil=>simp
 | cons _ _=>simp
def VL:nu X (binaryOp .Add) (Xm X.K):=by intro pins s σ H x y v u Q I rx ry h;obtain⟨a,b,xs,ys,rfl,rfl,ha,hb,hx,hz,q1,q2⟩:=h;cases rx;cases ry;obtain⟨its,r1,p1,_⟩:=I.tuple ha;obtain⟨its2,r2,p2,_⟩:=I.tuple hb;refine HT.WD p1 p2 (λz=>hx (r1.Du.mp z)) (λz=>⟨.ref a,H,I,rfl,q1 (r2.Du.mp z)⟩) (λz=>?_) (by rw[<-r1.length,<-r2.length];exact hz);refine⟨.ref s.heap.objs.size,_,I.laid (t':=s.toks) (o:=.tup (xs++ys)) (λb ob q=>Heap.get?_push_of_some _ q) (Nat.le_refl _) ?_,rfl,q2 (λw=>z (r2.Du.mpr w)) _ (I.hok.fresh (Nat.le_refl _))⟩;exact⟨by rw[List.length_append];exact hz,_,r1.append r2,Bh.new _ _⟩
end
def Wc(n:Nat)(i:Int):Option Nat:=if 0<=i then (if i<n then some i.toNat else none) else if -(n:Int)<=i then some (i+n).toNat else none
def pR{α:Type}(xs:List α)(i:Int):Option α:=(Wc xs.length i).bind λj=>xs[j]?
def K6{n:Nat}{i:Int}{j:Nat}(h:Wc n i=some j):seqIndex? i n=some j/\j<n/\-(n:Int)<=i/\i<n:=by
 unfold Wc at h;by_cases h0:0<=i
 ·rw[if_pos h0] at h;by_cases h1:i<n
  ·rw[if_pos h1] at h;have e:i.toNat=j:=Option.some.inj h;exact⟨by rw[seqIndex_of h0 h1,e],by omega,by omega,h1⟩
  ·rw[if_neg h1] at h;cases h
 ·rw[if_neg h0] at h;by_cases h1 : -(n:Int)<=i
  ·rw[if_pos h1] at h;have e:(i+n).toNat=j:=Option.some.inj h;exact⟨by rw[seqIndex_neg (by omega) h1,e],by omega,h1,by omega⟩
  ·rw[if_neg h1] at h;cases h
def Em{α:Type}{xs:List α}{i:Int}{v:α}(h:pR xs i=some v):∃j,seqIndex? i xs.length=some j/\xs[j]? = some v/\j<xs.length/\-(xs.length:Int)<=i/\i<xs.length:=by
 unfold pR at h;cases e:Wc xs.length i with
 | none=>rw[e] at h;cases h
 | some j=>
  rw[e] at h;obtain⟨h1,h2,h3,h4⟩:=K6 e;exact⟨j,h1,h,h2,h3,h4⟩
def iJ{α:Type}{xs:List α}{j:Nat}{v:α}(h:xs[j]? = some v):pR xs (j:Int)=some v:=by
 have hj:j<xs.length:=(List.getElem?_eq_some_iff.mp h).1;have e:Wc xs.length (j:Int)=some j:=by unfold Wc;rw[if_pos (by omega),if_pos (by omega)];simp
 unfold pR;rw[e];exact h
def pF(b:Expr):Prop:=∀o i,subscripted b false o i=operate [o,i] (getItem o i)
def W3(X:Cx)(r:R2):Prop:=
 ∀(value slice:Expr) (pins:List (Addr×Obj)) (s:Shared) (σ:St) (H:Hp) (x y:V) (v u:Value) (Q:VK),Inv X pins σ H s->RelV x v->RelV y u->r x y H Q->
  subscripted slice false v u=operate [v,u] (getItem v u)->wpAny (model X.prog X.w) X.A (subscriptTail value slice v u) (EP X pins σ Q) X.xe s
def MtR(X:Cx)(id:String)(r:V->List V->Hp->VK->Prop):Prop:=
 ∀(pins:List (Addr×Obj)) (s:Shared) (σ:St) (H:Hp) (x:V) (xs:List V) (v:Value) (us:List Value) (Q:VK),Inv X pins σ H s->RelV x v->Vals xs us->r x xs H Q->
  wpAny (model X.prog X.w) X.A (call (.builtin id) (v::us)) (EP X pins σ Q) X.xe s
section
variable{X:Cx}{a b:Expr}{ta tb:TE}{pos:Pos}
def W3.or{r r':R2}(h:W3 X r)(h':W3 X r'):W3 X (λx y H Q=>r x y H Q\/r' x y H Q):=by
 intro value slice pins s σ H x y v u Q I rx ry q hs;rcases q with q|q
 ·exact h value slice pins s σ H x y v u Q I rx ry q hs
 ·exact h' value slice pins s σ H x y v u Q I rx ry q hs
def Xr{r:R2}(hr:W3 X r)(ha:PE X a ta)(hb:PE X b tb)(hs:pF b):PE X (.Subscript a b pos) (YT r ta tb):=by intro pins s σ H Q I h;exact Subscript_ (ab2 ha hb I h λv u s2 x y H2 I2 rx ry q=>hr a b pins s2 σ H2 x y v u Q I2 rx ry q (hs _ _))
def adD(K:PySem.W.Frag):R2:=λx y H Q=>∃p xs i v,x = .ref p/\y = .int i/\n8 K H p xs/\pR xs i=some v/\Q v H
def adB(K:PySem.W.Frag):R2:=λx y H Q=>∃p xs i v,x = .ref p/\y = .int i/\lB K H p xs/\pR xs i=some v/\Q v H
def adC:R2:=λx y H Q=>∃z i c,x = .str z/\y = .int i/\z.length<=sizeLine/\pR z.cps.toList i=some c/\Q (.str ⟨#[c]⟩) H
def Wa:W3 X (adD X.K):=by
 intro value slice pins s σ H x y v u Q I rx ry h hs;obtain⟨p,xs,i,z,rfl,rfl,hq,he,q⟩:=h;cases rx;obtain⟨t,rfl⟩:=ry;obtain⟨its,r,pl,hz⟩:=I.list hq;obtain⟨j,h1,h2,h3,h4,h5⟩:=Em he;obtain⟨w,ew,PQ⟩:=r.get h2;have hl:=r.length;have hn:=vZ;have fin:EP X pins σ Q w s:=⟨z,H,I,PQ,q⟩;by_cases h0:0<=i
 ·have hj:i.toNat=j:=by
   rw[seqIndex_of h0 h5] at h1;exact Option.some.inj h1
  exact item_listR pl.isList h0 (by omega) (by rw[hj];simpa using ew) fin hs
 ·have hj:(i+(its.toArray.size:Int)).toNat=j:=by
   rw[seqIndex_neg (by omega) h4] at h1;rw[List.size_toArray,<-hl];exact Option.some.inj h1
  exact subscriptTail_builtinR (x:=w) pl.isList.typeIs slot_list_getitem.lookup
   (wpAny_getItem_list_neg (Q:=λr s'=>r=w/\EP X pins σ Q r s') pl.isList (by omega) (by rw[List.size_toArray]<;>omega) (by omega) (by rw[hj];simpa using ew) ⟨rfl,fin⟩) hs
def abg:W3 X (adB X.K):=by
 intro value slice pins s σ H x y v u Q I rx ry h hs;obtain⟨p,xs,i,z,rfl,rfl,hq,he,q⟩:=h;cases rx;obtain⟨t,rfl⟩:=ry;obtain⟨its,r,pl,hz⟩:=I.tuple hq;obtain⟨j,h1,h2,h3,h4,h5⟩:=Em he;obtain⟨w,ew,PQ⟩:=r.get h2;have hl:=r.length;have hn:=vZ;have fin:EP X pins σ Q w s:=⟨z,H,I,PQ,q⟩;exact subscriptTail_builtinR (x:=w) pl.typeIs slot_tuple_getitem.lookup
  (getItem_tuple (j:=j) (Q:=λr s'=>r=w/\EP X pins σ Q r s') pl (by omega) (by omega) (by rw[List.size_toArray,<-hl];exact h1) (by simpa using ew) ⟨rfl,fin⟩) hs
def abh:W3 X adC:=by
 intro value slice pins s σ H x y v u Q I rx ry h hs;obtain⟨z,i,c,rfl,rfl,hz,he,q⟩:=h;obtain⟨t,rfl⟩:=rx;obtain⟨t',rfl⟩:=ry;obtain⟨j,h1,h2,h3,h4,h5⟩:=Em he;have hl:z.cps.toList.length=z.length:=by simp[Str.length]
 rw[hl] at h1 h4 h5;have hn:=vZ;exact tail_any (typeIs_str s z t) slot_str_getitem.lookup (getItem_str (c:=c) (by
  have e1:decide (i < -(2^63:Int))=false:=decide_eq_false (by omega);have e2:decide (i ≥ 2^63)=false:=decide_eq_false (by omega);rw[e1,e2,Bool.or_false]) (by rw[h1];simpa using h2) ⟨.str ⟨#[c]⟩,H,I.tok _,⟨_,rfl⟩,q⟩) hs
def rIx(K:PySem.W.Frag):R2:=λx y H Q=>adD K x y H Q\/adB K x y H Q\/adC x y H Q
def R9:W3 X (rIx X.K):=Wa.or (abg.or abh)
def Jv(its:List Value)(n j:Nat)(u:Value):Obj.mapSeq (·.setIfInBounds j u) { cls:=.type "list",data:=.seq its.toArray n } = { cls:=.type "list",data:=.seq (its.set j u).toArray n }:=by simp[Obj.mapSeq]
def Inv.lst{pins:List (Addr×Obj)}{σ:St}{H:Hp}{s:Shared}{p:Addr}{xs:List V}(I:Inv X pins σ H s)(h:H p=some (.lst xs)) :
  ∃(its:List Value) (n:Nat),Vals xs its/\s.heap.get? p=some { cls:=.type "list",data:=.seq its.toArray n }/\xs.length<=sizeLine:=by
 obtain⟨z,its,n,r,e⟩:=I.hok p _ h;exact⟨its,n,r,e,z⟩
def Inv.aaO{pins:List (Addr×Obj)}{σ:St}{H:Hp}{s:Shared}{p:Addr}{xs ys:List V}{its its':List Value}{n n':Nat}{f:Obj->Obj}(I:Inv X pins σ H s)(h:H p=some (.lst xs))
  (ho:s.heap.get? p=some { cls:=.type "list",data:=.seq its.toArray n }) (hf:f { cls:=.type "list",data:=.seq its.toArray n } = { cls:=.type "list",data:=.seq its'.toArray n' }) (r:Vals ys its') (hz:ys.length<=sizeLine) (t:Nat) :
  Inv X pins σ (upd H p (.lst ys)) { s with heap:=s.heap.update p f,toks:=t }:=by
 have e:(s.heap.update p f).get? p=some { cls:=.type "list",data:=.seq its'.toArray n' }:=by rw[Heap.get?_update_self f ho (by rw[hf]<;>rfl),hf]
 refine I.write (x:=p) (e:=p) (by rw[h];trivial) (.inl rfl) (λb u hb q=>(Heap.get?_update_other _ _ (Ne.symm hb)).trans q) ⟨_,e⟩ ?_;exact⟨hz,its',n',r,e⟩
def adx:V->V->V->Hp->(Hp->Prop)->Prop:=λo i v H Q=>∃p xs k j,o = .ref p/\i = .int k/\H p=some (.lst xs)/\Wc xs.length k=some j/\Q (upd H p (.lst (xs.set j v)))
def set_list:afu X adx:=by
 intro pins s σ H o i v ov iv u Q I ro ri rv h;obtain⟨p,xs,k,j,rfl,rfl,hp,hj,q⟩:=h;cases ro;obtain⟨t,rfl⟩:=ri;obtain⟨its,n,r,ho,hz⟩:=I.lst hp;obtain⟨h1,h2,h3,h4⟩:=K6 hj;have hl:=r.length;have hn:=vZ;have I':Inv X pins σ (upd H p (.lst (xs.set j v))) { s with heap:=s.heap.update p (Obj.mapSeq (·.setIfInBounds j u)) }:=
  I.aaO hp ho (Jv its n j u) (r.set rv j) (by rw[List.length_set];exact hz) s.toks
 by_cases h0:0<=k
 ·have hk:k.toNat=j:=by
   rw[seqIndex_of h0 h4] at h1;exact Option.some.inj h1
  exact PySem.W.ki_setAt ho h0 (by omega) (by rw[List.size_toArray,<-hl];exact h4) (by rw[hk];exact⟨_,I',q⟩)
 ·have hk:(k+(its.toArray.size:Int)).toNat=j:=by
   rw[seqIndex_neg (by omega) h3] at h1;rw[List.size_toArray,<-hl];exact Option.some.inj h1
  exact PySem.W.ki_setBack ho (by omega) (by rw[List.size_toArray,<-hl];exact h3) (by omega) (by rw[hk];exact⟨_,I',q⟩)
def CW(lo hi:Option Int)(n:Nat):(sliceBounds lo hi none n).1=((HT.fU n 0 lo:Nat):Int)/\(sliceBounds lo hi none n).2.1=((HT.fU n n hi:Nat):Int)/\(sliceBounds lo hi none n).2.2=1:=by
 refine⟨?_,?_,rfl⟩
 ·cases lo with
  | none=>simp[sliceBounds,HT.fU]
  | some i=>
   simp only[sliceBounds,HT.fU,Option.getD_none,show(1:Int) > 0 by decide,if_true];by_cases h:i<0
   ·simp only[h,if_true]<;>omega
   ·simp only[h,if_false]<;>omega
 ·cases hi with
  | none=>simp[sliceBounds,HT.fU]
  | some i=>
   simp only[sliceBounds,HT.fU,Option.getD_none,show(1:Int) > 0 by decide,if_true];by_cases h:i<0
   ·simp only[h,if_true]<;>omega
   ·simp only[h,if_false]<;>omega
def Ah(its:List Value)(lo hi:Option Int):slicePick its.toArray lo hi none=((its.drop (HT.fU its.length 0 lo)).take (HT.fU its.length its.length hi - HT.fU its.length 0 lo)).toArray:=by obtain⟨h1,h2,h3⟩:=CW lo hi its.toArray.size;unfold slicePick;rw[h1,h2,h3];simp only[sliceRange_one,pick_run,List.size_toArray]<;>rfl
def adw(K:PySem.W.Frag):V->Option Int->Option Int->Hp->VK->Prop:=λx lo hi H Q=>∃a xs,x = .ref a/\n8 K H a xs/\∀p,H p=none->Q (.ref p) (upd H p (.lst (xU xs lo hi)))
def Kw:LK X (adw X.K):=by intro pins s σ H x v vl vu lo hi sl Q I rx hs pl pu h;obtain⟨a,xs,rfl,hx,q⟩:=h;cases rx;obtain⟨its,r,ht,hz⟩:=I.list hx;have hlen:=r.length;refine⟨"list",_,slot_list_getitem.lookup,ht.isList.typeIs,?_⟩;refine wpAny_getItem_list_slice ht.isList hs pl pu .none (by simp) ?_ (by rw[List.size_toArray]<;>omega);rw[Ah,<-hlen];refine⟨.ref s.heap.objs.size,_,I.laid (t':=s.toks) (o:=.lst (xU xs lo hi)) (λb ob q=>Heap.get?_push_of_some _ q) (Nat.le_refl _) ?_,rfl,q _ (I.hok.fresh (Nat.le_refl _))⟩;exact⟨Nat.le_trans (xj xs lo hi) hz,_,0,(r.drop (HT.fU xs.length 0 lo)).take (HT.fU xs.length xs.length hi - HT.fU xs.length 0 lo),Heap.get?_push_size _ rfl⟩
def jo.or{f:Value}{r r':List V->Hp->VK->Prop}(h:jo X f r)(h':jo X f r'):jo X f (λxs H Q=>r xs H Q\/r' xs H Q):=by
 intro pins s σ H xs us Q I rs q;rcases q with q|q
 ·exact h pins s σ H xs us Q I rs q
 ·exact h' pins s σ H xs us Q I rs q
def Ec:jo X (.type "list") (λxs H Q=>∃p ys,xs=[.ref p]/\(n8 X.K H p ys\/lB X.K H p ys)/\∀l,H l=none->Q (.ref l) (upd H l (.lst ys))):=by
 intro pins s σ H xs us Q I r h;obtain⟨p,ys,rfl,hq,q⟩:=h;obtain⟨u,rfl,rx⟩:=vals1 r;cases rx;have fin:∀(its:List Value),Vals ys its->ys.length<=sizeLine->∀(h':Heap) (c':Nat),(∀b o',s.heap.get? b=some o'->h'.get? b=some o')->
   h'.get? s.heap.objs.size=some { cls:=.type "list",dict:=none,data:=.seq its.toArray c',slots:=#[] }->EP X pins σ Q (.ref s.heap.objs.size) { s with heap:=h' }:=λits r' hz h' c' kp e=>
  ⟨.ref s.heap.objs.size,_,I.laid (t':=s.toks) kp (Nat.le_refl _) (show gq X.prog X.w _ h' _ (.lst ys) from⟨hz,its,c',r',e⟩),rfl,q _ (I.hok.fresh (Nat.le_refl _))⟩
 rcases hq with hq|hq
 ·obtain⟨its,r',pl,hz⟩:=I.list hq;have hlen:=r'.length;obtain⟨o,ho,hc,n,hd⟩:=pl.isList;exact call_list_seq p (.inl rfl) ho hc hd (λh' c' kp e=>fin its r' hz h' c' kp e) (by simp only[List.size_toArray]<;>omega)
 ·obtain⟨its,r',pl,hz⟩:=I.tuple hq;have hlen:=r'.length;obtain⟨o,ho,hc,n,hd⟩:=pl;exact call_list_seq p (.inr rfl) ho hc hd (λh' c' kp e=>fin its r' hz h' c' kp e) (by simp only[List.size_toArray]<;>omega)
def Be:jo X (.type "tuple") (λxs H Q=>∃p ys,xs=[.ref p]/\((n8 X.K H p ys/\∀l,H l=none->Q (.ref l) (upd H l (.tup ys)))\/(lB X.K H p ys/\Q (.ref p) H))):=by
 intro pins s σ H xs us Q I r h;obtain⟨p,ys,rfl,h⟩:=h;obtain⟨u,rfl,rx⟩:=vals1 r;cases rx;rcases h with ⟨hq,q⟩|⟨hq,q⟩
 ·obtain⟨its,r',pl,hz⟩:=I.list hq;have hlen:=r'.length;refine call_tuple_list pl.isList (λh' kp=>?_) (by simp only[List.size_toArray]<;>omega);have I1:Inv X pins σ H { s with heap:=h' }:=I.kept (t':=s.toks) kp;have I2:Inv X pins σ (upd H h'.objs.size (.tup ys)) { s with heap:=h'.push { cls:=.type "tuple",data:=.seq its.toArray } }:=
   I1.laid (t':=s.toks) (λb o e=>Heap.get?_push_of_some _ e) (Nat.le_refl _) (show gq X.prog X.w _ _ _ (.tup ys) from⟨hz,its,r',Bh.new _ _⟩)
  exact⟨.ref h'.objs.size,_,I2,rfl,q _ (I1.hok.fresh (Nat.le_refl _))⟩
 ·obtain⟨its,r',pl,hz⟩:=I.tuple hq;exact call_tuple_same pl ⟨.ref p,H,I,rfl,q⟩
def tyV(K:PySem.W.Frag)(T:String)(x:V)(H:Hp):Prop:=match x with
 | .str _=>T = "str"
 | .int _=>T = "int"
 | .ref p=>(T = "list"/\∃xs,n8 K H p xs)\/(T = "tuple"/\∃o,K.lookup p=some o/\o.cls = .type "tuple"/\o.dict=none)\/
   (T = "dict"/\((∃kvs,H p=some (.dK kvs))\/∃kvs,H p=some (.dT kvs)))\/(T = "set"/\∃S n,H p=some (.set S n))
 | _=>False
def YH{pins:List (Addr×Obj)}{σ:St}{H:Hp}{s:Shared}{T:String}{x:V}{v:Value}(I:Inv X pins σ H s)(r:RelV x v)(ty:tyV X.K T x H) :
  s.TypeIs v T/\∀a,v = .ref a->∃ob,s.heap.get? a=some ob/\ob.dict=none:=by
 cases x with
 | str z=>
  obtain⟨t,rfl⟩:=r;cases(show T = "str" from ty);exact⟨typeIs_str s z t,λ_ e=>nomatch e⟩
 | int i=>
  obtain⟨t,rfl⟩:=r;cases(show T = "int" from ty);exact⟨typeIs_int s i t,λ_ e=>nomatch e⟩
 | ref p=>
  cases r;rcases ty with ⟨rfl,xs,hq⟩|⟨rfl,o,hk,hc,hd⟩|⟨rfl,hk⟩|⟨rfl,S,n,hk⟩
  ·obtain⟨its,_,pl,_⟩:=I.list hq;refine⟨pl.isList.typeIs,λa e=>?_⟩;cases e;obtain⟨o,n,e,c,hd,_⟩:=pl;exact⟨o,e,hd⟩
  ·refine⟨⟨o,I.RP p o hk,hc⟩,λa e=>?_⟩;cases e;exact⟨o,I.RP _ o hk,hd⟩
  ·have z:∃o,s.heap.get? p=some o/\o.ExactDict:=by
    rcases hk with ⟨kvs,hk⟩|⟨kvs,hk⟩
    ·obtain⟨_,_,_,_,o,_,_,e,ex,_⟩:=I.hok p _ hk;exact⟨o,e,ex⟩
    ·obtain⟨_,_,_,_,o,_,_,e,ex,_⟩:=I.hok p _ hk;exact⟨o,e,ex⟩
   obtain⟨o,e,ex⟩:=z;refine⟨⟨o,e,ex.1⟩,λa e2=>?_⟩;cases e2;exact⟨o,e,ex.2.1⟩
  ·obtain⟨o,_,_,_,e,ex,_⟩:=I.hok p _ hk;refine⟨⟨o,e,ex.1⟩,λa e2=>?_⟩;cases e2;exact⟨o,e,ex.2.1⟩
 | _=>exact False.elim ty
def tBM(K:PySem.W.Frag)(T:String)(r:V->List V->Hp->VK->Prop)(to:TE)(t:TA):TE:=λσ H Q=>to σ H λx H1=>tyV K T x H1/\t σ H1 λxs H2=>r x xs H2 Q
variable{o e:Expr}{es:List Expr}{to:TE}{t:TA}{name:Str}{apos cpos:Pos}{T id:String}{r:V->List V->Hp->VK->Prop}
def Xu(pa:PlainAttrs T)(slot:Slot T name id)(hty:typeOf (.builtin id)=pure (.type "method_descriptor"))(hm:MtR X id r)(ho:PE X o to)(ha:PA X (e::es) t)
  (hbase:attributeBase o name X.env (eval o X.env)=eval o X.env:=by rfl)
  (hfew:((backTo cpos (starEach (e::es) X.env)).all (λx=>!x.1)&&(backToKw cpos (keywordEach [] X.env)).all (λx=>x.1.isSome)
   && decide ((e::es).length+([]:List Keyword).length+(if ([]:List Keyword).isEmpty then 0 else 1)<30))=true:=by rfl)
  (hline:(apos.endLine == cpos.line)=true:=by rfl) (hs:starEach (e::es) X.env=(false,eval e X.env)::starEach es X.env:=by rfl) (hplain:(backTo cpos (starEach es X.env)).any (·.1)=false:=by rfl) :
  PE X (.Call (.Attribute o name apos) (e::es) [] cpos) (tBM X.K T r to t):=by
 intro pins s σ H Q I h;refine wpAny_Call_method_late hbase hfew hline rfl (gr (ho pins s σ H _ I h) λv s1 ⟨x,H1,I1,r1,ty,q1⟩=>?_);obtain⟨h1,h2⟩:=YH I1 r1 ty;refine⟨T,id,pa,slot,hty,h1,h2,?_⟩;have hA:=ha cpos pins s1 σ H1 _ I1 q1;rw[hs] at hA ⊢;refine Calls.callWith_builtin (by show(false||(backTo cpos (starEach es X.env)).any (·.1))=false;rw[hplain]<;>rfl) (Calls.evalArgs_plain ?_);exact gr hA λus s2 ⟨vs,H2,I2,r2,q2⟩=>hm pins s2 σ H2 x vs v us Q I2 r1 r2 q2
end
def MtM(X:Cx)(id:String)(r:V->List V->Hp->VK->Prop):Prop:=
 ∀(pins:List (Addr×Obj)) (s:Shared) (σ:St) (H:Hp) (x:V) (xs:List V) (v:Value) (us:List Value) (Q:VK),Inv X pins σ H s->RelV x v->Vals xs us->r x xs H Q->
  wpAny (model X.prog X.w) X.A (call (.builtin id) (v::us)) (EP X pins σ Q) X.xe s
theorem Vals.one:∀{x:V} {us:List Value},Vals [x] us->∃u,us=[u]/\RelV x u
 | _,_,.cons r .nil=>⟨_,rfl,r⟩
theorem Vals.two:∀{x y:V} {us:List Value},Vals [x,y] us->∃u v,us=[u,v]/\RelV x u/\RelV y v
 | _,_,_,.cons r (.cons q .nil)=>⟨_,_,rfl,r,q⟩
section
variable{X:Cx}{pins:List (Addr×Obj)}{σ:St}{H:Hp}{s:Shared}{l b:Addr}{xs ys zs:List V}
def Inv.ahr{its its':List Value}{n:Nat}{f:Array Value->Array Value}{t':Nat}(I:Inv X pins σ H s)(hH:H l=some (.lst xs))
  (e:s.heap.get? l=some { cls:=.type "list",data:=.seq its.toArray n }) (hf:f its.toArray=its'.toArray) (hv:Vals ys its') (hz:ys.length<=sizeLine) :
  Inv X pins σ (upd H l (.lst ys)) { s with heap:=s.heap.update l (Obj.mapSeq f),toks:=t' }:=by
 have q:=PySem.IsL.update e f;rw[hf] at q;refine I.write (x:=l) (e:=l) (by rw[hH];exact trivial) (.inl rfl) (λb' u hb hu=>(Heap.get?_update_other s.heap (Obj.mapSeq f) (Ne.symm hb)).trans hu) ⟨_,q⟩ ?_;exact⟨hz,its',_,hv,q⟩
def Inv.aei{its:List Value}{t':Nat}(I:Inv X pins σ H s)(hv:Vals ys its)(hz:ys.length<=sizeLine) :
  Inv X pins σ (upd H s.heap.objs.size (.lst ys)) { s with heap:=s.heap.push { cls:=.type "list",data:=.seq its.toArray },toks:=t' }:=
 I.laid (λ_ _ q=>Heap.get?_push_of_some _ q) (Nat.le_refl _) ⟨hz,its,0,hv,Heap.get?_push_size _ rfl⟩
def Inv.fresh(I:Inv X pins σ H s):H s.heap.objs.size=none:=I.hok.fresh (Nat.le_refl _)
def Inv.aaP(I:Inv X pins σ H s)(hH:H l=some (.lst xs)):xs.length<=sizeLine/\∃(its:List Value) (n:Nat),Vals xs its/\xs.length=its.length/\s.heap.get? l=some { cls:=.type "list",data:=.seq its.toArray n }:=by obtain⟨z,its,n,r,e⟩:=I.hok l _ hH;exact⟨z,its,n,r,r.length,e⟩
def ad9{n:Nat}(h:n<=sizeLine):Builtin.List.listTooLong n=false:=by unfold Builtin.List.listTooLong;exact decide_eq_false (by omega)
end
section
variable{X:Cx}{prog:Program}{w:World}{A:Around}{E:Value->Shared->Prop}{s:Shared}
def U6:V->List V->Hp->VK->Prop:=λx vs H Q=>∃l xs y,x = .ref l/\vs=[y]/\H l=some (.lst xs)/\xs.length<sizeLine/\Q .non (upd H l (.lst (xs++[y])))
def By:MtM X "list.append" U6:=by intro pins s σ H x vs v us Q I rx rv h;obtain⟨l,xs,y,rfl,rfl,hH,hz,q⟩:=h;cases rx;obtain⟨u,rfl,ru⟩:=rv.one;obtain⟨z,its,n,r,hl,e⟩:=I.aaP hH;refine call_meets F.slot_list_append ⟨_,e,rfl⟩ F.entry_list_append (F.args_list_append_2 _ _) (PySem.list_append l its.toArray n u (by rw[List.size_toArray];omega)) ⟨e,?_⟩;refine⟨.non,_,I.ahr (its':=its++[u]) hH e (by simp) (r.append (.cons ru .nil)) ?_,rfl,q⟩;rw[List.length_append,List.length_singleton];omega
def adH:R2:=λx y H Q=>∃l b xs zs,x = .ref l/\y = .ref b/\H l=some (.lst xs)/\H b=some (.lst zs)/\xs.length+zs.length<=sizeLine/\∀p,H p=none->Q (.ref p) (upd H p (.lst (xs++zs)))
def aao:nu X (binaryOp .Add) adH:=by
 intro pins s σ H x y v u Q I rx ry h;obtain⟨l,b,xs,zs,rfl,rfl,hH,hB,hz,q⟩:=h;cases rx;cases ry;obtain⟨z,its,n,r,hl,e⟩:=I.aaP hH;obtain⟨z2,its2,n2,r2,hl2,e2⟩:=I.aaP hB;refine PySem.P.add_list e e2 ?_ (by rw[List.size_toArray,List.size_toArray];omega);have ea:its.toArray++its2.toArray=(its++its2).toArray:=by simp
 rw[ea];exact⟨.ref _,_,I.aei (t':=s.toks) (r.append r2) (by rw[List.length_append];omega),rfl,q _ I.fresh⟩
set_option maxRecDepth 100000 in
end
end L2
namespace Att
open PySem PySem.W PySem.Calls PyProof.Rows
def xR{P:Params}{h:Heap}:∀(ns:List Int) (vs:List Value),WellAll P h vs (ns.map WData.int)->IntsAre vs ns:=by
 intro ns
 induction ns with
 | nil=>
  intro vs w;rw[List.map_nil] at w;cases w;exact .nil
 | cons n ns ih=>
  intro vs w;rw[List.map_cons] at w;cases w with
  | cons a b=>
   cases a;exact .cons _ _ (ih _ b)
def Mw{l:OpenLaw}{n:Nat}(hn:l.most=some n){P:Params}{h:Heap}{args:List WData}{vals:List Value}
  (hpre:l.row.toRowW.claim.pre args=true) (hwl:WellAll P h vals args) :
  ∃a vs ns,vals=[Value.ref a]/\args=[WData.list (ns.map WData.int)]/\h.get? a=some { cls:=.type "list",data:=.seq vs.toArray }/\IntsAre vs ns/\ns.length<=n:=by
 have hsh:WShape.hasAll [] args [.list .int]=true:=(pre_splitW hpre).1;have hc:l.pre.holds [] { args:=args }=true:=(pre_splitW hpre).2;obtain⟨d,r,rfl,h1,h2⟩:=hasAllW_cons hsh;obtain rfl:=hasAllW_nil h2;obtain⟨xs,rfl,h3⟩:=hasW_list h1;obtain⟨ns,rfl⟩:=items_int h3;have hlen:ns.length<=n:=by
  unfold OpenLaw.pre at hc;have h4:(WTm.not (.lt (.lit (.int (n:Int))) (.len (.arg 0)))).holds [] { args:=[.list (ns.map .int)] }=true:=by have h4:=(holds_andW hc).1;rw[hn] at h4;exact h4
  have h5:=condW_of h4 (w_not (w_lt w_lit (w_len_list (w_arg rfl))));rw[List.length_map] at h5;refine Nat.le_of_not_lt λq=>?_;have q':(n:Int)<((ns.length:Nat):Int):=by omega
  first
   | (rw[decide_eq_true q'] at h5;exact absurd h5 (by decide))
   | (simp at h5;omega)
 cases hwl with
 | cons w1 w2=>
  cases w2;cases w1 with
  | list ho hall=>exact⟨_,_,ns,rfl,rfl,ho,xR ns _ hall,hlen⟩
def M4(l:OpenLaw)(args:List WData):l.row.toRowW.claim.post args (.bool true) args=true:=
 postW_of (r:=l.row.toRowW) (X:=(true == true))
  (show WShape.has [] (.bool true) .bool=true by first|rfl|decide|simp[WShape.has,WShape.arms,WShape.armsAll])
  (show(WTm.eq .res (.lit (.bool true))).value [] { args:=args,res:=some (.bool true),after:=args }=some (.bool (true == true)) from w_eq_bool (w_res rfl) w_lit) rfl
end Att
namespace L2
open PySem PySem.Spec PyProof.Rows
theorem Bl:∀{vs:List Value} {ns:List Int},IntsAre vs ns->Vals (ns.map V.int) vs
 | _,_,.nil=>.nil
 | _,_,.cons n t h=>.cons ⟨t,rfl⟩ (Bl h)
def gh(s:Stmt):Arguments:=match s with
 | .FunctionDef _ a _ _ _ _ _ _ _ _=>a
 | _=>{ posonlyargs:=[],args:=[],vararg:=none,kwonlyargs:=[],kw_defaults:=[],kwarg:=none,defaults:=[] }
def cI(s:Stmt):List Stmt:=match s with
 | .FunctionDef _ _ b _ _ _ _ _ _ _=>b
 | _=>[]
def aL(s:Stmt):Scope:=match s with
 | .FunctionDef _ _ _ _ _ _ sc _ _ _=>sc
 | _=>{ kind:=.function,names:=[],isGenerator:=false,isCoroutine:=false }
abbrev xx:Ot:=λ_ _ _ _ _ _=>False
abbrev E0:XK:=λ_ _ _=>False
def KY{X:Cx}:Passes xx X E0:=λ_ _ _ _ _ _ _ h=>h.elim
structure Oj(K:PySem.W.Frag)(x qual:Str)(st:Stmt)(f:Addr)(fd:FuncData):Prop where
 ex:∃(oc:Value) (od:Option Addr) (kV doc pm:Value) (an:Option Addr) (cdv ct:Value) (osl:Array (Option Value)),
  fd=PySem.W.fnOf x qual (gh st) (cI st) (aL st) .none kV doc pm an cdv ct/\K.lookup f=some ⟨oc,od,.func fd,osl⟩/\PySem.W.codeIn K cdv qual=true
 kp:PySem.W.keepIn K (.ref f)=true
section
variable{P:Program}{w:World}{K:PySem.W.Frag}{mg:Str->Option Value}{base:Heap}
def Oj.ok{x qual:Str}{st:Stmt}{f:Addr}{fd:FuncData}{N ps:List Str}{k:Nat}{sp:Sp}(F:Oj K x qual st f fd)(S:bI N ps (aL st))(len:∀vs H Q E,sp vs H Q E->vs.length=ps.length)
  (hbody:∀(cdv:Value) (A:Around) (outer:List Env) (s:Shared) (H:Hp) (vs:List V) (Q:VK) (E:XK),fJ k (A.deeper (envOfC qual (aL st) s.heap.objs.size f cdv))->sp vs H Q E->
   ∃t,Et (Hn xx P w K mg base N qual (aL st) f cdv A outer s H E).VV (cI st) t/\t { nx:=λ_ H'=>Q .non H',rt:=Q } (start N vs) H):lC P w K mg base xx (k+1) f fd ps sp:=by
 obtain⟨oc,od,kV,doc,pm,an,cdv,ct,osl,rfl,lk,hcd⟩:=F.ex;refine X3 lk hcd S len λA outer s H vs Q E hr hsp=>?_;obtain⟨t,h,q⟩:=hbody cdv A outer s H vs Q E hr hsp;exact⟨t,h.VV,q⟩
def Oj.binds{x qual:Str}{st:Stmt}{f:Addr}{fd:FuncData}{ps:List Str}(F:Oj K x qual st f fd)
  (h:∀(kV doc pm:Value) (an:Option Addr) (cdv ct:Value) (us:List Value),us.length=ps.length->bindArgs (PySem.W.fnOf x qual (gh st) (cI st) (aL st) .none kV doc pm an cdv ct) ⟨us,[]⟩=pure (ps.zip us)):Binds K fd ps []:=by
 obtain⟨oc,od,kV,doc,pm,an,cdv,ct,osl,rfl,lk,hcd⟩:=F.ex;exact .all (h kV doc pm an cdv ct)
def zy{x qual:Str}{st:Stmt}{f:Addr}{oc:Value}{od an:Option Addr}{osl:Array (Option Value)}{kV doc pm cdv ct:Value}(l:K.lookup f=some ⟨oc,od,.func (PySem.W.fnOf x qual (gh st) (cI st) (aL st) .none kV doc pm an cdv ct),osl⟩)
  (c:PySem.W.codeIn K cdv qual=true) (k:PySem.W.keepIn K (.ref f)=true):Oj K x qual st f (PySem.W.fnOf x qual (gh st) (cI st) (aL st) .none kV doc pm an cdv ct):=⟨⟨oc,od,kV,doc,pm,an,cdv,ct,osl,rfl,l,c⟩,k⟩
end
def aeD{A B:Prop}(h:B):if false=true then A else B:=by rw[if_neg Bool.false_ne_true];exact h
def aeC{A B:Prop}(h:A):if true=true then A else B:=by rw[if_pos rfl];exact h
def aQ(H H':Hp):Prop:=∀b o,H b=some o->H' b=some o
def aQ.refl(H:Hp):aQ H H:=λ_ _ h=>h
def aQ.trans{H H1 H2:Hp}(a:aQ H H1)(b:aQ H1 H2):aQ H H2:=λc o h=>b c o (a c o h)
def aQ.free{H H':Hp}(e:aQ H H'){l:Addr}(h:H' l=Option.none):H l=Option.none:=by
 cases q:H l with
 | none=>rfl
 | some o=>
  rw[e l o q] at h;cases h
theorem aQ.seq{K:PySem.W.Frag}{H H':Hp}{a:Addr}{xs:List V}(e:aQ H H')(h:n8 K H a xs):n8 K H' a xs:=by
 rcases h with (h|⟨o,h⟩)|h
 ·exact .inl (.inl (e _ _ h))
 ·exact .inl (.inr ⟨o,e _ _ h⟩)
 ·exact .inr h
section
variable{κ:Type}[DecidableEq κ]
def rR(kvs:List (κ×V))(k:κ):Option V:=(kvs.find? λkv=>decide (kv.1=k)).map (·.2)
def putK(kvs:List (κ×V))(k:κ)(v:V):List (κ×V):=
 if (kvs.any λkv=>decide (kv.1=k))=true then kvs.map (λkv=>if kv.1=k then (kv.1,v) else kv) else kvs++[(k,v)]
def tY{p:κ×V}{r:List (κ×V)}{k:κ}(e:p.1=k):rR (p::r) k=some p.2:=by simp[rR,List.find?_cons,e]
def tZ{p:κ×V}{r:List (κ×V)}{k:κ}(e:¬p.1=k):rR (p::r) k=rR r k:=by simp[rR,List.find?_cons,e]
theorem yD(k:κ):∀kvs:List (κ×V),(kvs.any λkv=>decide (kv.1=k))=(rR kvs k).isSome
 | []=>rfl
 | p::r=>by
  rw[List.any_cons];by_cases e:p.1=k
  ·simp only[tY e,decide_eq_true e,Bool.true_or,Option.isSome_some]
  ·rw[tZ e,decide_eq_false e,Bool.false_or];exact yD k r
def qw(kvs:List (κ×V))(k:κ)(v:V):(putK kvs k v).length<=kvs.length+1:=by
 unfold putK;split
 ·rw[List.length_map];omega
 ·rw[List.length_append,List.length_cons,List.length_nil];omega
def wM.lH{o:Option V}{u:Option Value}(r:wM o u):o.isSome=u.isSome:=by
 cases o with
 | none=>cases u with
  | none=>rfl
  | some _=>exact(show False from r).elim
 | some _=>cases u with
  | none=>exact(show False from r).elim
  | some _=>rfl
def wM.getD{o:Option V}{u:Option Value}{d:V}{d':Value}(r:wM o u)(rd:RelV d d'):RelV (o.getD d) (u.getD d'):=by
 cases o with
 | none=>cases u with
  | none=>exact rd
  | some _=>exact(show False from r).elim
 | some _=>cases u with
  | none=>exact(show False from r).elim
  | some _=>exact r
def KV.val{kvs:List (κ×V)}{vs:List (κ×Value)}(r:KV kvs vs)(k:κ):wM (rR kvs k) (valueAt vs k):=by
 unfold KV at r
 induction r with
 | nil=>exact True.intro
 | @cons p q ps qs h t ih=>
  obtain⟨h1,h2⟩:=h;by_cases e:p.1=k
  ·have e':q.1=k:=h1.symm.trans e;have b:valueAt (q::qs) k=some q.2:=by simp[valueAt,List.find?_cons,e']
   rw[tY e,b];exact h2
  ·have e':¬q.1=k:=λz=>e (h1.trans z);have b:valueAt (q::qs) k=valueAt qs k:=by simp[valueAt,List.find?_cons,e']
   rw[tZ e,b];exact ih
def KV.any{kvs:List (κ×V)}{vs:List (κ×Value)}(r:KV kvs vs)(k:κ):(kvs.any λkv=>decide (kv.1=k))=vs.any λkv=>decide (kv.1=k):=by
 unfold KV at r
 induction r with
 | nil=>rfl
 | cons h t ih=>rw[List.any_cons,List.any_cons,ih,h.1]
def KV.repl{kvs:List (κ×V)}{vs:List (κ×Value)}(r:KV kvs vs)(k:κ){y:V}{u:Value}(ry:RelV y u) :
  KV (kvs.map λkv=>if kv.1=k then (kv.1,y) else kv) (vs.map λkv=>if kv.1=k then (kv.1,u) else kv):=by
 unfold KV at r ⊢
 induction r with
 | nil=>exact .nil
 | @cons p q ps qs h t ih=>
  rw[List.map_cons,List.map_cons];refine .cons ?_ ih;obtain⟨h1,h2⟩:=h;by_cases e:p.1=k
  ·rw[if_pos e,if_pos (h1.symm.trans e)];exact⟨h1,ry⟩
  ·rw[if_neg e,if_neg (λz=>e (h1.trans z))];exact⟨h1,h2⟩
def KV.put{kvs:List (κ×V)}{vs:List (κ×Value)}(r:KV kvs vs)(k:κ){y:V}{u:Value}(ry:RelV y u):KV (putK kvs k y) (stored vs k u):=by
 unfold putK stored;rw[r.any k];by_cases e:(vs.any λkv=>decide (kv.1=k))=true
 ·rw[if_pos e,if_pos e];exact r.repl k ry
 ·rw[if_neg e,if_neg e];exact Paired.snoc r ⟨rfl,ry⟩
def KV.keys{kvs:List (κ×V)}{vs:List (κ×Value)}(r:KV kvs vs):kvs.map (·.1)=vs.map (·.1):=by
 unfold KV at r
 induction r with
 | nil=>rfl
 | cons h t ih=>rw[List.map_cons,List.map_cons,ih,h.1]
def KV.length{kvs:List (κ×V)}{vs:List (κ×Value)}(r:KV kvs vs):kvs.length=vs.length:=Paired.length r
end
def BP{P:Program}{w:World}{k:Key}{u:Value}(r:RelV (kV k) u):(dZ P w).is k u=true:=by
 cases k with
 | inl i=>obtain⟨t,e⟩:=(show ∃t,u=Value.int i t from r);subst e;exact GJ P w i t
 | inr x=>obtain⟨t,e⟩:=(show ∃t,u=Value.str x t from r);subst e;exact GF P w x t
theorem BR{P:Program}{w:World}:∀{ks:List Key} {us:List Value},Vals (ks.map kV) us->ItemsAre (dZ P w) ks us
 | [],_,r=>by rw[List.map_nil] at r;cases r;exact .nil
 | k::ks,_,r=>by
  rw[List.map_cons] at r;cases r with
  | cons h t=>exact .cons (BP h) (BR t)
abbrev KT(H:Hp):List (List Key×V)->List (List Key×Addr×Value)->Prop:=Paired λp q=>p.1=q.1/\H q.2.1=some (.tup (p.1.map kV))/\RelV p.2 q.2.2
def KT.val{H:Hp}{kvs:List (List Key×V)}{xs:List (List Key×Addr×Value)}(r:KT H kvs xs)(k:List Key):wM (rR kvs k) ((atKey xs k).map (·.2)):=by
 induction r with
 | nil=>exact True.intro
 | @cons p q ps qs h t ih=>
  obtain⟨h1,_,h2⟩:=h;by_cases e:p.1=k
  ·have e':q.1=k:=h1.symm.trans e;have b:atKey (q::qs) k=some q.2:=by simp[atKey,List.find?_cons,e']
   rw[tY e,b];exact h2
  ·have e':¬q.1=k:=λz=>e (h1.trans z);have b:atKey (q::qs) k=atKey qs k:=by simp[atKey,List.find?_cons,e']
   rw[tZ e,b];exact ih
def KT.repl{H:Hp}{kvs:List (List Key×V)}{xs:List (List Key×Addr×Value)}(r:KT H kvs xs)(k:List Key){y:V}{u:Value}(ry:RelV y u) :
  KT H (kvs.map λkv=>if kv.1=k then (kv.1,y) else kv) (xs.map (putAt k u)):=by
 induction r with
 | nil=>exact .nil
 | @cons p q ps qs h t ih=>
  rw[List.map_cons,List.map_cons];refine .cons ?_ ih;obtain⟨h1,h2,h3⟩:=h;unfold putAt;by_cases e:p.1=k
  ·rw[if_pos e,if_pos (h1.symm.trans e)];exact⟨h1,h2,ry⟩
  ·rw[if_neg e,if_neg (λz=>e (h1.trans z))];exact⟨h1,h2,h3⟩
def KT.put{H:Hp}{kvs:List (List Key×V)}{xs:List (List Key×Addr×Value)}(r:KT H kvs xs)(k:List Key){b:Addr}{y:V}{u:Value}(hb:H b=some (.tup (k.map kV)))(ry:RelV y u) :
  KT H (putK kvs k y) (storedH xs k b u):=by
 have e:(kvs.any λkv=>decide (kv.1=k))=(atKey xs k).isSome:=by rw[yD,(r.val k).lH,Option.isSome_map]
 unfold putK storedH;rw[e];by_cases q:(atKey xs k).isSome=true
 ·rw[if_pos q,if_pos q];exact r.repl k ry
 ·rw[if_neg q,if_neg q];exact Paired.snoc r ⟨rfl,hb,ry⟩
def KT.keeps{H H':Hp}{kvs:List (List Key×V)}{xs:List (List Key×Addr×Value)}(r:KT H kvs xs)(ht:∀b ys,H b=some (.tup ys)->H' b=some (.tup ys)):KT H' kvs xs:=
 Paired.aaN r λ_ _ z=>⟨z.1,ht _ _ z.2.1,z.2.2⟩
section
variable{P:Program}{w:World}{H:Hp}{h:Heap}{a:Addr}
def Xk{u:HO}(ok:tQ P w H h)(e:Rd H a u):gq P w H h a u:=e.ok ok
def zJ{kvs:List (Key×V)}(ok:tQ P w H h)(e:Rd H a (.dK kvs)):kvs.length<=sizeLine/\(a == sysModules)=false/\∃vs,KV kvs vs/\h.DictOf (dZ P w) a vs:=
 show gq P w H h a (.dK kvs) from Xk ok e
def afh{kvs:List (Key×V)}(ok:tQ P w H h)(e:H a=some (.dK kvs)):kvs.length<=sizeLine/\(a == sysModules)=false/\∃vs,KV kvs vs/\h.DictOf (dZ P w) a vs:=zJ ok (.inl e)
def zm{ks:List Key}(ok:tQ P w H h)(e:H a=some (.tup (ks.map kV))):(tupleKind (dZ P w)).is h ks a:=by obtain⟨_,its,r,o,h1,h2,⟨n,h3⟩,_⟩:=(show gq P w H h a (.tup (ks.map kV)) from ok a _ e);exact⟨o,its.toArray,n,h1,h2,h3,by simpa using BR r⟩
def BX{kvs:List (List Key×V)}(ok:tQ P w H h)(e:Rd H a (.dT kvs)):kvs.length<=sizeLine/\(a == sysModules)=false/\
  ∃xs,KT H kvs xs/\h.DictOfH (tupleKind (dZ P w)) a xs:=by
 obtain⟨z,y,xs,r,o,es,ep,h1,h2,h3,h4,h5⟩:=(show gq P w H h a (.dT kvs) from Xk ok e);refine⟨z,y,xs,r,o,es,ep,h1,h2,h3,h4,λx hx=>?_,h5⟩;have all:∀{l:List (List Key×V)} {m:List (List Key×Addr×Value)},KT H l m->∀x∈m,(tupleKind (dZ P w)).is h x.1 x.2.1:=by
  intro l m q
  induction q with
  | nil=>intro x hx;exact nomatch hx
  | @cons p q ps qs hq t ih=>
   intro x hx;rcases List.mem_cons.mp hx with e|hx
   ·subst e;exact zm ok (by rw[<-hq.1];exact hq.2.1)
   ·exact ih x hx
 exact all r x hx
def afe{kvs:List (List Key×V)}(ok:tQ P w H h)(e:H a=some (.dT kvs)):kvs.length<=sizeLine/\(a == sysModules)=false/\
  ∃xs,KT H kvs xs/\h.DictOfH (tupleKind (dZ P w)) a xs:=BX ok (.inl e)
end
def HF(H:Hp)(a:Addr)(y:V)(r:Option V):Prop:=
 (∃kvs k,Rd H a (.dK kvs)/\y=kV k/\r=rR kvs k)\/∃kvs k b,Rd H a (.dT kvs)/\y = .ref b/\H b=some (.tup (k.map kV))/\r=rR kvs k
def T8(H:Hp)(a:Addr)(y v:V)(H':Hp):Prop:=
 (∃kvs k,H a=some (.dK kvs)/\y=kV k/\kvs.length<sizeLine/\H'=upd H a (.dK (putK kvs k v)))\/
 ∃kvs k b,H a=some (.dT kvs)/\y = .ref b/\H b=some (.tup (k.map kV))/\kvs.length<sizeLine/\H'=upd H a (.dT (putK kvs k v))
theorem T8.k{H:Hp}{a:Addr}{kvs:List (Key×V)}{k:Key}{v:V}(e:H a=some (.dK kvs))(hl:kvs.length<sizeLine):T8 H a (kV k) v (upd H a (.dK (putK kvs k v))):=.inl ⟨kvs,k,e,rfl,hl,rfl⟩
section
variable{X:Cx}{pins:List (Addr×Obj)}{σ:St}{H:Hp}{s:Shared}{a:Addr}{y v:V}{u r:Value}{o:Option V}{A:Around}{E:Value->Shared->Prop}
def Inv.big(I:Inv X pins σ H s):sysModules<s.heap.objs.size:=by have h:mainGlobals<s.heap.objs.size:=(I.mod.glob.keeps I.bk).lt;exact Nat.lt_trans (by decide) h
def N6{Q:Value->Shared->Prop}(hu:A.units+1<cLine)(I:Inv X pins σ H s)(g:HF H a y (some v))(ry:RelV y u)(h:∀w' s',Inv X pins σ H s'->RelV v w'->Q w' s') :
  wpAny (model X.prog X.w) A (getItem (.ref a) u) Q E s:=by
 rcases g with ⟨kvs,k,e,ey,l⟩|⟨kvs,k,b,e,ey,eb,l⟩
 ·subst ey;obtain⟨z,hd,vs,rel,dd⟩:=zJ I.hok e;obtain⟨w',hw,PQ⟩:=wM.some_of (v:=v) (o:=valueAt vs k) (by rw[l];exact rel.val k);exact wpAny_getItem_of (BP ry) dd.mapOf hw (h w' _ (I.tok _) PQ)
 ·subst ey;cases(show u=Value.ref b from ry);obtain⟨z,hd,xs,rel,dd⟩:=BX I.hok e;obtain⟨w',hw,PQ⟩:=wM.some_of (v:=v) (o:=(atKey xs k).map (·.2)) (by rw[l];exact rel.val k);obtain⟨p,hp,hp2⟩:=Option.map_eq_some_iff.mp hw;refine wpAny_getItem_heap (tupleKind_room_in1 hu) (zm I.hok eb) dd hp ?_;rw[hp2];exact h w' _ (I.tok _) PQ
def aiY{Q:Value->Shared->Prop}(hu:A.units+1<cLine)(I:Inv X pins σ H s)(g:HF H a y o)(ry:RelV y u)(h:∀s',Inv X pins σ H s'->Q (.bool o.isSome) s') :
  wpAny (model X.prog X.w) A (compareOp .In u (.ref a)) Q E s:=by
 rcases g with ⟨kvs,k,e,ey,l⟩|⟨kvs,k,b,e,ey,eb,l⟩
 ·subst ey;obtain⟨z,hd,vs,rel,dd⟩:=zJ I.hok e;refine wpAny_in_of (BP ry) hd dd.mapOf ?_;rw[<-(rel.val k).lH,<-l];exact h _ (I.tok _)
 ·subst ey;cases(show u=Value.ref b from ry);obtain⟨z,hd,xs,rel,dd⟩:=BX I.hok e;refine wpAny_in_heap (tupleKind_room_in1 hu) (zm I.hok eb) hd dd ?_;have q:=(rel.val k).lH;rw[Option.isSome_map] at q;rw[<-q,<-l];exact h _ (I.tok _)
def yt{h':Heap}{t':Nat}{ob:HO}(I:Inv X pins σ H s)(mu:Mut (H a))(hs:Heap.SameBut a s.heap h')(he:∃q,h'.get? a=some q)(new:gq X.prog X.w (upd H a ob) h' a ob) :
  Inv X pins σ (upd H a ob) { s with heap:=h',toks:=t' }:=
 I.write (x:=a) (e:=a) mu (.inl rfl) (λb q hb z=>(hs.2 b hb).trans z) he new
def abN{P:Program}{w:World}{H':Hp}{h':Heap}{kvs:List (Key×V)}{vs:List (Key×Value)}(z:kvs.length<=sizeLine)(hd:(a == sysModules)=false)(rel:KV kvs vs)(dd:h'.DictOf (dZ P w) a vs) :
  gq P w H' h' a (.dK kvs):=⟨z,hd,vs,rel,dd⟩
def N5{H':Hp}{Q:Unit->Shared->Prop}(hu:A.units+1<cLine)(I:Inv X pins σ H s)(g:T8 H a y v H')(ry:RelV y u)(rv:RelV v r)(h:∀s',Inv X pins σ H' s'->Q () s') :
  wpAny (model X.prog X.w) A (setItem (.ref a) u r) Q E s:=by
 rcases g with ⟨kvs,k,e,ey,l,eH⟩|⟨kvs,k,b,e,ey,eb,l,eH⟩
 ·subst ey eH;obtain⟨z,hd,vs,rel,dd⟩:=afh I.hok e;have hz:vs.length<=sizeLine:=by rw[<-rel.length];exact z
  have hl:(putK kvs k v).length<=sizeLine:=by have:=qw kvs k v;omega
  refine wpAny_setItem_pairs (hsz:=hz) (BP ry) dd λh' X5 hs=>h _ ?_;have he:∃q,h'.get? a=some q:=let ⟨q,_,_,hq,_⟩:=X5;⟨q,hq⟩
  exact yt I (by rw[e];exact True.intro) hs he (abN hl hd (rel.put k rv) X5)
 ·subst ey eH;cases(show u=Value.ref b from ry);obtain⟨z,hd,xs,rel,dd⟩:=afe I.hok e;have hz:xs.length<=sizeLine:=by rw[<-Paired.length rel];exact z
  have hl:(putK kvs k v).length<=sizeLine:=by have:=qw kvs k v;omega
  refine wpAny_setItem_heap (hsz:=hz) (tupleKind_room_in1 hu) (zm I.hok eb) dd λh' X5 hs=>h _ ?_;obtain⟨q,es,ep,hq,h2,h3,h4,_,h5⟩:=X5;refine yt I (by rw[e];exact True.intro) hs ⟨q,hq⟩ ⟨hl,hd,_,(rel.put k eb rv).keeps λc ys ec=>?_,q,es,ep,hq,h2,h3,h4,h5⟩;rw[bH (aec ec e (λz=>nomatch z))];exact ec
end
def T6(i:Expr):Prop:=∀ov iv,subscripted i false ov iv=operate [ov,iv] (getItem ov iv)
def Uu{prog:Program}{w:World}{A:Around}{E:Value->Shared->Prop}{s:Shared}{env:Env}{value slice:Expr}{pos:Pos}{T id:String}{Q:Value->Shared->Prop}
  (hl:typeLookup (.type T) "__getitem__" = pure (some (.builtin id))) (hs:T6 slice)
  (h:wpAny (model prog w) A (eval value env) (λo s₁=>wpAny (model prog w) A (eval slice env) (λi s₂=>s₂.TypeIs o T/\wpAny (model prog w) A (getItem o i) Q E s₂) E s₁) E s) :
  wpAny (model prog w) A (eval (.Subscript value slice pos) env) Q E s:=by
 refine Subscript_ (wpAny_mono h (λo s₁ h₁=>wpAny_mono h₁ (λi s₂ h₂=>?_) λ_ _ x=>x) λ_ _ x=>x);obtain⟨hT,h₂⟩:=h₂;unfold subscriptTail;refine wpAny_bind ?_;rw[getitemInPython_of_ne hT.not_modules];refine wpAny_bind (wpAny_specialOf hT hl ?_);have fin:wpAny (model prog w) A (subscripted slice false o i) (λr s₃=>wpAny (model prog w) A (letTemporaryGo value o r >>= λ_=>pure r) Q E s₃) E s₂:=by rw[hs o i];exact wpAny_operating (wpAny_mono h₂ (λr s₃ h₃=>wpAny_bind (wpAny_letTemporaryGo (wpAny_pure h₃))) λ_ _ x=>x)
 first
  | exact wpAny_pure (wpAny_bind fin)
  | exact wpAny_bind (wpAny_pure (wpAny_bind fin))
  | exact wpAny_bind fin
def Hm{X:Cx}{pins:List (Addr×Obj)}{σ:St}{H:Hp}{s:Shared}{a:Addr}{y:V}{o:Option V}(I:Inv X pins σ H s)(g:HF H a y o):s.TypeIs (.ref a) "dict":=by
 rcases g with ⟨kvs,k,e,_,_⟩|⟨kvs,k,b,e,_,_,_⟩
 ·obtain⟨_,_,vs,_,dd⟩:=zJ I.hok e;exact dd.typeIs
 ·obtain⟨_,_,xs,_,dd⟩:=BX I.hok e;exact dd.typeIs
def ac7(td ty:TE):TE:=λσ H Q=>td σ H λx H1=>ty σ H1 λy H2=>∃a v,x = .ref a/\HF H2 a y (some v)/\Q v H2
def adn(td ty tv:TE):TS:=λD σ H=>tv σ H λv H1=>td σ H1 λx H2=>ty σ H2 λy H3=>∃a H4,x = .ref a/\T8 H3 a y v H4/\D.nx σ H4
section
variable{X:Cx}{o i e value:Expr}{pos pos' tpos:Pos}{td ty tv:TE}
def VF(hu:X.A.units+1<cLine)(ho:PE X o td)(hi:PE X i ty)(hs:T6 i):PE X (.Subscript o i pos) (ac7 td ty):=by intro pins s σ H Q I h;refine Uu PySem.F.slot_dict_getitem.lookup hs (gr (ho pins s σ H _ I h) λu s1 ⟨x,H1,I1,rx,q1⟩=>gr (hi pins s1 σ H1 _ I1 q1) λiv s2 ⟨y,H2,I2,ry,a,v,ex,g,q2⟩=>?_);subst ex;obtain rfl:u=Value.ref a:=rx;exact⟨Hm I2 g,N6 hu I2 g ry λw' s3 I3 PQ=>⟨v,H2,I3,PQ,q2⟩⟩
def Vu(hu:X.A.units+1<cLine)(ho:PE X o td)(hi:PE X i ty)(hv:PE X value tv)(hs:swapsWith value (some (.Subscript o i pos')) pos.line X.env=pure false) :
  PS X (.Assign [.Subscript o i pos'] value pos) (adn td ty tv):=by
 intro pins s σ H D I h;refine wpAny_Assign_Subscript (gr (hv pins s σ H _ I h) λr s1 ⟨v,H1,I1,rv,q1⟩=>gr (ho pins s1 σ H1 _ I1 q1) λu s2 ⟨x,H2,I2,rx,q2⟩=>gr (hi pins s2 σ H2 _ I2 q2) λiv s3 ⟨y,H3,I3,ry,a,H4,ex,g,q3⟩=>?_) hs;subst ex;obtain rfl:u=Value.ref a:=rx;exact N5 hu I3 g ry rv λs4 I4=>⟨σ,H4,I4,q3⟩
end
def Th{P:Program}{w:World}{H:Hp}(h:Heap)(hb:sysModules<h.objs.size):gq P w H (h.push { cls:=.type "dict",data:=.dict #[] }) h.objs.size (.dK []):=
 ⟨Nat.zero_le _,beq_eq_false_iff_ne.mpr (Ne.symm (Nat.ne_of_lt hb)),[],.nil,Heap.DictOf.new h⟩
def YW:TE:=λ_ H Q=>∀p,H p=none->Q (.ref p) (upd H p (.dK []))
section
variable{X:Cx}{pos:Pos}
def Rc:PE X (.Dict [] [] pos) YW:=λpins s σ H Q I h=>
 wpAny_Dict_empty ⟨.ref s.heap.objs.size,_,I.laid (a:=s.heap.objs.size) (o:=.dK []) (t':=s.toks) (λ_ _ q=>Heap.get?_push_of_some _ q) (Nat.le_refl _) (Th s.heap I.big),rfl,h _ (I.hok.fresh (Nat.le_refl _))⟩
end
structure M2(X:Cx)(o:Expr)(m:Str)(apos:Pos)(e f:Expr)(cpos:Pos):Prop where
 base:attributeBase o m X.env (eval o X.env)=eval o X.env
 few:((backTo cpos (starEach [e,f] X.env)).all (λx=>!x.1)&&(backToKw cpos (keywordEach [] X.env)).all (λx=>x.1.isSome)
  && decide (([e,f]:List Expr).length+([]:List Keyword).length+(if ([]:List Keyword).isEmpty then 0 else 1)<30))=true
 line:(apos.endLine == cpos.line)=true
 trees:backTo cpos (starEach [e,f] X.env)=[(false,eval e X.env),(false,eval f X.env)]
def IsD(H:Hp)(a:Addr):Prop:=(∃kvs,Rd H a (.dK kvs))\/∃kvs,Rd H a (.dT kvs)
def abl{X:Cx}{pins:List (Addr×Obj)}{σ:St}{H:Hp}{s:Shared}{a:Addr}(I:Inv X pins σ H s)(d:IsD H a) :
  s.TypeIs (.ref a) "dict"/\(∀b,Value.ref a = .ref b->∃ob,s.heap.get? b=some ob/\ob.dict=none)/\(a == sysModules)=false:=by
 rcases d with ⟨kvs,e⟩|⟨kvs,e⟩
 ·obtain⟨_,hd,vs,_,dd⟩:=zJ I.hok e;refine⟨dd.typeIs,λb q=>?_,hd⟩;cases q;obtain⟨ob,_,_,h1,h2,_⟩:=dd;exact⟨ob,h1,h2.2.1⟩
 ·obtain⟨_,hd,xs,_,dd⟩:=BX I.hok e;refine⟨dd.typeIs,λb q=>?_,hd⟩;cases q;obtain⟨ob,_,_,h1,h2,_⟩:=dd;exact⟨ob,h1,h2.2.1⟩
section
variable{X:Cx}{pins:List (Addr×Obj)}{σ:St}{H:Hp}{s:Shared}{a:Addr}{y d:V}{u r:Value}{o:Option V}{A:Around}{E:Value->Shared->Prop}
def abU{Q:Value->Shared->Prop}(hu:A.units+1<cLine)(I:Inv X pins σ H s)(g:HF H a y o)(ry:RelV y u)(rd:RelV d r)(h:∀w' s',Inv X pins σ H s'->RelV (o.getD d) w'->Q w' s') :
  wpAny (model X.prog X.w) A (call (.builtin "dict.get") [.ref a,u,r]) Q E s:=by
 rcases g with ⟨kvs,k,e,ey,l⟩|⟨kvs,k,b,e,ey,eb,l⟩
 ·subst ey;obtain⟨z,hd,vs,rel,dd⟩:=zJ I.hok e;refine call_meetsIn PySem.F.slot_dict_get dd.typeIs PySem.F.entry_dict_get (PySem.F.args_dict_get_3 _ _ _) (meets_dict_get_default (dZ X.prog X.w) a (BP ry) hd r) ⟨_,dd.mapOf,h _ _ (I.tok _) ?_⟩;rw[l];exact(rel.val k).getD rd
 ·subst ey;cases(show u=Value.ref b from ry);obtain⟨z,hd,xs,rel,dd⟩:=BX I.hok e;refine call_meetsIn PySem.F.slot_dict_get dd.typeIs PySem.F.entry_dict_get (PySem.F.args_dict_get_3 _ _ _) (meetsH_dict_get_default (tupleKind (dZ X.prog X.w)) a b hd r) ⟨tupleKind_room_in1 hu,k,xs,zm I.hok eb,dd,h _ _ (I.tok _) ?_⟩;rw[l];exact(rel.val k).getD rd
end
def YX(td ty tx:TE):TE:=λσ H Q=>td σ H λx H1=>∃a,x = .ref a/\IsD H1 a/\ty σ H1 λy H2=>tx σ H2 λz H3=>∃o,HF H3 a y o/\Q (o.getD z) H3
section
variable{X:Cx}{o e f:Expr}{apos cpos:Pos}{td ty tx:TE}
def Rg(hu:X.A.units+1<cLine)(ho:PE X o td)(he:PE X e ty)(hf:PE X f tx)(m:M2 X o "get" apos e f cpos):PE X (.Call (.Attribute o "get" apos) [e,f] [] cpos) (YX td ty tx):=by
 intro pins s σ H Q I h;refine wpAny_Call_method m.base m.few m.line PySem.F.plainAttrs_dict PySem.F.slot_dict_get PySem.F.type_dict_get (gr (ho pins s σ H _ I h) λu s1 ⟨x,H1,I1,rx,a,ex,d,q1⟩=>?_);subst ex;obtain rfl:u=Value.ref a:=rx;obtain⟨t1,t2,_⟩:=abl I1 d;refine⟨t1,t2,?_⟩;rw[m.trees];refine Calls.callWith_builtin rfl (Calls.evalArgs_plain (Calls.spliced_cons (gr (he pins s1 σ H1 _ I1 q1) λiv s2 ⟨y,H2,I2,ry,q2⟩=>
  Calls.spliced_cons (gr (hf pins s2 σ H2 _ I2 q2) λfv s3 ⟨z,H3,I3,rz,ov,g,q3⟩=>Calls.spliced_nil ?_))))
 exact abU hu I3 g ry rz λw' s4 I4 PQ=>⟨_,H3,I4,PQ,q3⟩
end
def gD(env:Env):List (Str×NameKind)->List (Str×Addr)->List (Str×Addr)
 | [],acc=>acc
 | (n,k)::r,acc=>if k == .free then gD env r ((n,(env.cells.lookup n).getD 0)::acc) else gD env r acc
theorem zL{env:Env}(f:Str×NameKind->List (Str×Addr)->Sem (ForInStep (List (Str×Addr))))
  (hf:∀n k cs,f (n,k) cs=if k == .free then (do let a <-cellOf env n;pure (.yield ((n,a)::cs))) else pure (.yield cs)) :
  ∀(names:List (Str×NameKind)) (acc:List (Str×Addr)),(∀n,(n,NameKind.free)∈names->∃c,env.cells.lookup n=some c)->forIn names acc f=pure (gD env names acc)
 | [],acc,_=>by rw[List.forIn_nil];rfl
 | (n,k)::r,acc,h=>by
  have ih:=zL f hf r;have hr:∀n,(n,NameKind.free)∈r->∃c,env.cells.lookup n=some c:=λm hm=>h m (List.mem_cons_of_mem _ hm);rw[List.forIn_cons,hf];cases hk:k == NameKind.free with
  | true=>
   have hk':k = .free:=by simpa using hk
   obtain⟨c,hc⟩:=h n (by rw[hk'];exact List.mem_cons_self);rw[if_pos rfl];unfold cellOf;rw[hc];simp only[pure_bind];rw[ih _ hr]
   conv=>rhs;unfold gD
   rw[if_pos hk,hc]
   rfl
  | false=>
   rw[if_neg (by simp)];simp only[pure_bind];rw[ih _ hr]
   conv=>rhs;unfold gD
   rw[if_neg (by simp[hk])]
def tK{scope:Scope}{env:Env}(h:∀n,(n,NameKind.free)∈scope.names->∃c,env.cells.lookup n=some c):closureFor scope env=pure (gD env scope.names []):=by
 simp only[closureFor];rw[zL (env:=env) _ (λn k cs=>by cases hk:k == NameKind.free<;>simp[hk]) _ _ h]
 rfl
theorem uP{env:Env}:∀(names:List (Str×NameKind)) (acc:List (Str×Addr)) (x:Str) (c:Addr),(∀n,(n,NameKind.free)∈names->∃c,env.cells.lookup n=some c)->
  (∀y d,acc.lookup y=some d->env.cells.lookup y=some d)->(gD env names acc).lookup x=some c->env.cells.lookup x=some c
 | [],acc,x,c,_,ha,h=>ha x c h
 | (n,k)::r,acc,x,c,hn,ha,h=>by
  have hr:∀n,(n,NameKind.free)∈r->∃c,env.cells.lookup n=some c:=λm hm=>hn m (List.mem_cons_of_mem _ hm);unfold gD at h;split at h
  ·rename_i hk;have hk':k = .free:=by simpa using hk
   obtain⟨d,hd⟩:=hn n (by rw[hk'];exact List.mem_cons_self);refine uP r _ x c hr (λy e he=>?_) h;rw[List.lookup_cons] at he;cases hy:y == n with
   | true=>
    rw[hy] at he;have e1:y=n:=by simpa using hy
    rw[e1,hd];rw[hd] at he;exact he
   | false=>
    rw[hy] at he;exact ha y e he
  ·exact uP r acc x c hr ha h
theorem wK{env:Env}:∀(names:List (Str×NameKind)) (acc:List (Str×Addr)) (x:Str),(acc.lookup x).isSome=true->((gD env names acc).lookup x).isSome=true
 | [],acc,x,h=>h
 | (n,k)::r,acc,x,h=>by
  unfold gD;split
  ·refine wK r _ x ?_;rw[List.lookup_cons];split
   ·rfl
   ·exact h
  ·exact wK r acc x h
theorem uO{env:Env}:∀(names:List (Str×NameKind)) (acc:List (Str×Addr)) (x:Str),(x,NameKind.free)∈names->((gD env names acc).lookup x).isSome=true
 | [],acc,x,h=>nomatch h
 | (n,k)::r,acc,x,h=>by
  unfold gD;rcases List.mem_cons.mp h with e|h
  ·obtain⟨e1,e2⟩:=Prod.mk.inj e;subst e1 e2;rw[if_pos (by rfl)];refine wK r _ x ?_;rw[List.lookup_cons];simp
  ·split
   ·exact uO r _ x h
   ·exact uO r acc x h
theorem gm:∀(names:List (Str×NameKind)) (n:Nat) (acc:List (Str×Addr)),cellsFrom n names acc=cellsFrom n names []++acc
 | [],n,acc=>rfl
 | (x,k)::r,n,acc=>by
  unfold cellsFrom;split
  ·rw[gm r (n+1) ((x,n)::acc),gm r (n+1) [(x,n)],List.append_assoc]
   rfl
  ·exact gm r n acc
theorem m7:∀(names:List (Str×NameKind)) (n:Nat) (x:Str) (c:Addr),(x,c)∈cellsFrom n names []->(x,NameKind.cell)∈names
 | [],n,x,c,h=>nomatch h
 | (y,k)::r,n,x,c,h=>by
  unfold cellsFrom at h;split at h
  ·rename_i hk;have hk':k = .cell:=by simpa using hk
   rw[gm] at h;rcases List.mem_append.mp h with h|h
   ·exact List.mem_cons_of_mem _ (m7 r _ x c h)
   ·have e:=List.mem_singleton.mp h;cases e;rw[hk'];exact List.mem_cons_self
  ·exact List.mem_cons_of_mem _ (m7 r _ x c h)
theorem oW{α:Type}:∀(l m:List (Str×α)) (x:Str),(l++m).lookup x=match l.lookup x with|some v=>some v|none=>m.lookup x
 | [],m,x=>rfl
 | (k,v)::r,m,x=>by
  rw[List.cons_append,List.lookup_cons,List.lookup_cons];cases h:x == k with
  | true=>rfl
  | false=>exact oW r m x
theorem qu{α:Type}:∀(l:List (Str×α)) (x:Str),(∀v,(x,v) ∉ l)->l.lookup x=none
 | [],x,_=>rfl
 | (k,v)::r,x,h=>by
  rw[List.lookup_cons];cases e:x == k with
  | true=>
   have e':x=k:=by simpa using e
   exact absurd (by rw[e'];exact List.mem_cons_self) (h v)
  | false=>exact qu r x λw hw=>h w (List.mem_cons_of_mem _ hw)
theorem lookup_mem{α:Type}:∀(l:List (Str×α)) (x:Str) (v:α),l.lookup x=some v->(x,v)∈l
 | [],x,v,h=>nomatch h
 | (k,w)::r,x,v,h=>by
  rw[List.lookup_cons] at h;cases e:x == k with
  | true=>
   rw[e] at h;cases h;have e':x=k:=by simpa using e
   rw[e'];exact List.mem_cons_self
  | false=>
   rw[e] at h;exact List.mem_cons_of_mem _ (lookup_mem r x v h)
theorem jb{α:Type}:∀(l:List (Str×α)) (x:Str) (v:α),(l.map (·.1)).Nodup->(x,v)∈l->l.lookup x=some v
 | [],x,v,_,h=>nomatch h
 | (k,w)::r,x,v,nd,h=>by
  rw[List.lookup_cons];have nd':=List.nodup_cons.mp nd;rcases List.mem_cons.mp h with e|h
  ·cases e;simp
  ·have hne:¬x=k:=λe=>nd'.1 (by rw[<-e];exact List.mem_map.mpr ⟨(x,v),h,rfl⟩);have hb:(x == k)=false:=by simpa using hne
   rw[hb];exact jb r x v nd'.2 h
def Gz{M:Model}{A:Around}{E:Value->Shared->Prop}{s:Shared}{scope:Scope}{globals:Addr}{cl:List (Str×Addr)}{qual:Str}{outer:Env}{Q:Env->Shared->Prop}
  (hQ:∀h',h'.Ns s.heap.objs.size (λ_=>none)->(∀b o,s.heap.get? b=some o->h'.get? b=some o)->CellsOk h' (s.heap.objs.size+1) (cellsFrom (s.heap.objs.size+1) scope.names [])->
   Q { scope,locals:=s.heap.objs.size,globals,cells:=cellsFrom (s.heap.objs.size+1) scope.names cl,qual,func:=none,code:=outer.code,frame:=outer.frame,builtins:=outer.builtins } { s with heap:=h' }) :
  wpAny M A (newFunctionEnv scope globals cl [] qual none .none (some outer)) Q E s:=by
 simp only[newFunctionEnv,Option.isSome_some,if_true];refine wpAny_bind (wpAny_alloc ?_);refine wpAny_bind (wpAny_layCells _ (λname kind cells=>by cases hkc:kind == NameKind.cell<;>simp[hkc]) _ _ _ _ ?_);have ok:=cellsFrom_ok scope.names (s.heap.push { cls:=.type "dict",data:=.dict #[] }) (s.heap.objs.size+1) [] ⟨λ_ _ hm=>(nomatch hm),List.Pairwise.nil⟩ (by rw[Heap.size_push];exact Nat.le_refl _);rw[Heap.size_push] at ok;rw[show({ s with heap:=s.heap.push { cls:=.type "dict",data:=.dict #[] } }:Shared).heap.objs.size=s.heap.objs.size+1 from Heap.size_push ..];refine wpAny_bind ?_;rw[List.forIn_nil];refine wpAny_pure (wpAny_pure (hQ _ ?_ ?_ ?_))
 ·exact(Heap.Ns.new s.heap (.type "dict")).keeps (pushCells_keeps _ _)
 ·exact λb o e=>pushCells_keeps _ _ b o (Heap.get?_push_of_some _ e)
 ·exact ok
def cxC(X:Cx)(scope:Scope)(N':List Str)(cells:List (Str×Addr))(C:Addr)(s0:Shared)(H0:Hp)(fp:List Addr):Cx:=
 { X with N:=N',s₀:=s0,H₀:=H0,env:=compEnvC scope cells C X.env,outer:=X.stack,stack:=X.stack,ex:=fp,fn:=λx=>decide (scope.names.lookup x=some .cell),pn:=[],xe:=λ_ _=>False }
theorem qt{env:Env}:∀(names:List (Str×NameKind)) (x:Str),
  (names.map λ(n,k)=>if (k == NameKind.free&&env.scope.kind == .function&&env.kindOf n == some .cell) then (n,NameKind.cell) else (n,k)).lookup x =
   (names.lookup x).map λk=>if (k == NameKind.free&&env.scope.kind == .function&&env.kindOf x == some .cell) then NameKind.cell else k
 | [],x=>rfl
 | (n,k)::r,x=>by
  show List.lookup x ((if (k == NameKind.free&&env.scope.kind == .function&&env.kindOf n == some .cell)=true then (n,NameKind.cell) else (n,k))::_)=_;cases hx:x == n with
  | true=>
   have e:x=n:=by simpa using hx
   subst e;simp only[List.lookup_cons,hx,Option.map_some];split<;>simp[List.lookup_cons]
  | false=>
   simp only[List.lookup_cons,hx];rw[<-qt r x];split<;>simp only[List.lookup_cons,hx]
def Tr(names:List (Str×NameKind)):List Str->List Str->Bool
 | _,[]=>true
 | [],_::_=>false
 | x'::N',x::N=>((names.lookup x').isNone||(x' == x&&names.lookup x' == some .free))&&Tr names N' N
theorem Hr{names:List (Str×NameKind)}:∀{N' N:List Str},Tr names N' N=true->∀(i:Nat) (x:Str),i<N.length->N'[i]? = some x->(names.lookup x).isSome=true->N[i]? = some x/\names.lookup x=some .free
 | _,[],_,i,x,h,_,_=>absurd h (Nat.not_lt_zero _)
 | [],_::_,h,_,_,_,_,_=>by cases h
 | x'::N',y::N,h,i,x,hi,e,hs=>by
  unfold Tr at h;have h1:=(Bool.and_eq_true_iff.mp h).1;have h2:=(Bool.and_eq_true_iff.mp h).2;cases i with
  | zero=>
   have e':x'=x:=by simpa using e
   subst e';rcases Bool.or_eq_true_iff.mp h1 with q|q
   ·cases z:names.lookup x' with
    | none=>rw[z] at hs;cases hs
    | some k=>rw[z] at q;cases q
   ·have q1:=(Bool.and_eq_true_iff.mp q).1;have q2:=(Bool.and_eq_true_iff.mp q).2;have e1:x'=y:=by simpa using q1
    have e2:names.lookup x'=some .free:=by simpa using q2
    exact⟨by rw[e1];rfl,e2⟩
  | succ i=>exact Hr h2 i x (by simpa using hi) (by simpa using e) hs
structure mz(X:Cx)(scope:Scope)(N':List Str):Prop where
 kind:scope.kind = .function
 nd:(scope.names.map (·.1)).Nodup
 free:∀x∈scope.names,x.2 = .free->X.env.kindOf x.1=some .cell\/X.env.kindOf x.1=some .free
 chk:Tr scope.names N' X.N=true
 len:X.N.length<=N'.length
def PIf(X:Cx)(ifs:List Expr)(t:TT):Prop:=
 ∀(pins:List (Addr×Obj)) (s:Shared) (σ:St) (H:Hp) (Q:Bool->Hp->Prop),Inv X pins σ H s->t σ H Q->
  wpAny (model X.prog X.w) X.A (forIn ifs true λc r=>if r=true then do let ok <-isTrue c X.env (eval c X.env);pure (ForInStep.yield ok) else pure (ForInStep.yield r)) (TP X pins σ Q) X.xe s
def Vy{X:Cx}:PIf X [] (λ_ H Q=>Q true H):=λpins s σ H Q I h=>by
 rw[List.forIn_nil];exact wpAny_pure ⟨H,I,h⟩
def Vx{X:Cx}{c:Expr}{t:TT}(h:PT X c t):PIf X [c] t:=λpins s σ H Q I hw=>by
 rw[List.forIn_cons,if_pos rfl];refine wpAny_bind (wpAny_bind (gr (h pins s σ H Q I hw) λb s' q=>?_));refine wpAny_pure ?_;show wpAny _ _ (forIn [] b _) _ _ _;rw[List.forIn_nil];exact wpAny_pure q
def uy(n:Nat)(σ:St):St:=σ++List.replicate n none
def tLC(n:Nat)(wi:TI)(g:TG)(tc:TT)(te:TE):TE:=λσ H Q=>wi σ H λJ H1=>∀d,H1 d=none->∃W:Nat->Nat->St->Hp->Prop,(∃m,W 0 m (uy (n - σ.length) σ) (upd H1 d (.lst [])))/\∀i m σ' H',W i m σ' H'->
 (J.stop i H'/\Q (.ref d) H')\/(J.go i H'/\∃N:St->Hp->Prop,(∀σ2 H2,N σ2 H2->∃m',m'<m/\W (i+1) m' σ2 H2)/\∀x H2,J.yld i H' x H2->g x σ' H2 λσ3 H3=>tc σ3 H3 λb H4=>
  if b=true then te σ3 H4 λy H5=>∃ys,H5 d=some (.lst ys)/\ys.length<sizeLine/\N σ3 (upd H5 d (.lst (ys++[y]))) else N σ3 H4)
section
variable{prog:Program}{w:World}{A:Around}{R:Result->Shared->Prop}{s:Shared}
def DX{elt target iter:Expr}{ifs:List Expr}{scope:Scope}{pos:Pos}{it acc:Value}{env:Env}(I:Nat->Shared->Prop)
  (turn:∀n s,I n s->wpAny (model prog w) A (pyNext it) (λr s₁=>match r with
   | none=>R (.ok .next) s₁
   | some v=>wpAny (model prog w) A (letOwnedTupleGo target it v) (λ_ s₁'=>wpAny (model prog w) A (assign target env v) (λ_ s₂=>
     wpAny (model prog w) A (forIn ifs true λc r=>if r=true then do let ok <-isTrue c env (eval c env);pure (ForInStep.yield ok) else pure (ForInStep.yield r)) (λok s₃=>
      if ok=true then wpAny (model prog w) A (eval elt env) (λx s₄=>
       wpAny (model prog w) A (call (.builtin "list.append") [acc,x]) (λ_ s₅=>∃m,m<n/\I m s₅) (λ_ _=>False) s₄) (λ_ _=>False) s₃
      else ∃m,m<n/\I m s₃) (λ_ _=>False) s₂) (λ_ _=>False) s₁') (λ_ _=>False) s₁) (λ_ _=>False) s)
  (n:Nat) (h:I n s) :
  codeAny (model prog w) A (.compLoop (.ListComp elt [⟨target,iter,ifs,0⟩] scope pos) 0 it acc env) R s:=by
 refine codeAny_loop rfl I (λn s hI=>?_) n h;show wpAny _ A ((compTurn (.ListComp elt [⟨target,iter,ifs,0⟩] scope pos) 0 it acc env).onRaise (λx=>do noteFrame x env;theTreesLotGoes x)) _ _ s;refine wpAny_noted ?_;rw[compTurn_list];refine wpAny_bind (wpAny_standAt (wpAny_bind (wpAny_mono (turn n s hI) (λr s₁ h₁=>?_) λ_ _ h'=>h'.elim)));cases r with
 | none=>exact wpAny_pure h₁
 | some v=>
  refine wpAny_bind (wpAny_mono h₁ (λ_ s₁' h₁'=>?_) λ_ _ h'=>h'.elim);refine wpAny_bind (wpAny_mono h₁' (λ_ s₂ h₂=>wpAny_bind (wpAny_mono h₂ (λok s₃ h₃=>?_) λ_ _ h'=>h'.elim)) λ_ _ h'=>h'.elim);cases ok with
  | false=>exact wpAny_pure ⟨rfl,h₃⟩
  | true=>
   exact wpAny_bind (wpAny_bind (wpAny_mono h₃ (λx s₄ h₄=>wpAny_bind (wpAny_mono h₄ (λ_ s₅ h₅=>wpAny_pure (wpAny_pure ⟨rfl,h₅⟩)) λ_ _ h'=>h'.elim)) λ_ _ h'=>h'.elim))
end
def Su{X:Cx}{scope:Scope}{N':List Str}{pins:List (Addr×Obj)}{σ:St}{H:Hp}{s:Shared}{h':Heap}{fp:List Addr}(ok:mz X scope N')(I:Inv X pins σ H s)(hf:∀b∈fp,vh X pins H b)(hlt:∀b∈fp,b<s.heap.objs.size)
  (hn:h'.Ns s.heap.objs.size (λ_=>none)) (hk:∀b o,s.heap.get? b=some o->h'.get? b=some o) (co:CellsOk h' (s.heap.objs.size+1) (cellsFrom (s.heap.objs.size+1) scope.names [])) :
  Inv (cxC X scope N' (cellsFrom (s.heap.objs.size+1) scope.names (gD X.env scope.names [])) s.heap.objs.size s H fp) [] (uy (N'.length - σ.length) σ) H { s with heap:=h' }:=by
 have hfree:∀n,(n,NameKind.free)∈scope.names->∃c,X.env.cells.lookup n=some c:=λn hm=>I.ok.has n (ok.free _ hm rfl)
 -- the cells by name
 have o8:∀x c,(cellsFrom (s.heap.objs.size+1) scope.names (gD X.env scope.names [])).lookup x=some c->
   ((x,c)∈cellsFrom (s.heap.objs.size+1) scope.names []/\(cellsFrom (s.heap.objs.size+1) scope.names []).lookup x=some c)\/((cellsFrom (s.heap.objs.size+1) scope.names []).lookup x=none/\X.env.cells.lookup x=some c):=λx c e=>by
  rw[gm,oW] at e;cases q:(cellsFrom (s.heap.objs.size+1) scope.names []).lookup x with
  | some d=>rw[q] at e;cases e;exact .inl ⟨lookup_mem _ _ _ q,rfl⟩
  | none=>rw[q] at e;exact .inr ⟨rfl,uP _ _ x c hfree (λy d h=>by simp at h) e⟩
 have yU:∀x c,(x,c)∈cellsFrom (s.heap.objs.size+1) scope.names []->s.heap.objs.size+1<=c:=λx c h=>(co.empty x c h).2;have Rj:∀x c,X.env.cells.lookup x=some c->c<s.heap.objs.size:=λx c h=>let ⟨v,q⟩:=I.cell x c h;q.lt
 have DG:∀x,(relabel scope X.env).names.lookup x=(scope.names.lookup x).map λk=>if (k == NameKind.free&&X.env.scope.kind == .function&&X.env.kindOf x == some .cell) then NameKind.cell else k:=λx=>qt _ _
 have G3:∀x,(x,NameKind.cell)∈scope.names->∃c,(cellsFrom (s.heap.objs.size+1) scope.names []).lookup x=some c:=λx hx=>by
  have q:=PySem.W.cellsFrom_some scope.names (s.heap.objs.size+1) [] (.inl (jb _ _ _ ok.nd hx));exact Option.isSome_iff_exists.mp q
 have fpC:∀b∈fp,∀x c,(cellsFrom (s.heap.objs.size+1) scope.names (gD X.env scope.names [])).lookup x=some c->c≠b:=λb hb x c e=>by
  rcases o8 x c e with ⟨h1,_⟩|⟨_,h2⟩
  ·have h3:=yU x c h1;have h4:=hlt b hb;rintro rfl;exact absurd (Nat.lt_of_lt_of_le h4 (Nat.le_of_succ_le h3)) (Nat.lt_irrefl _)
  ·exact(hf b hb).2.2.2.2.1 x c h2
 refine⟨⟨I.ok.mod,ok.kind,I.ok.glob,I.ok.blt,Nat.le_refl _,λx y c h1 h2=>?_,λx hx=>?_,λx c hx e=>?_,I.ok.hd,I.ok.frames,.inl rfl,λb hb=>⟨Nat.ne_of_lt (hlt b hb),λx c e=>fpC b hb x c e⟩,I.bs,Nat.le_trans I.ok.TQ I.sz,λb o e hb=>?_,λb hb=>?_,I.stack,I.Ku⟩,
  rfl,I.bare,Un.kept hk,⟨_,hn,λi x v e1 e2 e3=>?_⟩,λx c e=>?_,I.hok.fresh (Nat.le_refl _),λx c e=>?_,λp hp=>absurd (show p∈([]:List (Addr×Obj)) from hp) (by simp),I.hok.kept hk,?_⟩
 ·-- one name a cell
  rcases o8 x c h1 with ⟨p1,_⟩|⟨_,p2⟩
  ·rcases o8 y c h2 with ⟨q1,_⟩|⟨_,q2⟩
   ·exact name_of_addr co.apart p1 q1
   ·exact absurd (Nat.lt_of_lt_of_le (Rj y c q2) (Nat.le_of_succ_le (yU x c p1))) (Nat.lt_irrefl _)
  ·rcases o8 y c h2 with ⟨q1,_⟩|⟨_,q2⟩
   ·exact absurd (Nat.lt_of_lt_of_le (Rj x c p2) (Nat.le_of_succ_le (yU y c q1))) (Nat.lt_irrefl _)
   ·exact I.ok.inj x y c p2 q2
 ·-- each cell name has one
  show ∃c,(cellsFrom (s.heap.objs.size+1) scope.names (gD X.env scope.names [])).lookup x=some c;have hx:(relabel scope X.env).names.lookup x=some .cell\/(relabel scope X.env).names.lookup x=some .free:=hx;rw[DG] at hx;cases q:scope.names.lookup x with
  | none=>rw[q] at hx;rcases hx with hx|hx<;>cases hx
  | some k=>
   rw[q] at hx;rw[gm,oW];cases z:(cellsFrom (s.heap.objs.size+1) scope.names []).lookup x with
   | some d=>exact⟨d,rfl⟩
   | none=>
    have hkf:k = .free:=by
     cases k with
     | free=>rfl
     | cell=>obtain⟨c,hc⟩:=G3 x (lookup_mem _ _ _ q);rw[hc] at z;cases z
     | _=>rcases hx with hx|hx<;>simp at hx
    subst hkf;exact Option.isSome_iff_exists.mp (uO _ _ x (lookup_mem _ _ _ q))
 ·-- its own cells are new
  have hx':scope.names.lookup x=some .cell:=of_decide_eq_true hx;rcases o8 x c e with ⟨p1,_⟩|⟨p1,_⟩
  ·exact Nat.le_of_succ_le (yU x c p1)
  ·obtain⟨d,hd⟩:=G3 x (lookup_mem _ _ _ hx');rw[hd] at p1;cases p1
 ·rcases(hf b hb).2.2.2.1 with z|z
  ·exact I.ok.Rv b o e z
  ·have h1:=Heap.lt_size e;have h2:=I.ok.TQ;exact absurd (Nat.lt_of_lt_of_le h1 (Nat.le_trans h2 z)) (Nat.lt_irrefl _)
 ·intro hm;rcases List.mem_cons.mp (I.CQ b hm) with z|z
  ·exact(hf b hb).2.1 z
  ·exact(hf b hb).2.2.1 z
 ·-- the names
  have hiσ:i<σ.length:=by
   by_cases hi:i<σ.length
   ·exact hi
   ·unfold uy at e2;rw[List.getElem?_append_right (by omega),List.getElem?_replicate] at e2;split at e2<;>cases e2
  have e2':σ[i]? = some (some v):=by
   unfold uy at e2
   rwa [List.getElem?_append_left hiσ] at e2
  have vis:(scope.names.lookup x).isSome=true:=by
   have e3:(relabel scope X.env).names.lookup x=some .local\/(relabel scope X.env).names.lookup x=some .cell\/(relabel scope X.env).names.lookup x=some .free:=e3;rw[DG] at e3;cases q:scope.names.lookup x with
   | none=>rw[q] at e3;rcases e3 with z|z|z<;>cases z
   | some k=>rfl
  obtain⟨hN,hfr⟩:=Hr ok.chk i x (by rw[<-I.len];exact hiσ) e1 vis;have hm:=lookup_mem _ _ _ hfr;have hkk:=ok.free _ hm rfl;obtain⟨m,hns,hl⟩:=I.loc;obtain⟨u,ru,lk⟩:=hl i x v hN e2' (hkk.elim (λz=>.inr (.inl z)) λz=>.inr (.inr z));refine⟨u,ru,.inr ⟨?_,?_⟩⟩
  ·show(relabel scope X.env).names.lookup x=some .cell\/(relabel scope X.env).names.lookup x=some .free;rw[DG,hfr];by_cases hc:(NameKind.free == NameKind.free&&X.env.scope.kind == .function&&X.env.kindOf x == some .cell)=true
   ·left;rw[Option.map_some,if_pos hc]
   ·right;rw[Option.map_some,if_neg hc]
  ·rcases lk with ⟨hl1,_⟩|⟨_,c,hc,hcell⟩
   ·rcases hkk with z|z<;>(rw[z] at hl1;cases hl1)
   ·refine⟨c,?_,hcell.keeps hk⟩;show(cellsFrom (s.heap.objs.size+1) scope.names (gD X.env scope.names [])).lookup x=some c;rw[gm,oW];have hno:(cellsFrom (s.heap.objs.size+1) scope.names []).lookup x=none:=qu _ _ λd hd=>by
     have h1:=jb _ _ _ ok.nd (m7 _ _ _ _ hd);rw[hfr] at h1;cases h1
    rw[hno];obtain⟨d,hd⟩:=Option.isSome_iff_exists.mp (uO (env:=X.env) scope.names [] x hm);have h2:=uP _ _ x d hfree (λy d h=>by simp at h) hd;rw[hc] at h2;show(gD X.env scope.names []).lookup x=some c;rw[hd,h2]
 ·rcases o8 x c e with ⟨p1,_⟩|⟨_,p2⟩
  ·exact⟨_,(co.empty x c p1).1⟩
  ·obtain⟨v,q⟩:=I.cell x c p2;exact⟨v,q.keeps hk⟩
 ·rcases o8 x c e with ⟨p1,_⟩|⟨p0,p2⟩
  ·exact .inl (I.hok.fresh (Nat.le_of_succ_le (yU x c p1)))
  ·rcases I.qG x c p2 with z|⟨_,z⟩
   ·exact .inl z
   ·refine .inr ⟨?_,z⟩;show decide (scope.names.lookup x=some .cell)=false;refine decide_eq_false λq=>?_;obtain⟨d,hd⟩:=zM (n:=s.heap.objs.size+1) q;rw[p0] at hd;cases hd
 ·show(uy (N'.length - σ.length) σ).length=N'.length;unfold uy;rw[List.length_append,List.length_replicate];have h1:=ok.len;have h2:=I.len;omega
abbrev jD(X:Cx)(scope:Scope)(N':List Str)(X':Cx):Prop:=
 ∃(cells:List (Str×Addr)) (C:Addr) (s0:Shared) (H0:Hp) (fp:List Addr),X'=cxC X scope N' cells C s0 H0 fp
def Ca{X:Cx}{elt tg iter:Expr}{ifs:List Expr}{scope:Scope}{N':List Str}{pos:Pos}{g:TG}{tc:TT}{te:TE}{use:Option (Value->Sem Unit)}{QQ:Value->Shared->Prop}
  (ok:mz X scope N') (hc:X.calm=true)
  (bg:∀X',jD X scope N' X'->PG X' tg g) (bc:∀X',jD X scope N' X'->PIf X' ifs tc) (be:∀X',jD X scope N' X'->PE X' elt te)
  {pins:List (Addr×Obj)} {s2:Shared} {σ:St} {H2:Hp} {Q:VK} {it:Addr} {fp:List Addr} {tn:Nat->Heap->Prop} {J:It} (I2:Inv X pins σ H2 s2) (T:Turn X.prog X.w X.K tg J fp it tn) (st2:tn 0 s2.heap) (f2:∀b∈fp,vh X pins H2 b)
  (q:∀d,H2 d=none->∃W:Nat->Nat->St->Hp->Prop,(∃m,W 0 m (uy (N'.length - σ.length) σ) (upd H2 d (.lst [])))/\∀i m σ' H',W i m σ' H'->
   (J.stop i H'/\Q (.ref d) H')\/(J.go i H'/\∃N:St->Hp->Prop,(∀σ2 H2,N σ2 H2->∃m',m'<m/\W (i+1) m' σ2 H2)/\∀x H2,J.yld i H' x H2->g x σ' H2 λσ3 H3=>tc σ3 H3 λb H4=>
    if b=true then te σ3 H4 λy H5=>∃ys,H5 d=some (.lst ys)/\ys.length<sizeLine/\N σ3 (upd H5 d (.lst (ys++[y]))) else N σ3 H4))
  (fin:∀d C m s' H',Inv X pins σ H' s'->Q (.ref d) H'->s'.heap.Ns C m->H' C=none->C≠X.env.locals->X.s₀.heap.objs.size<=C->(∀x c,X.env.cells.lookup x=some c->c≠C)->(∀p∈X.pn++pins,p.1≠C)->
   compPost (model X.prog X.w) X.A X.xe use QQ (.ref d) C (.ok .next) s') :
  wpAny (model X.prog X.w) X.A (newList []) (λacc s₃=>wpAny (model X.prog X.w) X.A (newFunctionEnv scope X.env.globals (gD X.env scope.names []) [] X.env.qual none .none (some X.env)) (λcenv s₄=>
   codeAny (model X.prog X.w) X.A (.compStart (.ListComp elt [⟨tg,iter,ifs,0⟩] scope pos) 0 (.ref it) acc { cenv with scope:=relabel scope X.env }) (compPost (model X.prog X.w) X.A X.xe use QQ acc cenv.locals) s₄) X.xe s₃) X.xe s2:=by
 have hd2:H2 s2.heap.objs.size=none:=I2.fresh;refine wpAny_newObj_type (Gz λh' hns hkeep hco=>?_)
 -- the state behind the list
 obtain⟨W,⟨m0,w0⟩,turn⟩:=q s2.heap.objs.size hd2;have I3:Inv X pins σ (upd H2 s2.heap.objs.size (.lst [])) { s2 with heap:=s2.heap.push { cls:=.type "list",data:=.seq ([]:List Value).toArray } }:=I2.aei (t':=s2.toks) .nil (Nat.zero_le _);have Xy:∀b∈fp,b<s2.heap.objs.size:=λb hb=>by
  obtain⟨o,e,_⟩:=T.obj _ _ st2 b hb;exact Heap.lt_size e
 have f3:∀b∈fp,vh X pins (upd H2 s2.heap.objs.size (.lst [])) b:=λb hb=>by
  refine⟨?_,(f2 b hb).2⟩;rw[bH (Nat.ne_of_lt (Xy b hb))];exact(f2 b hb).1
 have lt3:∀b∈fp,b<({ s2 with heap:=s2.heap.push { cls:=.type "list",data:=.seq ([]:List Value).toArray } }:Shared).heap.objs.size:=λb hb=>by
  show b<(s2.heap.push _).objs.size;rw[Heap.size_push];exact Nat.lt_succ_of_lt (Xy b hb)
 have st3:tn 0 h':=T.keep _ _ _ st2 λb hb o e=>hkeep b o (Heap.get?_push_of_some _ e);have I4:=Su (fp:=fp) ok I3 f3 lt3 hns hkeep hco;generalize hs3:({ s2 with heap:=s2.heap.push { cls:=.type "list",data:=.seq ([]:List Value).toArray } }:Shared)=s3 at *;have sz3:s3.heap.objs.size=s2.heap.objs.size+1:=by rw[<-hs3];exact Heap.size_push ..
 generalize hX':cxC X scope N' (cellsFrom (s3.heap.objs.size+1) scope.names (gD X.env scope.names [])) s3.heap.objs.size s3 (upd H2 s2.heap.objs.size (.lst [])) fp=X' at I4;have at':jD X scope N' X':=⟨_,_,_,_,_,hX'.symm⟩;have hg:=bg X' at';have hif:=bc X' at';have he:=be X' at';have eP:X'.prog=X.prog:=by rw[<-hX'];rfl
 have eW:X'.w=X.w:=by rw[<-hX'];rfl
 have eK:X'.K=X.K:=by rw[<-hX'];rfl
 have eA:X'.A=X.A:=by rw[<-hX'];rfl
 have eC:X'.calm=true:=by rw[<-hX'];exact hc
 have eX:X'.xe=λ_ _=>False:=by rw[<-hX'];rfl
 have ePn:X'.pn=[]:=by rw[<-hX'];rfl
 have eEx:X'.ex=fp:=by rw[<-hX'];rfl
 have eL:X'.env.locals=s3.heap.objs.size:=by rw[<-hX'];rfl
 have eFs:X'.fs=frs X.stack:=by rw[<-hX'];rfl
 have aiX:compEnvC scope (cellsFrom (s3.heap.objs.size+1) scope.names (gD X.env scope.names [])) s3.heap.objs.size X.env=X'.env:=by rw[<-hX'];rfl
 have eS0:X'.s₀=s3:=by rw[<-hX'];rfl
 have eH0:X'.H₀=upd H2 s2.heap.objs.size (.lst []):=by rw[<-hX'];rfl
 -- what is true of the iterator's objects in the block
 have stat:∀{H':Hp},(∀b∈fp,H' b=none)->∀b∈fp,vh X' [] H' b:=λ{H'} hn b hb=>by
  refine⟨hn b hb,?_,?_,.inl (by rw[eEx];exact hb),λx c e=>?_,λp hp=>?_⟩
  ·rw[eL];exact Nat.ne_of_lt (lt3 b hb)
  ·have:=I4.ok.S7 b (by rw[eEx];exact hb);exact this
  ·exact(I4.ok.exf b (by rw[eEx];exact hb)).2 x c e
  ·rw[ePn] at hp;exact absurd hp (by simp)
 -- the outer context again
 have back:∀σ' H' s',Inv X' [] σ' H' s'->Inv X pins σ H' s':=λσ' H' s' J'=>by
  have hb:=J'.base;rw[eFs,eEx,eS0,eH0] at hb;have hos:=J'.os;rw[eS0] at hos;have hok:=J'.hok;rw[eP,eW] at hok;exact I3.call' (ch:=fp) hos hb hok J'.bare λb hbm=>⟨(f3 b hbm).2.2.2.1,(f3 b hbm).2.1,(f3 b hbm).2.2.2.2.1,(f3 b hbm).2.2.2.2.2⟩
 have loop:∀s4:Shared,s4 = { s3 with heap:=h' }->codeAny (model X.prog X.w) X.A (.compLoop (.ListComp elt [⟨tg,iter,ifs,0⟩] scope pos) 0 (.ref it) (.ref s2.heap.objs.size) X'.env) (compPost (model X.prog X.w) X.A X.xe use QQ (.ref s2.heap.objs.size) s3.heap.objs.size) s4:=by
  rintro s4 rfl;refine DX (λn s'=>∃i σ' H',Inv X' [] σ' H' s'/\tn i s'.heap/\(∀b∈fp,H' b=none)/\W i n σ' H') ?_ m0 ⟨0,_,_,I4,st3,λb hb=>(f3 b hb).1,w0⟩;rintro n s5 ⟨i,σ5,H5,I5,st5,fr5,w5⟩;rcases turn i n σ5 H5 w5 with ⟨stop,qn⟩|⟨go,N,hN,step⟩
  ·have td:=T.done X' eP eW eK eC i [] s5 σ5 H5 (λ_ _=>False) I5 (stat fr5) st5 stop;rw[eA] at td;refine gr td λr s6 ⟨hr,I6⟩=>?_;subst hr;obtain⟨mC,hnC,_⟩:=id I6.loc;rw[eL] at hnC;have lc:X.env.locals<s3.heap.objs.size:=by
    have:=I3.lt;exact this
   refine fin _ _ mC s6 H5 (back _ _ _ I6) qn hnC ?_ (Nat.ne_of_gt lc) I3.sz (λx c e=>?_) (λp hp=>?_)
   ·have:=I6.free;rw[eL] at this;exact this
   ·obtain⟨v,z⟩:=I3.cell x c e;exact Nat.ne_of_lt z.lt
   ·exact Nat.ne_of_lt (Heap.lt_size (I3.pin p hp).1)
  ·have ti:=T.item X' eP eW eK eC i [] s5 σ5 H5 (λ_ _=>False) I5 (stat fr5) st5 go;rw[eA] at ti;refine gr ti λr s6 ⟨u,hr,h6⟩=>?_;subst hr;refine gr h6 λ_ s7 ⟨x,H7,I7,r7,y7,st7,fr7⟩=>?_;have I7':=I7.pinned (stat fr7) (T.obj _ _ st7);have hg':=hg _ s7 σ5 H7 x u _ I7' r7 (step x H7 y7);rw[eP,eW,eA,eX] at hg';refine gr hg' λ_ s8 ⟨σ8,H8,I8,q8⟩=>?_;have aeO:=hif _ s8 σ8 H8 _ I8 q8;rw[eP,eW,eA,eX] at aeO;refine gr aeO λb s9 ⟨H9,I9,q9⟩=>?_;have again:∀{σz:St} {Hz:Hp} {sz:Shared},Inv X' ([]++yQ fp s7.heap) σz Hz sz->N σz Hz->∃m,m<n/\∃i σ' H',Inv X' [] σ' H' sz/\tn i sz.heap/\(∀b∈fp,H' b=none)/\W i m σ' H':=λ{σz Hz sz} Iz nz=>by
    obtain⟨m',hm,wz⟩:=hN σz Hz nz;refine⟨m',hm,i+1,σz,Hz,Iz.t6,T.keep _ _ _ st7 λb hb o e=>(Iz.pin (b,o) (List.mem_append_right _ (List.mem_append_right _ (oV hb e)))).1,λb hb=>?_,wz⟩;obtain⟨o,e,d⟩:=T.obj _ _ st7 b hb;exact(Iz.pin (b,o) (List.mem_append_right _ (List.mem_append_right _ (oV hb e)))).2.1
   cases b with
   | false=>
    rw[if_neg Bool.false_ne_true] at q9 ⊢;exact again I9 q9
   | true=>
    rw[if_pos rfl] at q9 ⊢;have he':=he _ s9 σ8 H9 _ I9 q9;rw[eP,eW,eA,eX] at he';refine gr he' λy sa ⟨yv,Ha,Ia,ra,ys,hys,hlen,qa⟩=>?_;have ap:=By (X:=X') _ sa σ8 Ha (.ref s2.heap.objs.size) [yv] (.ref s2.heap.objs.size) [y] (λv H'=>v = .non/\N σ8 H') Ia rfl (.cons ra .nil) ⟨_,ys,yv,rfl,rfl,hys,hlen,rfl,qa⟩;rw[eP,eW,eA,eX] at ap;refine gr ap λ_ sb ⟨vb,Hb,Ib,rb,_,nb⟩=>?_;exact again Ib nb
 show codeAny _ _ (.compStart _ 0 (.ref it) (.ref s2.heap.objs.size) (compEnvC scope (cellsFrom (s3.heap.objs.size+1) scope.names (gD X.env scope.names [])) s3.heap.objs.size X.env)) (compPost (model X.prog X.w) X.A X.xe use QQ (.ref s2.heap.objs.size) s3.heap.objs.size) _;rw[aiX];exact codeAny_compStart_list (loop _ rfl) (T.self X.A 0 _ _ _ st3 (loop _ rfl))
def adY{X:Cx}{elt tg iter:Expr}{ifs:List Expr}{scope:Scope}{N':List Str}{pos:Pos}{wi:TI}{g:TG}{tc:TT}{te:TE}
  (ok:mz X scope N') (hc:X.calm=true) (hi:PI X tg iter wi)
  (bg:∀X',jD X scope N' X'->PG X' tg g) (bc:∀X',jD X scope N' X'->PIf X' ifs tc) (be:∀X',jD X scope N' X'->PE X' elt te)
  (hs:∀x,foldedSetIterable iter X.env x=pure x:=by intro _;rfl) :
  PE X (.ListComp elt [⟨tg,iter,ifs,0⟩] scope pos) (tLC N'.length wi g tc te):=by
 intro pins s σ H Q I h;rw[eval_ListComp];have hfree:∀n,(n,NameKind.free)∈scope.names->∃c,X.env.cells.lookup n=some c:=λn hm=>I.ok.has n (ok.free _ hm rfl);refine wpAny_comprehension_free (use:=none) rfl hs (tK hfree) ok.kind (λx hx hl=>jb _ _ _ ok.nd (by rw[<-hl];exact hx)) ?_;refine gr (hi pins s σ H _ I h) λv s1 h1=>gr h1 λitv s2 h2=>?_;obtain⟨it,fp,tn,J,H2,e,I2,T,st2,f2,q⟩:=h2;subst e;refine Ca ok hc bg bc be I2 T st2 f2 q λd C m s' H' I' hq hn hC hL h0 hcell hpin=>?_;refine⟨m,hn,λh' hs'=>?_⟩;have I'':Inv X pins σ H' { s' with heap:=h',toks:=s'.toks }:=I'.turned (it:=C) (λb o hb e=>(hs'.2 b hb).trans e) hC hL (.inr h0) hcell hpin;exact⟨.ref d,H',I'',rfl,hq⟩
def Q0{X:Cx}{elt tg iter:Expr}{ifs:List Expr}{scope:Scope}{N':List Str}{pos spos py:Pos}{wi:TI}{g:TG}{tc:TT}{te:TE}{i:Nat}{y:Str}
  (ok:mz X scope N') (hc:X.calm=true) (hi:PI X tg iter wi)
  (bg:∀X',jD X scope N' X'->PG X' tg g) (bc:∀X',jD X scope N' X'->PIf X' ifs tc) (be:∀X',jD X scope N' X'->PE X' elt te)
  (hN:X.N.Nodup) (hy:X.N[i]? = some y) (hx:Loc X.env.scope y)
  (hsw:swapsWith (.ListComp elt [⟨tg,iter,ifs,0⟩] scope pos) (some (.Name y py)) spos.line X.env=pure true)
  (hf:X.fn y=true\/X.env.scope.names.lookup y=some .local:=by first|exact .inl rfl|exact .inr rfl|assumption)
  (hs:∀x,foldedSetIterable iter X.env x=pure x:=by intro _;rfl) :
  PS X (.Assign [.Name y py] (.ListComp elt [⟨tg,iter,ifs,0⟩] scope pos) spos) (Ut (tLC N'.length wi g tc te) (G7 i)):=by
 intro pins s σ H D I h;rw[exec_Assign_Name_used _ _ _ _ hsw];refine wpAny_bind (wpAny_standAt (wpAny_bind ?_));have hfree:∀n,(n,NameKind.free)∈scope.names->∃c,X.env.cells.lookup n=some c:=λn hm=>I.ok.has n (ok.free _ hm rfl);show wpAny _ X.A (do let _ <-comprehension (.ListComp elt [⟨tg,iter,ifs,0⟩] scope pos) scope X.env _ (newList []) false (eval iter X.env) (some (assign (.Name y py) X.env))) _ _ s;refine wpAny_bind (wpAny_mono (wpAny_comprehension_free (use:=some (assign (.Name y py) X.env)) (Q:=λ_ s'=>SP X pins D .next s') rfl hs (tK hfree) ok.kind (λx hx hl=>jb _ _ _ ok.nd (by rw[<-hl];exact hx)) ?_) (λ_ s' hq=>wpAny_pure (wpAny_pure hq)) λ_ _ e=>e);refine gr (hi pins s σ H _ I h) λv s1 h1=>gr h1 λitv s2 h2=>?_;obtain⟨it,fp,tn,J,H2,e,I2,T,st2,f2,q⟩:=h2;subst e;refine Ca (Q:=λx H1=>G7 i x σ H1 D.nx) ok hc bg bc be I2 T st2 f2 q λd C m s' H' I' hq hn hC hL h0 hcell hpin=>?_;refine wpAny_assign_Name (Bo (v:=.ref d) I' hN hy hx rfl (λs'' I'' sb=>?_) hf);obtain⟨a,hsb,ha⟩:=sb;have haC:C≠a:=by
  rcases ha with z|z
  ·rw[z];exact hL
  ·exact(hcell y a z).symm
 refine⟨m,hn.sameBut hsb haC,λh' hs'=>?_⟩;have I3:Inv X pins (σ.set i (some (.ref d))) H' { s'' with heap:=h',toks:=s''.toks }:=I''.turned (it:=C) (λb o hb e=>(hs'.2 b hb).trans e) hC hL (.inr h0) hcell hpin;exact⟨_,H',I3,hq⟩
end L2
namespace Ev
open PySem PySem.Spec PyProof.Rows L2
inductive D where
 | non
 | bl (b:Bool)
 | int (i:Int)
 | str (x:List Nat)
 | tup (xs:List D)
 | lst (xs:List D)
 | arr (xs:List D)
 | dct (kvs:List (D×D))
 | gR (kvs:List (D×D))
 | clo (st:Stmt) (ds:List D)
 deriving Inhabited
abbrev Fg:=PySem.W.Frag
def strOf(x:List Nat):Str:=⟨x.toArray⟩
def nQ:D->Option Key
 | .int i=>some (.inl i)
 | .str x=>some (.inr (strOf x))
 | _=>none
mutual
def tR:D->Option NK
 | .int i=>some (.num i)
 | .bl b=>some (.num (if b then 1 else 0))
 | .str x=>some (.txt (strOf x))
 | .tup xs=>(Jr xs).map .tup
 | _=>none
def Jr:List D->Option (List NK)
 | []=>some []
 | d::ds=>match tR d,Jr ds with
  | some k,some ks=>some (k::ks)
  | _,_=>none
end
def defName(s:Stmt):Str:=match s with
 | .FunctionDef n _ _ _ _ _ _ _ _ _=>n
 | _=>""
def freeOf(s:Stmt):List Str:=(((aL s).names.filter (·.2 == .free)).map (·.1)).reverse
def T9(F:Hp)(c:Addr)(v:V):Prop:=∃(o:Obj) (u:HO) (w:Value),F c=some (.j5 o u)/\o.data = .cell (some w)/\RelV v w
def pG(F:Hp):List (Str×Addr)->List V->Prop
 | [],vs=>vs=[]
 | (_,c)::r,vs=>∃v vs',vs=v::vs'/\T9 F c v/\pG F r vs'
def acq(F:Hp)(c:Addr)(q:Str):Prop:=∃(o:Obj) (u:HO) (vs:Array Value) (t:Tok),F c=some (.j5 o u)/\o.data = .fields vs/\vs[1]? = some (.str q t)
def Clo(F:Hp)(st:Stmt)(a:Addr)(vs:List V):Prop:=∃(u:HO) (q:Str) (cl:List (Str×Addr)) (doc pm ctv:Value) (c:Addr),
 F a=some (.j5 (PySem.W.fnMade (defName st) q (gh st) (cI st) (aL st) cl doc pm c ctv) u)/\acq F c q/\cl.map (·.1)=freeOf st/\(cl.map (·.2)).Nodup/\pG F cl vs
theorem aQ.cells{F F':Hp}(e:aQ F F'):∀{cl:List (Str×Addr)} {vs:List V},pG F cl vs->pG F' cl vs
 | [],_,h=>h
 | (_,c)::r,_,⟨v,vs',h0,⟨o,u,w,h1,h2⟩,h3⟩=>⟨v,vs',h0,⟨o,u,w,e _ _ h1,h2⟩,aQ.cells e h3⟩
def aQ.clo{F F':Hp}{st:Stmt}{a:Addr}{vs:List V}(e:aQ F F')(h:Clo F st a vs):Clo F' st a vs:=by obtain⟨u,q,cl,doc,pm,ctv,c,h1,⟨o,u2,ws,t,h2,h3⟩,h4,h5,h6⟩:=h;exact⟨u,q,cl,doc,pm,ctv,c,e _ _ h1,⟨o,u2,ws,t,e _ _ h2,h3⟩,h4,h5,aQ.cells e h6⟩
mutual
def Rep(K:Fg)(F:Hp):D->V->Prop
 | .non,v=>v = .non
 | .bl b,v=>v = .bl b
 | .int i,v=>v = .int i
 | .str x,v=>v = .str (strOf x)/\x.length<=sizeLine
 | .tup xs,v=>xs.length<=sizeLine/\∃a vs,v = .ref a/\lB K F a vs/\bT K F xs vs
 | .lst xs,v=>xs.length<=sizeLine/\∃a vs,v = .ref a/\F a=some (.lst vs)/\bT K F xs vs
 | .arr xs,v=>xs.length<=sizeLine/\∃a vs,v = .ref a/\n8 K F a vs/\bT K F xs vs
 | .dct kvs,v=>kvs.length<=sizeLine/\∃a ks,v = .ref a/\Rd F a (.dK ks)/\dR K F kvs ks
 | .gR kvs,v=>kvs.length<=sizeLine/\∃a ks,v = .ref a/\Rd F a (.dN ks)/\cU K F kvs ks
 | .clo st ds,v=>∃a vs,v = .ref a/\Clo F st a vs/\bT K F ds vs
def bT(K:Fg)(F:Hp):List D->List V->Prop
 | [],vs=>vs=[]
 | d::ds,vs=>∃v r,vs=v::r/\Rep K F d v/\bT K F ds r
def dR(K:Fg)(F:Hp):List (D×D)->List (Key×V)->Prop
 | [],vs=>vs=[]
 | (k,d)::ds,vs=>∃q v r,vs=(q,v)::r/\nQ k=some q/\Rep K F d v/\dR K F ds r
def cU(K:Fg)(F:Hp):List (D×D)->List (NK×V×V)->Prop
 | [],vs=>vs=[]
 | (k,d)::ds,vs=>∃q u v r,vs=(q,u,v)::r/\tR k=some q/\q.dep<=8/\Rep K F k u/\Rep K F d v/\cU K F ds r
end
def aQ.rd{F F':Hp}{a:Addr}{u:HO}(e:aQ F F')(h:Rd F a u):Rd F' a u:=by
 rcases h with h|⟨o,h⟩
 ·exact .inl (e _ _ h)
 ·exact .inr ⟨o,e _ _ h⟩
def aQ.tupK{K:Fg}{F F':Hp}{a:Addr}{xs:List V}(e:aQ F F')(h:lB K F a xs):lB K F' a xs:=by
 rcases h with h|h
 ·exact .inl (aQ.rd e h)
 ·exact .inr h
mutual
theorem Rep.mono{K:Fg}{F F':Hp}(e:aQ F F'):∀(d:D) (v:V),Rep K F d v->Rep K F' d v
 | .non,_,h=>h
 | .bl _,_,h=>h
 | .int _,_,h=>h
 | .str _,_,h=>h
 | .tup xs,v,h=>by
  obtain⟨z,a,vs,rfl,h1,h2⟩:=h;exact⟨z,a,vs,rfl,aQ.tupK e h1,bT.mono e xs vs h2⟩
 | .lst xs,v,h=>by
  obtain⟨z,a,vs,rfl,h1,h2⟩:=h;exact⟨z,a,vs,rfl,e _ _ h1,bT.mono e xs vs h2⟩
 | .arr xs,v,h=>by
  obtain⟨z,a,vs,rfl,h1,h2⟩:=h;exact⟨z,a,vs,rfl,e.seq h1,bT.mono e xs vs h2⟩
 | .dct kvs,v,h=>by
  obtain⟨z,a,ks,rfl,h1,h2⟩:=h;exact⟨z,a,ks,rfl,aQ.rd e h1,dR.mono e kvs ks h2⟩
 | .gR kvs,v,h=>by
  obtain⟨z,a,ks,rfl,h1,h2⟩:=h;exact⟨z,a,ks,rfl,aQ.rd e h1,cU.mono e kvs ks h2⟩
 | .clo st ds,v,h=>by
  obtain⟨a,vs,rfl,h1,h2⟩:=h;exact⟨a,vs,rfl,aQ.clo e h1,bT.mono e ds vs h2⟩
theorem bT.mono{K:Fg}{F F':Hp}(e:aQ F F'):∀(ds:List D) (vs:List V),bT K F ds vs->bT K F' ds vs
 | [],_,h=>h
 | d::ds,vs,h=>by
  obtain⟨v,r,rfl,h1,h2⟩:=h;exact⟨v,r,rfl,Rep.mono e d v h1,bT.mono e ds r h2⟩
theorem dR.mono{K:Fg}{F F':Hp}(e:aQ F F'):∀(ds:List (D×D)) (vs:List (Key×V)),dR K F ds vs->dR K F' ds vs
 | [],_,h=>h
 | (k,d)::ds,vs,h=>by
  obtain⟨q,v,r,rfl,h0,h1,h2⟩:=h;exact⟨q,v,r,rfl,h0,Rep.mono e d v h1,dR.mono e ds r h2⟩
theorem cU.mono{K:Fg}{F F':Hp}(e:aQ F F'):∀(ds:List (D×D)) (vs:List (NK×V×V)),cU K F ds vs->cU K F' ds vs
 | [],_,h=>h
 | (k,d)::ds,vs,h=>by
  obtain⟨q,u,v,r,rfl,h0,h3,h4,h1,h2⟩:=h;exact⟨q,u,v,r,rfl,h0,h3,Rep.mono e k u h4,Rep.mono e d v h1,cU.mono e ds r h2⟩
end
theorem bT.length{K:Fg}{F:Hp}:∀{ds:List D} {vs:List V},bT K F ds vs->vs.length=ds.length
 | [],_,h=>by cases h;rfl
 | d::ds,vs,h=>by
  obtain⟨v,r,rfl,_,h2⟩:=h;rw[List.length_cons,List.length_cons,h2.length]
theorem bT.get{K:Fg}{F:Hp}:∀{ds:List D} {vs:List V} {i:Nat} {d:D},bT K F ds vs->ds[i]? = some d->∃v,vs[i]? = some v/\Rep K F d v
 | [],_,_,_,_,e=>by simp at e
 | c::ds,vs,i,d,h,e=>by
  obtain⟨v,r,rfl,h1,h2⟩:=h;cases i with
  | zero=>simp at e;subst e;exact⟨v,rfl,h1⟩
  | succ i=>obtain⟨u,e1,e2⟩:=bT.get h2 (i:=i) (by simpa using e);exact⟨u,by simpa using e1,e2⟩
theorem bT.append{K:Fg}{F:Hp}:∀{ds es:List D} {vs ws:List V},bT K F ds vs->bT K F es ws->bT K F (ds++es) (vs++ws)
 | [],es,vs,ws,h,g=>by cases h;exact g
 | d::ds,es,vs,ws,h,g=>by
  obtain⟨v,r,rfl,h1,h2⟩:=h;exact⟨v,r++ws,rfl,h1,bT.append h2 g⟩
theorem bT.drop{K:Fg}{F:Hp}:∀(n:Nat) {ds:List D} {vs:List V},bT K F ds vs->bT K F (ds.drop n) (vs.drop n)
 | 0,_,_,h=>h
 | _+1,[],_,h=>by cases h;exact rfl
 | n+1,d::ds,vs,h=>by
  obtain⟨v,r,rfl,_,h2⟩:=h;exact bT.drop n h2
theorem bT.take{K:Fg}{F:Hp}:∀(n:Nat) {ds:List D} {vs:List V},bT K F ds vs->bT K F (ds.take n) (vs.take n)
 | 0,_,_,_=>rfl
 | _+1,[],_,h=>by cases h;exact rfl
 | n+1,d::ds,vs,h=>by
  obtain⟨v,r,rfl,h1,h2⟩:=h;exact⟨v,r.take n,rfl,h1,bT.take n h2⟩
theorem bT.set{K:Fg}{F:Hp}{d:D}{v:V}(hd:Rep K F d v):∀(i:Nat) {ds:List D} {vs:List V},bT K F ds vs->bT K F (ds.set i d) (vs.set i v)
 | _,[],_,h=>by cases h;exact rfl
 | 0,c::ds,vs,h=>by
  obtain⟨u,r,rfl,_,h2⟩:=h;exact⟨v,r,rfl,hd,h2⟩
 | i+1,c::ds,vs,h=>by
  obtain⟨u,r,rfl,h1,h2⟩:=h;exact⟨u,r.set i v,rfl,h1,bT.set hd i h2⟩
def bT.one{K:Fg}{F:Hp}{d:D}{v:V}(h:Rep K F d v):bT K F [d] [v]:=⟨v,[],rfl,h,rfl⟩
abbrev Env:=List (Option (Bool×D))
inductive R (α:Type) where
 | ok (a:α) (env:Env)
 | stuck
abbrev Ev:=Env->R D
abbrev d8:=Env->R Bool
abbrev cV:=Env->R (List D)
structure Cfg where
 K:Fg
 fx:Nat->Option Addr
def j0(K:Fg)(F H:Hp):D->Addr->Prop
 | .lst xs,a=>xs.length<=sizeLine/\∃vs,H a=some (.lst vs)/\bT K F xs vs
 | .dct kvs,a=>kvs.length<=sizeLine/\∃ks,H a=some (.dK ks)/\dR K F kvs ks
 | .gR kvs,a=>kvs.length<=sizeLine/\∃ks,H a=some (.dN ks)/\cU K F kvs ks
 | _,_=>False
def j0.mono{K:Fg}{F F' H H':Hp}(e:aQ F F'){d:D}{a:Addr}(k:H' a=H a)(h:j0 K F H d a):j0 K F' H' d a:=by
 cases d with
 | lst xs=>obtain⟨z,vs,h1,h2⟩:=h;exact⟨z,vs,k.trans h1,bT.mono e _ _ h2⟩
 | dct kvs=>obtain⟨z,ks,h1,h2⟩:=h;exact⟨z,ks,k.trans h1,dR.mono e _ _ h2⟩
 | gR kvs=>obtain⟨z,ks,h1,h2⟩:=h;exact⟨z,ks,k.trans h1,cU.mono e _ _ h2⟩
 | _=>exact h
theorem j0.some{K:Fg}{F H:Hp}{d:D}{a:Addr}(h:j0 K F H d a):∃o,H a=some o:=by
 cases d with
 | lst xs=>obtain⟨z,vs,h1,h2⟩:=h;exact⟨_,h1⟩
 | dct kvs=>obtain⟨z,ks,h1,h2⟩:=h;exact⟨_,h1⟩
 | gR kvs=>obtain⟨z,ks,h1,h2⟩:=h;exact⟨_,h1⟩
 | _=>exact h.elim
def gY(K:Fg)(F H:Hp)(d:D)(v:V):Prop:=Rep K F d v\/∃a,v = .ref a/\j0 K F H d a
def gY.rep{K:Fg}{F H:Hp}{d:D}{v:V}(s:aQ F H)(h:gY K F H d v):Rep K H d v:=by
 rcases h with h|⟨a,rfl,h⟩
 ·exact Rep.mono s d v h
 ·cases d with
  | lst xs=>obtain⟨z,vs,h1,h2⟩:=h;exact⟨z,a,vs,rfl,h1,bT.mono s _ _ h2⟩
  | dct kvs=>obtain⟨z,ks,h1,h2⟩:=h;exact⟨z,a,ks,rfl,.inl h1,dR.mono s _ _ h2⟩
  | gR kvs=>obtain⟨z,ks,h1,h2⟩:=h;exact⟨z,a,ks,rfl,.inl h1,cU.mono s _ _ h2⟩
  | _=>exact h.elim
def gY.lst{K:Fg}{F H:Hp}{xs:List D}{v:V}(s:aQ F H)(h:gY K F H (.lst xs) v):xs.length<=sizeLine/\∃a vs,v = .ref a/\H a=some (.lst vs)/\bT K F xs vs:=by
 rcases h with ⟨z,a,vs,rfl,h1,h2⟩|⟨a,rfl,z,vs,h1,h2⟩
 ·exact⟨z,a,vs,rfl,s _ _ h1,h2⟩
 ·exact⟨z,a,vs,rfl,h1,h2⟩
def gY.arr{K:Fg}{F H:Hp}{xs:List D}{v:V}(s:aQ F H)(h:gY K F H (.arr xs) v):xs.length<=sizeLine/\∃a vs,v = .ref a/\n8 K H a vs/\bT K F xs vs:=by
 rcases h with ⟨z,a,vs,rfl,h1,h2⟩|⟨a,rfl,h⟩
 ·exact⟨z,a,vs,rfl,s.seq h1,h2⟩
 ·exact h.elim
def gY.tup{K:Fg}{F H:Hp}{xs:List D}{v:V}(s:aQ F H)(h:gY K F H (.tup xs) v):xs.length<=sizeLine/\∃a vs,v = .ref a/\lB K H a vs/\lB K F a vs/\bT K F xs vs:=by
 rcases h with ⟨z,a,vs,rfl,h1,h2⟩|⟨a,rfl,h⟩
 ·exact⟨z,a,vs,rfl,aQ.tupK s h1,h1,h2⟩
 ·exact h.elim
def gY.int{K:Fg}{F H:Hp}{i:Int}{v:V}(h:gY K F H (.int i) v):v = .int i:=by
 rcases h with h|⟨a,rfl,h⟩
 ·exact h
 ·exact h.elim
def gY.bl{K:Fg}{F H:Hp}{i:Bool}{v:V}(h:gY K F H (.bl i) v):v = .bl i:=by
 rcases h with h|⟨a,rfl,h⟩
 ·exact h
 ·exact h.elim
def gY.non{K:Fg}{F H:Hp}{v:V}(h:gY K F H .non v):v = .non:=by
 rcases h with h|⟨a,rfl,h⟩
 ·exact h
 ·exact h.elim
def gY.str{K:Fg}{F H:Hp}{x:List Nat}{v:V}(h:gY K F H (.str x) v):v = .str (strOf x)/\x.length<=sizeLine:=by
 rcases h with h|⟨a,rfl,h⟩
 ·exact h
 ·exact h.elim
structure Rel(C:Cfg)(Pr F:Hp)(env:Env)(σ:L2.St)(H:Hp):Prop where
 pr:aQ Pr H
 fr:aQ F H
 len:env.length=σ.length
 val:∀(i:Nat) (d:D),env[i]? = some (some (false,d))->∃v,σ[i]? = some (some v)/\Rep C.K F d v
 own:∀(i:Nat) (d:D),env[i]? = some (some (true,d))->∃a,σ[i]? = some (some (V.ref a))/\j0 C.K F H d a/\F a=none/\Pr a=none
 apart:∀(i j:Nat) (d e:D) (a:Addr),env[i]? = some (some (true,d))->env[j]? = some (some (true,e))->σ[i]? = some (some (V.ref a))->σ[j]? = some (some (V.ref a))->i=j
 dj:∀b o,F b=some o->Pr b=none
 fix:∀i a,C.fx i=some a->σ[i]? = some (some (V.ref a))
def lN{H:Hp}{a:Addr}{o:HO}(h:H a=none):aQ H (upd H a o):=λb u e=>by
 rw[bH (cW e h)];exact e
def Rel.new{C:Cfg}{Pr F:Hp}{env:Env}{σ:L2.St}{H:Hp}{a:Addr}{o:HO}(r:Rel C Pr F env σ H)(h:H a=none):Rel C Pr (upd F a o) env σ (upd H a o)/\aQ F (upd F a o):=by
 have hF:F a=none:=r.fr.free h;have s1:aQ F (upd F a o):=lN hF;refine⟨⟨r.pr.trans (lN h),λb u e=>?_,r.len,λi d e1=>?_,λi d e1=>?_,r.apart,λb u e=>?_,r.fix⟩,s1⟩
 ·by_cases hb:b=a
  ·subst hb;rw[aZ] at e ⊢;exact e
  ·rw[bH hb] at e ⊢;exact r.fr b u e
 ·obtain⟨v,h1,h2⟩:=r.val i d e1;exact⟨v,h1,Rep.mono s1 d v h2⟩
 ·obtain⟨b,h1,h2,h3,h4⟩:=r.own i d e1;obtain⟨u,hu⟩:=h2.some;have hb:b≠a:=cW hu h;exact⟨b,h1,h2.mono s1 (bH hb),by rw[bH hb];exact h3,h4⟩
 ·by_cases hb:b=a
  ·subst hb;exact r.pr.free h
  ·rw[bH hb] at e;exact r.dj b u e
def Rel.fresh{C:Cfg}{Pr F:Hp}{env:Env}{σ:L2.St}{H:Hp}{a:Addr}{o:HO}(r:Rel C Pr F env σ H)(h:H a=none):Rel C Pr F env σ (upd H a o):=by refine⟨r.pr.trans (lN h),r.fr.trans (lN h),r.len,r.val,λi d e1=>?_,r.apart,r.dj,r.fix⟩;obtain⟨b,h1,h2,h3,h4⟩:=r.own i d e1;obtain⟨u,hu⟩:=h2.some;have hb:b≠a:=cW hu h;exact⟨b,h1,h2.mono (aQ.refl F) (bH hb),h3,h4⟩
def Rel.aside{C:Cfg}{Pr F:Hp}{env:Env}{σ:L2.St}{H:Hp}{a:Addr}{o:HO}(r:Rel C Pr F env σ H)(h:H a=none):Rel C (upd Pr a o) F env σ (upd H a o):=by
 have r':=r.fresh (o:=o) h;have hF:F a=none:=r.fr.free h;refine⟨λb u e=>?_,r'.fr,r.len,r.val,λi d e1=>?_,r.apart,λb u e=>?_,r.fix⟩
 ·by_cases hb:b=a
  ·subst hb;rw[aZ] at e ⊢;exact e
  ·rw[bH hb] at e ⊢;exact r.pr b u e
 ·obtain⟨b,h1,h2,h3,h4⟩:=r'.own i d e1;obtain⟨b',h1',h2',_⟩:=r.own i d e1;rw[h1] at h1';cases h1';obtain⟨u,hu⟩:=h2'.some;have hb:b≠a:=cW hu h;exact⟨b,h1,h2,h3,by rw[bH hb];exact h4⟩
 ·have hb:b≠a:=λz=>by rw[z,hF] at e;cases e
  rw[bH hb];exact r.dj b u e
def Rel.turn{C:Cfg}{Pr F:Hp}{env:Env}{σ:L2.St}{H:Hp}{a:Addr}{o u:HO}(r:Rel C Pr F env σ H)(h:Pr a=some o):Rel C (upd Pr a u) F env σ (upd H a u):=by
 have hF:F a=none:=by
  cases e:F a with
  | none=>rfl
  | some w=>have:=r.dj a w e;rw[h] at this;cases this
 refine⟨λb w e=>?_,λb w e=>?_,r.len,r.val,λi d e1=>?_,r.apart,λb w e=>?_,r.fix⟩
 ·by_cases hb:b=a
  ·subst hb;rw[aZ] at e ⊢;exact e
  ·rw[bH hb] at e ⊢;exact r.pr b w e
 ·have hb:b≠a:=λz=>by rw[z,hF] at e;cases e
  rw[bH hb];exact r.fr b w e
 ·obtain⟨b,h1,h2,h3,h4⟩:=r.own i d e1;have hb:b≠a:=λz=>by rw[z,h] at h4;cases h4
  exact⟨b,h1,h2.mono (aQ.refl F) (bH hb),h3,by rw[bH hb];exact h4⟩
 ·have hb:b≠a:=λz=>by rw[z,hF] at e;cases e
  rw[bH hb];exact r.dj b w e
def Rel.less{C:Cfg}{Pr Pr' F:Hp}{env:Env}{σ:L2.St}{H:Hp}(r:Rel C Pr F env σ H)(s:aQ Pr' Pr):Rel C Pr' F env σ H:=
 ⟨s.trans r.pr,r.fr,r.len,r.val,λi d e=>let ⟨b,h1,h2,h3,h4⟩:=r.own i d e;⟨b,h1,h2,h3,s.free h4⟩,r.apart,λb o e=>s.free (r.dj b o e),r.fix⟩
def Rel.freeze{C:Cfg}{Pr F:Hp}{env:Env}{σ:L2.St}{H:Hp}(r:Rel C Pr F env σ H){i:Nat}{d:D}(h:env[i]? = some (some (true,d))) :
  ∃(F':Hp) (v:V),Rel C Pr F' (env.set i (some (false,d))) σ H/\aQ F F'/\σ[i]? = some (some v)/\Rep C.K F' d v:=by
 obtain⟨a,h1,h2,h3,h4⟩:=r.own i d h;obtain⟨o,ho⟩:=h2.some;have s1:aQ F (upd F a o):=lN h3;have hi:i<env.length:=(List.getElem?_eq_some_iff.mp h).1;have rep:Rep C.K (upd F a o) d (.ref a):=by
  cases d with
  | lst xs=>obtain⟨z,vs,g1,g2⟩:=h2;rw[ho] at g1;cases g1;exact⟨z,a,vs,rfl,aZ,bT.mono s1 _ _ g2⟩
  | dct kvs=>obtain⟨z,ks,g1,g2⟩:=h2;rw[ho] at g1;cases g1;exact⟨z,a,ks,rfl,.inl aZ,dR.mono s1 _ _ g2⟩
  | gR kvs=>obtain⟨z,ks,g1,g2⟩:=h2;rw[ho] at g1;cases g1;exact⟨z,a,ks,rfl,.inl aZ,cU.mono s1 _ _ g2⟩
  | _=>exact h2.elim
 refine⟨upd F a o,.ref a,⟨r.pr,λb u e=>?_,by rw[List.length_set];exact r.len,λj e he=>?_,λj e he=>?_,λj k e f b hj hk g1 g2=>?_,λb u e=>?_,r.fix⟩,s1,h1,rep⟩
 ·by_cases hb:b=a
  ·subst hb;rw[aZ] at e;cases e;exact ho
  ·rw[bH hb] at e;exact r.fr b u e
 ·by_cases hj:j=i
  ·subst hj;rw[List.getElem?_set_self hi] at he;cases he;exact⟨_,h1,rep⟩
  ·rw[List.getElem?_set_ne (Ne.symm hj)] at he;obtain⟨v,g1,g2⟩:=r.val j e he;exact⟨v,g1,Rep.mono s1 e v g2⟩
 ·by_cases hj:j=i
  ·subst hj;rw[List.getElem?_set_self hi] at he;cases he
  ·rw[List.getElem?_set_ne (Ne.symm hj)] at he;obtain⟨b,g1,g2,g3,g4⟩:=r.own j e he;have hb:b≠a:=λz=>hj (r.apart j i e d a he h (by rw[<-z];exact g1) h1);exact⟨b,g1,g2.mono s1 rfl,by rw[bH hb];exact g3,g4⟩
 ·have nj:j≠i:=λz=>by subst z;rw[List.getElem?_set_self hi] at hj;cases hj
  have nk:k≠i:=λz=>by subst z;rw[List.getElem?_set_self hi] at hk;cases hk
  rw[List.getElem?_set_ne (Ne.symm nj)] at hj;rw[List.getElem?_set_ne (Ne.symm nk)] at hk;exact r.apart j k e f b hj hk g1 g2
 ·by_cases hb:b=a
  ·subst hb;exact h4
  ·rw[bH hb] at e;exact r.dj b u e
def tE(C:Cfg)(ev:Ev):TE:=λσ H Q=>∃(Pr F:Hp) (env env':Env) (d:D),Rel C Pr F env σ H/\ev env = .ok d env'/\
 ∀v H' F',Rel C Pr F' env' σ H'->aQ F F'->Rep C.K F' d v->Q v H'
def tRd(C:Cfg)(ev:Ev):TE:=λσ H Q=>∃(Pr F:Hp) (env env':Env) (d:D),Rel C Pr F env σ H/\ev env = .ok d env'/\
 ∀v H' F',Rel C Pr F' env' σ H'->aQ F F'->gY C.K F' H' d v->Q v H'
def tT(C:Cfg)(ev:d8):TT:=λσ H Q=>∃(Pr F:Hp) (env env':Env) (b:Bool),Rel C Pr F env σ H/\ev env = .ok b env'/\
 ∀H' F',Rel C Pr F' env' σ H'->aQ F F'->Q b H'
def tA(C:Cfg)(ev:cV):TA:=λσ H Q=>∃(Pr F:Hp) (env env':Env) (ds:List D),Rel C Pr F env σ H/\ev env = .ok ds env'/\
 ∀vs H' F',Rel C Pr F' env' σ H'->aQ F F'->bT C.K F' ds vs->Q vs H'
def PX(X:Cx)(C:Cfg)(e:Expr)(ev:Ev):Prop:=PE X e (tE C ev)
def Aa(X:Cx)(C:Cfg)(e:Expr)(ev:Ev):Prop:=PE X e (tRd C ev)
def Hx(X:Cx)(C:Cfg)(e:Expr)(ev:d8):Prop:=PT X e (tT C ev)
def Cr(X:Cx)(C:Cfg)(es:List Expr)(ev:cV):Prop:=PA X es (tA C ev)
def _root_.L2.PE.imp{X:Cx}{e:Expr}{t t':TE}(h:PE X e t)(i:∀σ H Q,t' σ H Q->t σ H Q):PE X e t':=λpins s σ H Q I q=>h pins s σ H Q I (i σ H Q q)
def _root_.L2.PT.imp{X:Cx}{e:Expr}{t t':TT}(h:PT X e t)(i:∀σ H Q,t' σ H Q->t σ H Q):PT X e t':=λpins s σ H Q I q=>h pins s σ H Q I (i σ H Q q)
def _root_.L2.PW.imp{X:Cx}{e:Expr}{t t':TT}(h:PW X e t)(i:∀σ H Q,t' σ H Q->t σ H Q):PW X e t':=λwhole pins s σ H Q I q=>h whole pins s σ H Q I (i σ H Q q)
def _root_.L2.PA.imp{X:Cx}{e:List Expr}{t t':TA}(h:PA X e t)(i:∀σ H Q,t' σ H Q->t σ H Q):PA X e t':=λpos pins s σ H Q I q=>h pos pins s σ H Q I (i σ H Q q)
def _root_.L2.PS.imp{X:Cx}{e:Stmt}{t t':TS}(h:PS X e t)(i:∀D σ H,t' D σ H->t D σ H):PS X e t':=λpins s σ H D I q=>h pins s σ H D I (i D σ H q)
def _root_.L2.Et.imp{X:Cx}{e:List Stmt}{t t':TS}(h:Et X e t)(i:∀D σ H,t' D σ H->t D σ H):Et X e t':=λpins s σ H D I q=>h pins s σ H D I (i D σ H q)
def bindR{α β:Type}(x:R α)(f:α->Env->R β):R β:=match x with
 | .ok a env=>f a env
 | .stuck=>.stuck
def dX{α:Type}(o:Option α)(env:Env):R α:=match o with
 | some a=>.ok a env
 | none=>.stuck
def aW{α β:Type}{x:R α}{f:α->Env->R β}{b:β}{env':Env}(h:bindR x f = .ok b env'):∃a aM,x = .ok a aM/\f a aM = .ok b env':=by
 cases x with
 | ok a aM=>exact⟨a,aM,rfl,h⟩
 | stuck=>cases h
def eZ{α:Type}{o:Option α}{env env':Env}{a:α}(h:dX o env = .ok a env'):o=some a/\env'=env:=by
 cases o with
 | some b=>cases h;exact⟨rfl,rfl⟩
 | none=>cases h
section
variable{X:Cx}{C:Cfg}{pos:Pos}
def aP(i:Nat):Ev:=λenv=>match env[i]? with
 | some (some (false,d))=>.ok d env
 | some (some (true,d))=>.ok d (env.set i (some (false,d)))
 | _=>.stuck
def Zm(i:Nat){x:Str}(hN:X.N[i]? = some x)(hv:pD X.env.scope x)(hd:iZ x:=by decide)(hcd:oU x:=by decide):PX X C (.Name x pos) (aP i):=by
 refine(jk hN hv hd hcd).imp λσ H Q h=>?_;obtain⟨Pr,F,env,env',d,r,e,q⟩:=h;unfold aP at e;split at e
 ·rename_i d' hd';cases e;obtain⟨v,h1,h2⟩:=r.val i d hd';exact⟨v,h1,q v H F r (aQ.refl F) h2⟩
 ·rename_i d' hd';cases e;obtain⟨F',v,r',s',h1,h2⟩:=r.freeze hd';exact⟨v,h1,q v H F' r' s' h2⟩
 ·cases e
def PX.b{e:Expr}{ev:Ev}(h:PX X C e ev):Aa X C e ev:=PE.imp h λσ H Q hq=>by
 obtain⟨Pr,F,env,env',d,r,e,q⟩:=hq;exact⟨Pr,F,env,env',d,r,e,λv H' F' r' s' p'=>q v H' F' r' s' (.inl p')⟩
def bf(i:Nat):Ev:=λenv=>match env[i]? with
 | some (some (_,d))=>.ok d env
 | _=>.stuck
def Rel.rd{Pr F:Hp}{env:Env}{σ:L2.St}{H:Hp}(r:Rel C Pr F env σ H){i:Nat}{o:Bool}{d:D}(h:env[i]? = some (some (o,d))):∃v,σ[i]? = some (some v)/\gY C.K F H d v:=by
 cases o with
 | true=>obtain⟨a,h1,h2,_⟩:=r.own i d h;exact⟨_,h1,.inr ⟨a,rfl,h2⟩⟩
 | false=>obtain⟨v,h1,h2⟩:=r.val i d h;exact⟨v,h1,.inl h2⟩
def Vm(i:Nat){x:Str}(hN:X.N[i]? = some x)(hv:pD X.env.scope x)(hd:iZ x:=by decide)(hcd:oU x:=by decide):Aa X C (.Name x pos) (bf i):=by
 refine(jk hN hv hd hcd).imp λσ H Q h=>?_;obtain⟨Pr,F,env,env',d,r,e,q⟩:=h;unfold bf at e;split at e
 ·rename_i o' d' hd';cases e;obtain⟨v,h1,h2⟩:=r.rd hd';exact⟨v,h1,q v H F r (aQ.refl F) h2⟩
 ·cases e
def jg(d:D):Ev:=λenv=>.ok d env
def ZF{i:Int}{j:Nat}:PX X C (.Constant (.int i) j pos) (jg (.int i)):=Ra.imp λσ H Q h=>by
 obtain⟨Pr,F,env,env',d,r,e,q⟩:=h;cases e;exact q _ _ F r (aQ.refl F) rfl
def adR{b:Bool}{j:Nat}:PX X C (.Constant (.bool b) j pos) (jg (.bl b)):=adZ.imp λσ H Q h=>by
 obtain⟨Pr,F,env,env',d,r,e,q⟩:=h;cases e;exact q _ _ F r (aQ.refl F) rfl
def Zz{j:Nat}:PX X C (.Constant .none j pos) (jg .non):=Z6.imp λσ H Q h=>by
 obtain⟨Pr,F,env,env',d,r,e,q⟩:=h;cases e;exact q _ _ F r (aQ.refl F) rfl
def Zq(z:List Nat){x:Str}{j:Nat}(hz:x=strOf z)(hl:z.length<=sizeLine:=by decide):PX X C (.Constant (.str x) j pos) (jg (.str z)):=by subst hz;refine Z2.imp λσ H Q h=>?_;obtain⟨Pr,F,env,env',d,r,e,q⟩:=h;cases e;exact q _ _ F r (aQ.refl F) ⟨rfl,hl⟩
def Vq{x:Str}{v:V}{u:Value}(d:D)(hg:Gl X x)(hm:X.mg x=some u)(rv:RelV v u)(hr:∀F,Rep C.K F d v)(hd:iZ x:=by decide):PX X C (.Name x pos) (jg d):=
 (VD hg hm rv hd).imp λσ H Q h=>by
  obtain⟨Pr,F,env,env',d,r,e,q⟩:=h;cases e;exact q _ _ F r (aQ.refl F) (hr F)
def ak:cV:=λenv=>.ok [] env
def aa(a:Ev)(r:cV):cV:=λenv=>bindR (a env) λd aM=>bindR (r aM) λds dH=>.ok (d::ds) dH
def KC:Cr X C [] ak:=vR.imp λσ H Q h=>by
 obtain⟨Pr,F,env,env',d,r,e,q⟩:=h;cases e;exact q _ _ F r (aQ.refl F) rfl
def Gi{e:Expr}{es:List Expr}{a:Ev}{r:cV}(ha:PX X C e a)(hr:Cr X C es r)(hs:starEach (e::es) X.env=(false,eval e X.env)::starEach es X.env:=by rfl):Cr X C (e::es) (aa a r):=
 (iH ha hr hs).imp λσ H Q h=>by
  obtain⟨Pr,F,env,env',ds,rl,e,q⟩:=h;obtain⟨d1,aM,e1,e2⟩:=aW e;obtain⟨ds2,dH,e3,e4⟩:=aW e2;cases e4;refine⟨Pr,F,env,aM,d1,rl,e1,λv H1 F1 r1 s1 p1=>?_⟩;refine⟨Pr,F1,aM,env',ds2,r1,e3,λvs H2 F2 r2 s2 p2=>?_⟩;exact q _ H2 F2 r2 (s1.trans s2) ⟨v,vs,rfl,Rep.mono s2 d1 v p1,p2⟩
def bV(r:cV):Ev:=λenv=>bindR (r env) λds aM=>if ds.length<=sizeLine then .ok (.tup ds) aM else .stuck
def cC(r:cV):Ev:=λenv=>bindR (r env) λds aM=>if ds.length<=sizeLine then .ok (.lst ds) aM else .stuck
def Zo{es:List Expr}{r:cV}{k:Nat}(h:Cr X C es r):PX X C (.Tuple es k pos) (bV r):=(Z1 h).imp λσ H Q hq=>by
 obtain⟨Pr,F,env,env',d,rl,e,q⟩:=hq;obtain⟨ds,aM,e1,e2⟩:=aW e;split at e2
 ·rename_i hz;cases e2;refine⟨Pr,F,env,env',ds,rl,e1,λvs H1 F1 r1 s1 p1=>⟨by rw[p1.length];exact hz,λp hp=>?_⟩⟩;obtain⟨r2,s2⟩:=r1.new (o:=.tup vs) hp;exact q _ _ _ r2 (s1.trans s2) ⟨hz,p,vs,rfl,lB.of aZ,bT.mono s2 _ _ p1⟩
 ·cases e2
def aH(g:D->D->Option D)(a b:Ev):Ev:=λenv=>bindR (a env) λx aM=>bindR (b aM) λy dH=>dX (g x y) dH
def uJ(g:D->Option D)(a:Ev):Ev:=λenv=>bindR (a env) λx aM=>dX (g x) aM
def pQ(C:Cfg)(r:R2)(g:D->D->Option D):Prop:=∀(Pr F:Hp) (env:Env) (σ:L2.St) (H:Hp) (x y d:D) (vx vy:V) (Q:VK),Rel C Pr F env σ H->gY C.K F H x vx->gY C.K F H y vy->g x y=some d->
 (∀v H' F',Rel C Pr F' env σ H'->aQ F F'->Rep C.K F' d v->Q v H')->r vx vy H Q
def UnD(C:Cfg)(r:V->Hp->VK->Prop)(g:D->Option D):Prop:=∀(Pr F:Hp) (env:Env) (σ:L2.St) (H:Hp) (x d:D) (vx:V) (Q:VK),Rel C Pr F env σ H->gY C.K F H x vx->g x=some d->
 (∀v H' F',Rel C Pr F' env σ H'->aQ F F'->Rep C.K F' d v->Q v H')->r vx H Q
def Ed{r:R2}{g:D->D->Option D}{a b:Ev}(o:pQ C r g)(σ:L2.St)(H:Hp)(Q:VK)(h:tE C (aH g a b) σ H Q):YT r (tE C a) (tRd C b) σ H Q:=by obtain⟨Pr,F,env,env',d,rl,e,q⟩:=h;obtain⟨x,aM,e1,e2⟩:=aW e;obtain⟨y,dH,e3,e4⟩:=aW e2;obtain⟨e5,rfl⟩:=eZ e4;refine⟨Pr,F,env,aM,x,rl,e1,λvx H1 F1 r1 s1 p1=>⟨Pr,F1,aM,env',y,r1,e3,λvy H2 F2 r2 s2 p2=>?_⟩⟩;exact o Pr F2 env' σ H2 x y d vx vy Q r2 (.inl (Rep.mono s2 x vx p1)) p2 e5 λv H3 F3 r3 s3 p3=>q v H3 F3 r3 ((s1.trans s2).trans s3) p3
def ao(g:D->D->Option D)(i:Nat)(b:Ev):Ev:=λenv=>match env[i]? with
 | some (some (_,_))=>bindR (b env) λy dH=>(match dH[i]? with
  | some (some (_,x))=>dX (g x y) dH
  | _=>.stuck)
 | _=>.stuck
def uR{r:R2}{g:D->D->Option D}{i:Nat}{b:Ev}(o:pQ C r g)(σ:L2.St)(H:Hp)(Q:VK)(h:tE C (ao g i b) σ H Q):YT r (Ur i) (tRd C b) σ H Q:=by
 obtain⟨Pr,F,env,env',d,rl,e,q⟩:=h;unfold ao at e;split at e
 ·rename_i o0 d0 h0;obtain⟨v,hv,_⟩:=rl.rd h0;obtain⟨y,dH,e1,e2⟩:=aW e;split at e2
  ·rename_i o2 x h2;obtain⟨e5,rfl⟩:=eZ e2;refine⟨v,hv,Pr,F,env,env',y,rl,e1,λvy H2 F2 r2 s2 p2=>?_⟩;obtain⟨v',hv',p⟩:=r2.rd h2;rw[hv] at hv';cases hv';exact o Pr F2 env' σ H2 x y d v vy Q r2 p p2 e5 λv H3 F3 r3 s3 p3=>q v H3 F3 r3 (s2.trans s3) p3
  ·cases e2
 ·cases e
def adN{op:Operator}{r:R2}{g:D->D->Option D}{x y:Expr}{a b:Ev}(ho:nu X (binaryOp op) r)(o:pQ C r g)(ha:PX X C x a)(hb:Aa X C y b):PX X C (.BinOp x op y pos) (aH g a b):=
 (Xq ho ha hb).imp (Ed o)
def Zu{op:Operator}{r:R2}{g:D->D->Option D}{y:Expr}{b:Ev}{px:Pos}(i:Nat){x:Str}(hN:X.N[i]? = some x)(hv:pD X.env.scope x)(ho:nu X (binaryOp op) r)(o:pQ C r g)(hb:Aa X C y b)
  (hd:iZ x:=by decide) (hcd:oU x:=by decide):PX X C (.BinOp (.Name x px) op y pos) (ao g i b):=
 (Xq ho (jk hN hv hd hcd) hb).imp (uR o)
def ZJ{op:CmpOp}{r:R2}{g:D->D->Option D}{x y:Expr}{a b:Ev}(ho:nu X (compareOp op) r)(o:pQ C r g)(ha:PX X C x a)(hb:Aa X C y b)(hm:behindInMarks op y=false):PX X C (.Compare x [op] [y] pos) (aH g a b):=
 (KQ ho ha hb hm).imp (Ed o)
def adK{op:UnaryOp}{r:V->Hp->VK->Prop}{g:D->Option D}{x:Expr}{a:Ev}(ho:UnR X (unaryOp op) r)(o:UnD C r g)(ha:PX X C x a):PX X C (.UnaryOp op x pos) (uJ g a):=
 (Xp ho ha).imp λσ H Q h=>by
  obtain⟨Pr,F,env,env',d,rl,e,q⟩:=h;obtain⟨x,aM,e1,e2⟩:=aW e;obtain⟨e3,rfl⟩:=eZ e2;exact⟨Pr,F,env,env',x,rl,e1,λvx H1 F1 r1 s1 p1=>o Pr F1 env' σ H1 x d vx Q r1 (.inl p1) e3 λv H3 F3 r3 s3 p3=>q v H3 F3 r3 (s1.trans s3) p3⟩
def cP(a:Ev):d8:=λenv=>bindR (a env) λd aM=>match d with
 | .bl b=>.ok b aM
 | _=>.stuck
def Pb{a:Ev}{σ:L2.St}{H:Hp}{Q:Bool->Hp->Prop}(h:tT C (cP a) σ H Q):tE C a σ H λx H'=>∃k,x = .bl k/\Q k H':=by
 obtain⟨Pr,F,env,env',b,rl,e,q⟩:=h;obtain⟨d,aM,e1,e2⟩:=aW e;refine⟨Pr,F,env,aM,d,rl,e1,λv H1 F1 r1 s1 p1=>?_⟩;cases d with
 | bl c=>cases e2;exact⟨_,p1,q H1 F1 r1 s1⟩
 | _=>cases e2
def Vb{op:CmpOp}{r:R2}{g:D->D->Option D}{x y:Expr}{a b:Ev}(ho:nu X (compareOp op) r)(o:pQ C r g)(ha:PX X C x a)(hb:Aa X C y b)(hm:behindInMarks op y=false):Hx X C (.Compare x [op] [y] pos) (cP (aH g a b)):=
 (KD ho ha hb hm).imp λσ H Q h=>by
  have h1:=Pb h;exact Ed o σ H _ h1
def U9{e:Expr}{a:Ev}(h:PX X C e a)(he:∀whole,isTrue e X.env whole=(do let v <-whole;standAt e.pos;holding [v] (truthy v)):=by intro _;rfl):Hx X C e (cP a):=
 (ZM h he).imp λσ H Q hq=>Pb hq
def qH(a:d8):d8:=λenv=>bindR (a env) λb aM=>.ok (!b) aM
def Va{x:Expr}{a:d8}(h:Hx X C x a):Hx X C (.UnaryOp .Not x pos) (qH a):=(ZP h).imp λσ H Q hq=>by
 obtain⟨Pr,F,env,env',b,rl,e,q⟩:=hq;obtain⟨c,aM,e1,e2⟩:=aW e;cases e2;exact⟨Pr,F,env,env',c,rl,e1,λH1 F1 r1 s1=>q H1 F1 r1 s1⟩
def fC(a b:d8):d8:=λenv=>bindR (a env) λc aM=>if c=true then b aM else .ok false aM
def jX(a b:d8):d8:=λenv=>bindR (a env) λc aM=>if c=true then .ok true aM else b aM
def Ue(X:Cx)(C:Cfg)(e:Expr)(ev:d8):Prop:=PW X e (tT C ev)
def Qw{x:Expr}{a:d8}(h:Hx X C x a):Ue X C (.BoolOp .And [x] pos) a:=pw_and1 h
def U7{x:Expr}{a:d8}(h:Hx X C x a):Ue X C (.BoolOp .Or [x] pos) a:=pw_or1 h
def U8{x y:Expr}{rest:List Expr}{a b:d8}(ha:Hx X C x a)(hb:Ue X C (.BoolOp .And (y::rest) pos) b):Ue X C (.BoolOp .And (x::y::rest) pos) (fC a b):=
 (pw_and ha hb).imp λσ H Q hq=>by
  obtain⟨Pr,F,env,env',k,rl,e,q⟩:=hq;obtain⟨c,aM,e1,e2⟩:=aW e;refine⟨Pr,F,env,aM,c,rl,e1,λH1 F1 r1 s1=>?_⟩;split at e2
  ·rename_i hc;rw[if_pos hc];exact⟨Pr,F1,aM,env',k,r1,e2,λH2 F2 r2 s2=>q H2 F2 r2 (s1.trans s2)⟩
  ·rename_i hc;rw[if_neg hc];cases e2;exact q H1 F1 r1 s1
def Zg{x y:Expr}{rest:List Expr}{a b:d8}(ha:Hx X C x a)(hb:Ue X C (.BoolOp .Or (y::rest) pos) b):Ue X C (.BoolOp .Or (x::y::rest) pos) (jX a b):=
 (pw_or ha hb).imp λσ H Q hq=>by
  obtain⟨Pr,F,env,env',k,rl,e,q⟩:=hq;obtain⟨c,aM,e1,e2⟩:=aW e;refine⟨Pr,F,env,aM,c,rl,e1,λH1 F1 r1 s1=>?_⟩;split at e2
  ·rename_i hc;rw[if_pos hc];cases e2;exact q H1 F1 r1 s1
  ·rename_i hc;rw[if_neg hc];exact⟨Pr,F1,aM,env',k,r1,e2,λH2 F2 r2 s2=>q H2 F2 r2 (s1.trans s2)⟩
def Ue.pt{e:Expr}{a:d8}(h:Ue X C e a):Hx X C e a:=PW.pt h
def jY(a b:Ev):Ev:=λenv=>bindR (a env) λc aM=>match c with
 | .bl true=>b aM
 | .bl false=>.ok (.bl false) aM
 | _=>.stuck
def lq(a b:Ev):Ev:=λenv=>bindR (a env) λc aM=>match c with
 | .bl true=>.ok (.bl true) aM
 | .bl false=>b aM
 | _=>.stuck
def zB(a:Ev):Ev:=λenv=>bindR (a env) λc aM=>match c with
 | .bl b=>.ok (.bl (!b)) aM
 | _=>.stuck
def Zx{op:BoolOp}{x:Expr}{a:Ev}(h:PX X C x a):PX X C (.BoolOp op [x] pos) a:=Z4 h
def ZL{x y:Expr}{rest:List Expr}{a b:Ev}(ha:PX X C x a)(hb:PX X C (.BoolOp .And (y::rest) pos) b):PX X C (.BoolOp .And (x::y::rest) pos) (jY a b):=
 (Z8 ha hb).imp λσ H Q hq=>by
  obtain⟨Pr,F,env,env',k,rl,e,q⟩:=hq;obtain⟨c,aM,e1,e2⟩:=aW e;refine⟨Pr,F,env,aM,c,rl,e1,λv H1 F1 r1 s1 p1=>?_⟩;cases c with
  | bl z=>
   refine⟨z,p1,?_⟩;cases z with
   | true=>exact aeC ⟨Pr,F1,aM,env',k,r1,e2,λv2 H2 F2 r2 s2 p2=>q v2 H2 F2 r2 (s1.trans s2) p2⟩
   | false=>cases e2;exact aeD (q _ H1 F1 r1 s1 rfl)
  | _=>cases e2
def adM{x y:Expr}{rest:List Expr}{a b:Ev}(ha:PX X C x a)(hb:PX X C (.BoolOp .Or (y::rest) pos) b):PX X C (.BoolOp .Or (x::y::rest) pos) (lq a b):=
 (adX ha hb).imp λσ H Q hq=>by
  obtain⟨Pr,F,env,env',k,rl,e,q⟩:=hq;obtain⟨c,aM,e1,e2⟩:=aW e;refine⟨Pr,F,env,aM,c,rl,e1,λv H1 F1 r1 s1 p1=>?_⟩;cases c with
  | bl z=>
   refine⟨z,p1,?_⟩;cases z with
   | true=>cases e2;exact aeC (q _ H1 F1 r1 s1 rfl)
   | false=>exact aeD ⟨Pr,F1,aM,env',k,r1,e2,λv2 H2 F2 r2 s2 p2=>q v2 H2 F2 r2 (s1.trans s2) p2⟩
  | _=>cases e2
def Zy{x:Expr}{a:Ev}(ha:PX X C x a):PX X C (.UnaryOp .Not x pos) (zB a):=(Z5 ha).imp λσ H Q hq=>by
 obtain⟨Pr,F,env,env',k,rl,e,q⟩:=hq;obtain⟨c,aM,e1,e2⟩:=aW e;refine⟨Pr,F,env,aM,c,rl,e1,λv H1 F1 r1 s1 p1=>?_⟩;cases c with
 | bl z=>cases e2;exact⟨z,p1,q _ H1 F1 r1 s1 rfl⟩
 | _=>cases e2
def Wk(t:d8)(a b:Ev):Ev:=λenv=>bindR (t env) λc aM=>if c=true then a aM else b aM
def adQ{c x y:Expr}{t:d8}{a b:Ev}(hc:Hx X C c t)(ha:PX X C x a)(hb:PX X C y b):PX X C (.IfExp c x y pos) (Wk t a b):=(Rb hc ha hb).imp λσ H Q hq=>by
 obtain⟨Pr,F,env,env',k,rl,e,q⟩:=hq;obtain⟨z,aM,e1,e2⟩:=aW e;refine⟨Pr,F,env,aM,z,rl,e1,λH1 F1 r1 s1=>?_⟩;split at e2
 ·rename_i hz;rw[if_pos hz];exact⟨Pr,F1,aM,env',k,r1,e2,λv2 H2 F2 r2 s2 p2=>q v2 H2 F2 r2 (s1.trans s2) p2⟩
 ·rename_i hz;rw[if_neg hz];exact⟨Pr,F1,aM,env',k,r1,e2,λv2 H2 F2 r2 s2 p2=>q v2 H2 F2 r2 (s1.trans s2) p2⟩
end
def yq(f:D->D->Option Bool):List D->List D->Option Bool
 | [],[]=>some true
 | x::xs,y::ys=>match f x y,yq f xs ys with
  | some a,some b=>some (a&&b)
  | _,_=>none
 | [],_::_=>some false
 | _::_,[]=>some false
def bG:Nat->D->D->Option Bool
 | 0,_,_=>none
 | n+1,.tup xs,.tup ys=>yq (bG n) xs ys
 | n+1,.lst xs,.lst ys=>yq (bG n) xs ys
 | _+1,.dct _,_=>none
 | _+1,.gR _,_=>none
 | _+1,.clo _ _,_=>none
 | _+1,_,.dct _=>none
 | _+1,_,.gR _=>none
 | _+1,_,.clo _ _=>none
 | _+1,.arr _,_=>none
 | _+1,_,.arr _=>none
 | _+1,.non,.non=>some true
 | _+1,.bl a,.bl b=>some (a == b)
 | _+1,.bl a,.int b=>some ((if a then 1 else 0) == b)
 | _+1,.int a,.bl b=>some (a == (if b then 1 else 0))
 | _+1,.int a,.int b=>some (a == b)
 | _+1,.str a,.str b=>some (a == b)
 | _+1,_,_=>some false
mutual
def Sh(h:Heap):D->Value->Prop
 | .non,u=>u = .none
 | .bl b,u=>u = .bool b
 | .int i,u=>∃t,u = .int i t
 | .str x,u=>∃t,u = .str (strOf x) t
 | .tup xs,u=>∃a its,u = .ref a/\IsTup h a its.toArray/\Cq h xs its
 | .lst xs,u=>∃a its,u = .ref a/\PlainL h a its.toArray/\Cq h xs its
 | .arr xs,u=>∃a its,u = .ref a/\PlainL h a its.toArray/\Cq h xs its
 | .dct _,u=>∃a o,u = .ref a/\h.get? a=some o/\o.ExactDict
 | .gR _,u=>∃a o,u = .ref a/\h.get? a=some o/\o.ExactDict
 | .clo _ _,u=>∃a,u = .ref a
def Cq(h:Heap):List D->List Value->Prop
 | [],us=>us=[]
 | d::ds,us=>∃u r,us=u::r/\Sh h d u/\Cq h ds r
end
theorem Cq.length{h:Heap}:∀{ds:List D} {us:List Value},Cq h ds us->us.length=ds.length
 | [],_,e=>by cases e;rfl
 | d::ds,us,e=>by obtain⟨u,r,rfl,_,h2⟩:=e;rw[List.length_cons,List.length_cons,h2.length]
section
variable{X:Cx}{pins:List (Addr×Obj)}{σ:L2.St}{H:Hp}{s:Shared}
mutual
theorem Rep.sh(I:Inv X pins σ H s):∀(d:D) (v:V) (u:Value),Rep X.K H d v->RelV v u->Sh s.heap d u
 | .non,_,_,h,r=>by cases h;exact r
 | .bl _,_,_,h,r=>by cases h;exact r
 | .int _,_,_,h,r=>by cases h;exact r
 | .str _,_,_,h,r=>by obtain⟨h,_⟩:=h;cases h;exact r
 | .tup xs,v,u,h,r=>by
  obtain⟨z,a,vs,rfl,h1,h2⟩:=h;cases r;obtain⟨its,rv,p,_⟩:=I.tuple h1;exact⟨a,its,rfl,p,bT.sh I xs vs its h2 rv⟩
 | .lst xs,v,u,h,r=>by
  obtain⟨z,a,vs,rfl,h1,h2⟩:=h;cases r;obtain⟨its,rv,p,_⟩:=I.list (n8.of h1);exact⟨a,its,rfl,p,bT.sh I xs vs its h2 rv⟩
 | .arr xs,v,u,h,r=>by
  obtain⟨z,a,vs,rfl,h1,h2⟩:=h;cases r;obtain⟨its,rv,p,_⟩:=I.list h1;exact⟨a,its,rfl,p,bT.sh I xs vs its h2 rv⟩
 | .dct kvs,v,u,h,r=>by
  obtain⟨z,a,ks,rfl,h1,h2⟩:=h;cases r;obtain⟨_,_,vs,_,o,_,_,e,ex,_⟩:=h1.ok I.hok;exact⟨a,o,rfl,e,ex⟩
 | .gR kvs,v,u,h,r=>by
  obtain⟨z,a,ks,rfl,h1,h2⟩:=h;cases r;obtain⟨_,_,vs,_,o,_,_,e,ex,_⟩:=h1.ok I.hok;exact⟨a,o,rfl,e,ex⟩
 | .clo st ds,v,u,h,r=>by
  obtain⟨a,vs,rfl,h1,h2⟩:=h;cases r;exact⟨a,rfl⟩
theorem bT.sh(I:Inv X pins σ H s):∀(ds:List D) (vs:List V) (us:List Value),bT X.K H ds vs->Vals vs us->Cq s.heap ds us
 | [],_,_,h,r=>by cases h;cases r;exact rfl
 | d::ds,vs,us,h,r=>by
  obtain⟨v,rr,rfl,h1,h2⟩:=h;cases r with
  | cons q qs=>exact⟨_,_,rfl,Rep.sh I d v _ h1 q,bT.sh I ds rr _ h2 qs⟩
end
end
def Kp{h:Heap}{a:Addr}{xs ys:Array Value}(p:IsTup h a xs)(q:IsTup h a ys):xs=ys:=by obtain⟨o,e,_,n,d⟩:=p;obtain⟨o',e',_,n',d'⟩:=q;rw[e] at e';cases e';rw[d] at d';cases d';rfl
def K1{h:Heap}{a:Addr}{xs ys:Array Value}(p:PlainL h a xs)(q:PlainL h a ys):xs=ys:=by obtain⟨o,e,_,n,d⟩:=p.isList;obtain⟨o',e',_,n',d'⟩:=q.isList;rw[e] at e';cases e';rw[d] at d';cases d';rfl
def xX{h:Heap}{a:Addr}{xs ys:Array Value}(p:IsTup h a xs)(q:PlainL h a ys):False:=by obtain⟨o,e,c,n,d⟩:=p;obtain⟨o',e',c',n',d'⟩:=q.isList;rw[e] at e';cases e';rw[c] at c';simp at c'
theorem zG{h:Heap}:∀(n:Nat) (d e:D) (u:Value) (b:Bool),Sh h d u->Sh h e u->bG n d e=some b->b=true
 | 0,_,_,_,_,_,_,hb=>by simp[bG] at hb
 | n+1,d,e,u,b,hd,he,hb=>by
  have all:∀(xs ys:List D) (us:List Value) (b:Bool),Cq h xs us->Cq h ys us->yq (bG n) xs ys=some b->b=true:=by
   intro xs
   induction xs with
   | nil=>
    intro ys us b h1 h2 hb;cases h1;cases ys with
    | nil=>simp[yq] at hb;exact hb
    | cons y ys=>obtain⟨u,r,q,_⟩:=h2;cases q
   | cons x xs ih=>
    intro ys us b h1 h2 hb;obtain⟨u,r,rfl,h3,h4⟩:=h1;cases ys with
    | nil=>cases h2
    | cons y ys=>
     obtain⟨u',r',q,h5,h6⟩:=h2;cases q;unfold yq at hb;cases q1:bG n x y with
     | none=>rw[q1] at hb;simp at hb
     | some c=>
      cases q2:yq (bG n) xs ys with
      | none=>rw[q1,q2] at hb;simp at hb
      | some c'=>
       rw[q1,q2] at hb;have e1:=zG n x y u c h3 h5 q1;have e2:=ih ys r c' h4 h6 q2;subst e1 e2;simp at hb;exact hb
  cases d with
  | non=>cases hd;cases e<;>simp[Sh] at he;simp[bG] at hb;exact hb
  | bl c=>cases hd;cases e<;>simp[Sh] at he;subst he;simp[bG] at hb;exact hb
  | int i=>obtain⟨t,rfl⟩:=hd;cases e<;>simp[Sh] at he;subst he;simp[bG] at hb;exact hb
  | str x=>
   obtain⟨t,rfl⟩:=hd;cases e with
   | str y=>
    obtain⟨t',q⟩:=he;injection q with q1 _
    unfold strOf at q1;injection q1 with q2
    have q3:=congrArg Array.toList q2;simp at q3;subst q3;simp[bG] at hb;exact hb
   | _=>simp[Sh] at he
  | tup xs=>
   obtain⟨a,its,rfl,p,hs⟩:=hd;cases e with
   | tup ys=>
    obtain⟨a',its',q,p',hs'⟩:=he;cases q;have e2:its=its':=by simpa using Kp p p'
    subst e2;exact all xs ys its b hs hs' (by simpa only[bG] using hb)
   | lst ys=>
    obtain⟨a',its',q,p',hs'⟩:=he;cases q;exact(xX p p').elim
   | dct kvs=>simp[bG] at hb
   | gR kvs=>simp[bG] at hb
   | clo _ _=>simp[bG] at hb
   | arr kvs=>simp[bG] at hb
   | _=>simp[Sh] at he
  | lst xs=>
   obtain⟨a,its,rfl,p,hs⟩:=hd;cases e with
   | lst ys=>
    obtain⟨a',its',q,p',hs'⟩:=he;cases q;have e2:its=its':=by simpa using K1 p p'
    subst e2;exact all xs ys its b hs hs' (by simpa only[bG] using hb)
   | tup ys=>
    obtain⟨a',its',q,p',hs'⟩:=he;cases q;exact(xX p' p).elim
   | dct kvs=>simp[bG] at hb
   | gR kvs=>simp[bG] at hb
   | clo _ _=>simp[bG] at hb
   | arr kvs=>simp[bG] at hb
   | _=>simp[Sh] at he
  | dct kvs=>cases e<;>simp[bG] at hb
  | gR kvs=>cases e<;>simp[bG] at hb
  | clo _ _=>cases e<;>simp[bG] at hb
  | arr kvs=>cases e<;>simp[bG] at hb
theorem Ln{h:Heap}:∀(n:Nat) (d d' e:D) (u:Value) (b b':Bool),Sh h d u->Sh h d' u->bG n d e=some b->bG n d' e=some b'->b=b'
 | 0,_,_,_,_,_,_,_,_,hb,_=>by simp[bG] at hb
 | n+1,d,d',e,u,b,b',hd,hd',hb,hb'=>by
  have all:∀(xs xs' ys:List D) (us:List Value) (b b':Bool),Cq h xs us->Cq h xs' us->yq (bG n) xs ys=some b->yq (bG n) xs' ys=some b'->b=b':=by
   intro xs
   induction xs with
   | nil=>
    intro xs' ys us b b' h1 h2 hb hb';cases h1;cases xs' with
    | nil=>rw[hb] at hb';exact Option.some.inj hb'
    | cons y ys=>obtain⟨u,r,q,_⟩:=h2;cases q
   | cons x xs ih=>
    intro xs' ys us b b' h1 h2 hb hb';obtain⟨u,r,rfl,h3,h4⟩:=h1;cases xs' with
    | nil=>cases h2
    | cons x' xs'=>
     obtain⟨u',r',q,h5,h6⟩:=h2;cases q;cases ys with
     | nil=>simp[yq] at hb hb';rw[hb,hb']
     | cons y ys=>
      unfold yq at hb hb';cases q1:bG n x y with
      | none=>rw[q1] at hb;simp at hb
      | some c=>
       cases q2:yq (bG n) xs ys with
       | none=>rw[q1,q2] at hb;simp at hb
       | some c2=>
        cases q3:bG n x' y with
        | none=>rw[q3] at hb';simp at hb'
        | some c3=>
         cases q4:yq (bG n) xs' ys with
         | none=>rw[q3,q4] at hb';simp at hb'
         | some c4=>
          rw[q1,q2] at hb;rw[q3,q4] at hb';have e1:=Ln n x x' y u c c3 h3 h5 q1 q3;have e2:=ih xs' ys r c2 c4 h4 h6 q2 q4;subst e1 e2;simp at hb hb';rw[<-hb,<-hb']
  cases d with
  | non=>cases hd;cases d'<;>simp[Sh] at hd';rw[hb] at hb';exact Option.some.inj hb'
  | bl c=>cases hd;cases d'<;>simp[Sh] at hd';subst hd';rw[hb] at hb';exact Option.some.inj hb'
  | int i=>obtain⟨t,rfl⟩:=hd;cases d'<;>simp[Sh] at hd';subst hd';rw[hb] at hb';exact Option.some.inj hb'
  | str x=>
   obtain⟨t,rfl⟩:=hd;cases d' with
   | str y=>
    obtain⟨t',q⟩:=hd';injection q with q1 _
    unfold strOf at q1;injection q1 with q2
    have q3:=congrArg Array.toList q2;simp at q3;subst q3;rw[hb] at hb';exact Option.some.inj hb'
   | _=>simp[Sh] at hd'
  | tup xs=>
   obtain⟨a,its,rfl,p,hs⟩:=hd;cases d' with
   | tup xs'=>
    obtain⟨a',its',q,p',hs'⟩:=hd';cases q;have e2:its=its':=by simpa using Kp p p'
    subst e2;cases e with
    | tup ys=>exact all xs xs' ys its b b' hs hs' (by simpa only[bG] using hb) (by simpa only[bG] using hb')
    | _=>first|(simp[bG] at hb;done)|(simp only[bG,Option.some.injEq] at hb hb';rw[<-hb,<-hb'])
   | lst ys=>
    obtain⟨a',its',q,p',hs'⟩:=hd';cases q;exact(xX p p').elim
   | dct kvs=>cases e<;>simp[bG] at hb'
   | gR kvs=>cases e<;>simp[bG] at hb'
   | clo _ _=>cases e<;>simp[bG] at hb'
   | arr kvs=>cases e<;>simp[bG] at hb'
   | _=>simp[Sh] at hd'
  | lst xs=>
   obtain⟨a,its,rfl,p,hs⟩:=hd;cases d' with
   | lst xs'=>
    obtain⟨a',its',q,p',hs'⟩:=hd';cases q;have e2:its=its':=by simpa using K1 p p'
    subst e2;cases e with
    | lst ys=>exact all xs xs' ys its b b' hs hs' (by simpa only[bG] using hb) (by simpa only[bG] using hb')
    | _=>first|(simp[bG] at hb;done)|(simp only[bG,Option.some.injEq] at hb hb';rw[<-hb,<-hb'])
   | tup ys=>
    obtain⟨a',its',q,p',hs'⟩:=hd';cases q;exact(xX p' p).elim
   | dct kvs=>cases e<;>simp[bG] at hb'
   | gR kvs=>cases e<;>simp[bG] at hb'
   | clo _ _=>cases e<;>simp[bG] at hb'
   | arr kvs=>cases e<;>simp[bG] at hb'
   | _=>simp[Sh] at hd'
  | dct kvs=>cases e<;>simp[bG] at hb
  | gR kvs=>cases e<;>simp[bG] at hb
  | clo _ _=>cases e<;>simp[bG] at hb
  | arr kvs=>cases e<;>simp[bG] at hb
def vG(x y:List Nat):(strOf x == strOf y)=(x == y):=by
 rw[Bool.eq_iff_iff];simp only[beq_iff_eq];constructor
 ·intro e;unfold strOf at e;injection e with e
  simpa using congrArg Array.toList e
 ·intro e;rw[e]
theorem yp:∀{f:D->D->Option Bool} {xs ys:List D},xs.length≠ys.length->∀b,yq f xs ys=some b->b=false
 | f,[],[],h,b,e=>absurd rfl h
 | f,[],_::_,_,b,e=>by simp[yq] at e;exact e
 | f,_::_,[],_,b,e=>by simp[yq] at e;exact e
 | f,x::xs,y::ys,h,b,e=>by
  unfold yq at e;cases h1:f x y with
  | none=>rw[h1] at e;simp at e
  | some c=>
   cases h2:yq f xs ys with
   | none=>rw[h1,h2] at e;simp at e
   | some d=>
    rw[h1,h2] at e;have:=yp (f:=f) (xs:=xs) (ys:=ys) (by simpa using h) d h2;subst this;simp at e;exact e
theorem tD:∀{f:D->D->Option Bool} (xs ys:List D) (b:Bool),yq f xs ys=some b->∃e:Nat->Bool,(∀(j:Nat) (x y:D),xs[j]? = some x->ys[j]? = some y->f x y=some (e j))/\b=((List.range (min xs.length ys.length)).all e&&xs.length == ys.length)
 | f,[],ys,b,h=>by
  refine⟨λ_=>true,λj x y hx=>by simp at hx,?_⟩;cases ys with
  | nil=>simp[yq] at h;simp[h.symm]
  | cons y ys=>simp[yq] at h;simp[h.symm]
 | f,x::xs,[],b,h=>by
  refine⟨λ_=>true,λj x y _ hy=>by simp at hy,?_⟩;simp[yq] at h;simp[h.symm]
 | f,x::xs,y::ys,b,h=>by
  unfold yq at h;cases h1:f x y with
  | none=>rw[h1] at h;simp at h
  | some c=>
   cases h2:yq f xs ys with
   | none=>rw[h1,h2] at h;simp at h
   | some d=>
    rw[h1,h2] at h;obtain⟨e,he,hd⟩:=tD xs ys d h2;refine⟨λj=>match j with|0=>c|j+1=>e j,λj x' y' hx hy=>?_,?_⟩
    ·cases j with
     | zero=>simp at hx hy;subst hx hy;exact h1
     | succ j=>exact he j x' y' (by simpa using hx) (by simpa using hy)
    ·have hb:b=(c&&d):=by simpa using h.symm
     have hm:min (x::xs).length (y::ys).length=min xs.length ys.length+1:=by simp only[List.length_cons];omega
     rw[hb,hd,hm,List.range_succ_eq_map,List.all_cons,List.all_map,Bool.and_assoc];have hl:((x::xs).length == (y::ys).length)=(xs.length == ys.length):=by simp
     rw[hl]
     rfl
theorem mD{h:Heap}:∀{ds:List D} {us:List Value} {j:Nat} {u:Value},Cq h ds us->us[j]? = some u->∃d,ds[j]? = some d/\Sh h d u
 | [],_,_,_,e,g=>by cases e;simp at g
 | d::ds,us,j,u,e,g=>by
  obtain⟨v,r,rfl,h1,h2⟩:=e;cases j with
  | zero=>simp at g;subst g;exact⟨d,rfl,h1⟩
  | succ j=>obtain⟨c,e1,e2⟩:=mD h2 (j:=j) (by simpa using g);exact⟨c,by simpa using e1,e2⟩
theorem DW:∀(n:Nat) (d e:D) (u v:Value) (b:Bool) (A:Around) (s:Shared),Sh s.heap d u->Sh s.heap e v->bG n d e=some b->A.units+n<cLine->SeqAt.EqAt A s u v b
 | 0,_,_,_,_,_,_,_,_,_,h,_=>by simp[bG] at h
 | n+1,d,e,u,v,b,A,s,hd,he,h,hu=>by
  have hu0:A.units<cLine:=by omega
  have hin:A.in1.units+n<cLine:=by show A.units+1+n<cLine;omega
  cases d with
  | non=>
   cases hd;cases e with
   | non=>cases he;simp[bG] at h;subst h;exact SeqAt.EqAt.same _
   | bl c=>cases he;simp[bG] at h;subst h;exact SeqAt.EqAt.none_bool c
   | int i=>obtain⟨t,rfl⟩:=he;simp[bG] at h;subst h;exact SeqAt.EqAt.none_int i t
   | str x=>obtain⟨t,rfl⟩:=he;simp[bG] at h;subst h;exact SeqAt.EqAt.none_str _ t
   | tup ys=>obtain⟨a,its,rfl,p,_⟩:=he;simp[bG] at h;subst h;exact SeqAt.EqAt.none_tuple p hu0
   | lst ys=>obtain⟨a,its,rfl,p,_⟩:=he;simp[bG] at h;subst h;exact SeqAt.EqAt.none_list p.isList hu0
   | dct kvs=>simp[bG] at h
   | gR kvs=>simp[bG] at h
   | clo _ _=>simp[bG] at h
   | arr kvs=>simp[bG] at h
  | bl c=>
   cases hd;cases e with
   | non=>cases he;simp[bG] at h;subst h;exact SeqAt.EqAt.bool_none c
   | bl c'=>cases he;simp only[bG,Option.some.injEq] at h;subst h;exact SeqAt.EqAt.bool_bool c c'
   | int i=>obtain⟨t,rfl⟩:=he;simp only[bG,Option.some.injEq] at h;subst h;exact SeqAt.EqAt.bool_int c i t
   | str x=>obtain⟨t,rfl⟩:=he;simp[bG] at h;subst h;exact SeqAt.EqAt.bool_str c _ t
   | tup ys=>obtain⟨a,its,rfl,p,_⟩:=he;simp[bG] at h;subst h;exact SeqAt.EqAt.bool_tuple c p hu0
   | lst ys=>obtain⟨a,its,rfl,p,_⟩:=he;simp[bG] at h;subst h;exact SeqAt.EqAt.bool_list c p.isList hu0
   | dct kvs=>simp[bG] at h
   | gR kvs=>simp[bG] at h
   | clo _ _=>simp[bG] at h
   | arr kvs=>simp[bG] at h
  | int i=>
   obtain⟨t',rfl⟩:=hd;cases e with
   | non=>cases he;simp[bG] at h;subst h;exact SeqAt.EqAt.int_none i t'
   | bl c'=>cases he;simp only[bG,Option.some.injEq] at h;subst h;exact SeqAt.EqAt.int_bool i t' c'
   | int j=>obtain⟨t,rfl⟩:=he;simp only[bG,Option.some.injEq] at h;subst h;exact SeqAt.EqAt.int_int i t' j t
   | str x=>obtain⟨t,rfl⟩:=he;simp[bG] at h;subst h;exact SeqAt.EqAt.int_str i t' _ t
   | tup ys=>obtain⟨a,its,rfl,p,_⟩:=he;simp[bG] at h;subst h;exact SeqAt.EqAt.int_tuple i t' p hu0
   | lst ys=>obtain⟨a,its,rfl,p,_⟩:=he;simp[bG] at h;subst h;exact SeqAt.EqAt.int_list i t' p.isList hu0
   | dct kvs=>simp[bG] at h
   | gR kvs=>simp[bG] at h
   | clo _ _=>simp[bG] at h
   | arr kvs=>simp[bG] at h
  | str x=>
   obtain⟨t',rfl⟩:=hd;cases e with
   | non=>cases he;simp[bG] at h;subst h;exact SeqAt.EqAt.str_none _ t'
   | bl c'=>cases he;simp[bG] at h;subst h;exact SeqAt.EqAt.str_bool _ t' c'
   | int j=>obtain⟨t,rfl⟩:=he;simp[bG] at h;subst h;exact SeqAt.EqAt.str_int _ t' j t
   | str y=>obtain⟨t,rfl⟩:=he;simp only[bG,Option.some.injEq] at h;subst h;rw[<-vG];exact SeqAt.EqAt.str_str _ t' _ t
   | tup ys=>obtain⟨a,its,rfl,p,_⟩:=he;simp[bG] at h;subst h;exact SeqAt.EqAt.str_tuple _ t' p hu0
   | lst ys=>obtain⟨a,its,rfl,p,_⟩:=he;simp[bG] at h;subst h;exact SeqAt.EqAt.str_list _ t' p.isList hu0
   | dct kvs=>simp[bG] at h
   | gR kvs=>simp[bG] at h
   | clo _ _=>simp[bG] at h
   | arr kvs=>simp[bG] at h
  | tup xs=>
   obtain⟨a,its,rfl,p,hs⟩:=hd;cases e with
   | non=>cases he;simp[bG] at h;subst h;exact SeqAt.EqAt.tuple_none p hu0
   | bl c'=>cases he;simp[bG] at h;subst h;exact SeqAt.EqAt.tuple_bool c' p hu0
   | int j=>obtain⟨t,rfl⟩:=he;simp[bG] at h;subst h;exact SeqAt.EqAt.tuple_int j t p hu0
   | str y=>obtain⟨t,rfl⟩:=he;simp[bG] at h;subst h;exact SeqAt.EqAt.tuple_str _ t p hu0
   | tup ys=>
    obtain⟨a',its',rfl,p',hs'⟩:=he;by_cases haa:a=a'
    ·subst haa;have:=zG (n+1) (.tup xs) (.tup ys) (.ref a) b ⟨a,its,rfl,p,hs⟩ ⟨a,its',rfl,p',hs'⟩ h;subst this;exact SeqAt.EqAt.same _
    ·simp only[bG] at h;obtain⟨f,hf,hb⟩:=tD xs ys b h;have l1:=hs.length;have l2:=hs'.length;refine SeqAt.EqAt.of_refs haa ?_;have:=SeqAt.RcAt.tuples (e:=f) p p' hu0 λj h1 h2=>?_
     ·rw[hb];simp only[List.size_toArray] at this;rw[l1,l2] at this;exact this
     ·have g1:its[j]? = some its.toArray[j]:=by simp at h1 ⊢
      have g2:its'[j]? = some its'.toArray[j]:=by simp at h2 ⊢
      obtain⟨x,q1,q2⟩:=mD hs g1;obtain⟨y,q3,q4⟩:=mD hs' g2;exact DW n x y _ _ _ A.in1 s q2 q4 (hf j x y q1 q3) hin
   | lst ys=>obtain⟨a',its',rfl,p',_⟩:=he;simp[bG] at h;subst h;exact SeqAt.EqAt.tuple_list p p'.isList hu0
   | dct kvs=>simp[bG] at h
   | gR kvs=>simp[bG] at h
   | clo _ _=>simp[bG] at h
   | arr kvs=>simp[bG] at h
  | lst xs=>
   obtain⟨a,its,rfl,p,hs⟩:=hd;cases e with
   | non=>cases he;simp[bG] at h;subst h;exact SeqAt.EqAt.list_none p.isList hu0
   | bl c'=>cases he;simp[bG] at h;subst h;exact SeqAt.EqAt.list_bool c' p.isList hu0
   | int j=>obtain⟨t,rfl⟩:=he;simp[bG] at h;subst h;exact SeqAt.EqAt.list_int j t p.isList hu0
   | str y=>obtain⟨t,rfl⟩:=he;simp[bG] at h;subst h;exact SeqAt.EqAt.list_str _ t p.isList hu0
   | lst ys=>
    obtain⟨a',its',rfl,p',hs'⟩:=he;have l1:=hs.length;have l2:=hs'.length;by_cases haa:a=a'
    ·subst haa;have:=zG (n+1) (.lst xs) (.lst ys) (.ref a) b ⟨a,its,rfl,p,hs⟩ ⟨a,its',rfl,p',hs'⟩ h;subst this;exact SeqAt.EqAt.same _
    ·simp only[bG] at h;refine SeqAt.EqAt.of_refs haa ?_;by_cases hl:xs.length=ys.length
     ·obtain⟨f,hf,hb⟩:=tD xs ys b h;have:=SeqAt.RcAt.lists (e:=f) p.isList p'.isList (by simp only[List.size_toArray];omega) hu0 λj h1 h2=>?_
      ·rw[hb,<-hl,Nat.min_self,beq_self_eq_true,Bool.and_true,<-l1];simp only[List.size_toArray] at this;exact this
      ·have g1:its[j]? = some its.toArray[j]:=by simp at h1 ⊢
       have g2:its'[j]? = some its'.toArray[j]:=by simp at h2 ⊢
       obtain⟨x,q1,q2⟩:=mD hs g1;obtain⟨y,q3,q4⟩:=mD hs' g2;exact DW n x y _ _ _ A.in1 s q2 q4 (hf j x y q1 q3) hin
     ·have:=yp hl b h;subst this;exact SeqAt.RcAt.lists_lengths p.isList p'.isList (by simp only[List.size_toArray];rw[l1,l2];simpa using hl) hu0
   | tup ys=>obtain⟨a',its',rfl,p',_⟩:=he;simp[bG] at h;subst h;exact SeqAt.EqAt.list_tuple p.isList p' hu0
   | dct kvs=>simp[bG] at h
   | gR kvs=>simp[bG] at h
   | clo _ _=>simp[bG] at h
   | arr kvs=>simp[bG] at h
  | dct kvs=>cases e<;>simp[bG] at h
  | gR kvs=>cases e<;>simp[bG] at h
  | clo _ _=>cases e<;>simp[bG] at h
  | arr kvs=>cases e<;>simp[bG] at h
def uE(n:Nat)(its its':List Value)(xs ys:List D)(f:Nat->Bool)(A:Around)(s:Shared)(hs:Cq s.heap xs its)(hs':Cq s.heap ys its')(hf:∀(j:Nat) (x y:D),xs[j]? = some x->ys[j]? = some y->bG n x y=some (f j))(hin:A.in1.units+n<cLine)
  (j:Nat) (h1:j<its.toArray.size) (h2:j<its'.toArray.size):SeqAt.EqAt A.in1 s its.toArray[j] its'.toArray[j] (f j):=by
 have g1:its[j]? = some its.toArray[j]:=by simp at h1 ⊢
 have g2:its'[j]? = some its'.toArray[j]:=by simp at h2 ⊢
 obtain⟨x,q1,q2⟩:=mD hs g1;obtain⟨y,q3,q4⟩:=mD hs' g2;exact DW n x y _ _ _ A.in1 s q2 q4 (hf j x y q1 q3) hin
def adu(n:Nat)(d e:D)(u v:Value)(b:Bool)(A:Around)(s:Shared)(hd:Sh s.heap d u)(he:Sh s.heap e v)(h:bG (n+1) d e=some b)(hu:A.units+(n+1)<cLine):SeqAt.RcAt A s u v b:=by
 have hu0:A.units<cLine:=by omega
 have hin:A.in1.units+n<cLine:=by show A.units+1+n<cLine;omega
 cases d with
 | non=>
  cases hd;cases e with
  | non=>
   cases he;simp[bG] at h;subst h;exact SeqAt.RcAt.none_none
  | bl c'=>
   cases he;simp[bG] at h;subst h;exact SeqAt.RcAt.none_bool c'
  | int j=>
   obtain⟨t,rfl⟩:=he;simp[bG] at h;subst h;exact SeqAt.RcAt.none_int j t
  | str y=>
   obtain⟨t,rfl⟩:=he;simp[bG] at h;subst h;exact SeqAt.RcAt.none_str _ t
  | tup ys=>
   obtain⟨a',its',rfl,p',hs'⟩:=he;simp[bG] at h;subst h;exact SeqAt.RcAt.none_tuple p' hu0
  | lst ys=>
   obtain⟨a',its',rfl,p',hs'⟩:=he;simp[bG] at h;subst h;exact SeqAt.RcAt.none_list p'.isList hu0
  | arr kvs=>
   simp[bG] at h
  | dct kvs=>
   simp[bG] at h
  | gR kvs=>
   simp[bG] at h
  | clo _ _=>
   simp[bG] at h
 | bl c=>
  cases hd;cases e with
  | non=>
   cases he;simp[bG] at h;subst h;exact SeqAt.RcAt.bool_none c
  | bl c'=>
   cases he;simp only[bG,Option.some.injEq] at h;subst h;exact SeqAt.RcAt.bool_bool c c'
  | int j=>
   obtain⟨t,rfl⟩:=he;simp only[bG,Option.some.injEq] at h;subst h;exact SeqAt.RcAt.bool_int c j t
  | str y=>
   obtain⟨t,rfl⟩:=he;simp[bG] at h;subst h;exact SeqAt.RcAt.bool_str c _ t
  | tup ys=>
   obtain⟨a',its',rfl,p',hs'⟩:=he;simp[bG] at h;subst h;exact SeqAt.RcAt.bool_tuple c p' hu0
  | lst ys=>
   obtain⟨a',its',rfl,p',hs'⟩:=he;simp[bG] at h;subst h;exact SeqAt.RcAt.bool_list c p'.isList hu0
  | arr kvs=>
   simp[bG] at h
  | dct kvs=>
   simp[bG] at h
  | gR kvs=>
   simp[bG] at h
  | clo _ _=>
   simp[bG] at h
 | int i=>
  obtain⟨t',rfl⟩:=hd;cases e with
  | non=>
   cases he;simp[bG] at h;subst h;exact SeqAt.RcAt.int_none i t'
  | bl c'=>
   cases he;simp only[bG,Option.some.injEq] at h;subst h;exact SeqAt.RcAt.int_bool i t' c'
  | int j=>
   obtain⟨t,rfl⟩:=he;simp only[bG,Option.some.injEq] at h;subst h;exact SeqAt.RcAt.int_int i t' j t
  | str y=>
   obtain⟨t,rfl⟩:=he;simp[bG] at h;subst h;exact SeqAt.RcAt.int_str i t' _ t
  | tup ys=>
   obtain⟨a',its',rfl,p',hs'⟩:=he;simp[bG] at h;subst h;exact SeqAt.RcAt.int_tuple i t' p' hu0
  | lst ys=>
   obtain⟨a',its',rfl,p',hs'⟩:=he;simp[bG] at h;subst h;exact SeqAt.RcAt.int_list i t' p'.isList hu0
  | arr kvs=>
   simp[bG] at h
  | dct kvs=>
   simp[bG] at h
  | gR kvs=>
   simp[bG] at h
  | clo _ _=>
   simp[bG] at h
 | str x=>
  obtain⟨t',rfl⟩:=hd;cases e with
  | non=>
   cases he;simp[bG] at h;subst h;exact SeqAt.RcAt.str_none _ t'
  | bl c'=>
   cases he;simp[bG] at h;subst h;exact SeqAt.RcAt.str_bool _ t' c'
  | int j=>
   obtain⟨t,rfl⟩:=he;simp[bG] at h;subst h;exact SeqAt.RcAt.str_int _ t' j t
  | str y=>
   obtain⟨t,rfl⟩:=he;simp only[bG,Option.some.injEq] at h;subst h;rw[<-vG];exact SeqAt.RcAt.str_str _ t' _ t
  | tup ys=>
   obtain⟨a',its',rfl,p',hs'⟩:=he;simp[bG] at h;subst h;exact SeqAt.RcAt.str_tuple _ t' p' hu0
  | lst ys=>
   obtain⟨a',its',rfl,p',hs'⟩:=he;simp[bG] at h;subst h;exact SeqAt.RcAt.str_list _ t' p'.isList hu0
  | arr kvs=>
   simp[bG] at h
  | dct kvs=>
   simp[bG] at h
  | gR kvs=>
   simp[bG] at h
  | clo _ _=>
   simp[bG] at h
 | tup xs=>
  obtain⟨a,its,rfl,p,hs⟩:=hd;cases e with
  | non=>
   cases he;simp[bG] at h;subst h;exact SeqAt.RcAt.tuple_none p hu0
  | bl c'=>
   cases he;simp[bG] at h;subst h;exact SeqAt.RcAt.tuple_bool c' p hu0
  | int j=>
   obtain⟨t,rfl⟩:=he;simp[bG] at h;subst h;exact SeqAt.RcAt.tuple_int j t p hu0
  | str y=>
   obtain⟨t,rfl⟩:=he;simp[bG] at h;subst h;exact SeqAt.RcAt.tuple_str _ t p hu0
  | tup ys=>
   obtain⟨a',its',rfl,p',hs'⟩:=he;simp only[bG] at h;have l1:=hs.length;have l2:=hs'.length;obtain⟨f,hf,hb⟩:=tD xs ys b h;have:=SeqAt.RcAt.tuples (e:=f) p p' hu0 λj h1 h2=>?_
   ·rw[hb];simp only[List.size_toArray] at this;rw[l1,l2] at this;exact this
   ·exact uE n its its' xs ys f A s hs hs' hf hin j h1 h2
  | lst ys=>
   obtain⟨a',its',rfl,p',hs'⟩:=he;simp[bG] at h;subst h;exact SeqAt.RcAt.tuple_list p p'.isList hu0
  | arr kvs=>
   simp[bG] at h
  | dct kvs=>
   simp[bG] at h
  | gR kvs=>
   simp[bG] at h
  | clo _ _=>
   simp[bG] at h
 | lst xs=>
  obtain⟨a,its,rfl,p,hs⟩:=hd;cases e with
  | non=>
   cases he;simp[bG] at h;subst h;exact SeqAt.RcAt.list_none p.isList hu0
  | bl c'=>
   cases he;simp[bG] at h;subst h;exact SeqAt.RcAt.list_bool c' p.isList hu0
  | int j=>
   obtain⟨t,rfl⟩:=he;simp[bG] at h;subst h;exact SeqAt.RcAt.list_int j t p.isList hu0
  | str y=>
   obtain⟨t,rfl⟩:=he;simp[bG] at h;subst h;exact SeqAt.RcAt.list_str _ t p.isList hu0
  | tup ys=>
   obtain⟨a',its',rfl,p',hs'⟩:=he;simp[bG] at h;subst h;exact SeqAt.RcAt.list_tuple p.isList p' hu0
  | lst ys=>
   obtain⟨a',its',rfl,p',hs'⟩:=he;simp only[bG] at h;have l1:=hs.length;have l2:=hs'.length;by_cases hl:xs.length=ys.length
   ·obtain⟨f,hf,hb⟩:=tD xs ys b h;have:=SeqAt.RcAt.lists (e:=f) p.isList p'.isList (by simp only[List.size_toArray];omega) hu0 λj h1 h2=>?_
    ·rw[hb,<-hl,Nat.min_self,beq_self_eq_true,Bool.and_true,<-l1];simp only[List.size_toArray] at this;exact this
    ·exact uE n its its' xs ys f A s hs hs' hf hin j h1 h2
   ·have:=yp hl b h;subst this;exact SeqAt.RcAt.lists_lengths p.isList p'.isList (by simp only[List.size_toArray];rw[l1,l2];simpa using hl) hu0
  | arr kvs=>
   simp[bG] at h
  | dct kvs=>
   simp[bG] at h
  | gR kvs=>
   simp[bG] at h
  | clo _ _=>
   simp[bG] at h
 | arr kvs=>
  cases e<;>simp[bG] at h
 | dct kvs=>
  cases e<;>simp[bG] at h
 | gR kvs=>
  cases e<;>simp[bG] at h
 | clo _ _=>
  cases e<;>simp[bG] at h
def U3(n:Nat)(d e:D)(u v:Value)(b:Bool)(A:Around)(s:Shared)(hd:Sh s.heap d u)(he:Sh s.heap e v)(h:bG (n+1) d e=some b)(hu:A.units+(n+1)<cLine):SeqAt.RcNeAt A s u v (!b):=by
 have hu0:A.units<cLine:=by omega
 have hin:A.in1.units+n<cLine:=by show A.units+1+n<cLine;omega
 cases d with
 | non=>
  cases hd;cases e with
  | non=>
   cases he;simp[bG] at h;subst h;exact SeqAt.RcNeAt.none_none
  | bl c'=>
   cases he;simp[bG] at h;subst h;exact SeqAt.RcNeAt.none_bool c'
  | int j=>
   obtain⟨t,rfl⟩:=he;simp[bG] at h;subst h;exact SeqAt.RcNeAt.none_int j t
  | str y=>
   obtain⟨t,rfl⟩:=he;simp[bG] at h;subst h;exact SeqAt.RcNeAt.none_str _ t
  | tup ys=>
   obtain⟨a',its',rfl,p',hs'⟩:=he;simp[bG] at h;subst h;exact SeqAt.RcNeAt.none_tuple p' hu0
  | lst ys=>
   obtain⟨a',its',rfl,p',hs'⟩:=he;simp[bG] at h;subst h;exact SeqAt.RcNeAt.none_list p'.isList hu0
  | arr kvs=>
   simp[bG] at h
  | dct kvs=>
   simp[bG] at h
  | gR kvs=>
   simp[bG] at h
  | clo _ _=>
   simp[bG] at h
 | bl c=>
  cases hd;cases e with
  | non=>
   cases he;simp[bG] at h;subst h;exact SeqAt.RcNeAt.bool_none c
  | bl c'=>
   cases he;simp only[bG,Option.some.injEq] at h;subst h;exact SeqAt.RcNeAt.bool_bool c c'
  | int j=>
   obtain⟨t,rfl⟩:=he;simp only[bG,Option.some.injEq] at h;subst h;exact SeqAt.RcNeAt.bool_int c j t
  | str y=>
   obtain⟨t,rfl⟩:=he;simp[bG] at h;subst h;exact SeqAt.RcNeAt.bool_str c _ t
  | tup ys=>
   obtain⟨a',its',rfl,p',hs'⟩:=he;simp[bG] at h;subst h;exact SeqAt.RcNeAt.bool_tuple c p' hu0
  | lst ys=>
   obtain⟨a',its',rfl,p',hs'⟩:=he;simp[bG] at h;subst h;exact SeqAt.RcNeAt.bool_list c p'.isList hu0
  | arr kvs=>
   simp[bG] at h
  | dct kvs=>
   simp[bG] at h
  | gR kvs=>
   simp[bG] at h
  | clo _ _=>
   simp[bG] at h
 | int i=>
  obtain⟨t',rfl⟩:=hd;cases e with
  | non=>
   cases he;simp[bG] at h;subst h;exact SeqAt.RcNeAt.int_none i t'
  | bl c'=>
   cases he;simp only[bG,Option.some.injEq] at h;subst h;exact SeqAt.RcNeAt.int_bool i t' c'
  | int j=>
   obtain⟨t,rfl⟩:=he;simp only[bG,Option.some.injEq] at h;subst h;exact SeqAt.RcNeAt.int_int i t' j t
  | str y=>
   obtain⟨t,rfl⟩:=he;simp[bG] at h;subst h;exact SeqAt.RcNeAt.int_str i t' _ t
  | tup ys=>
   obtain⟨a',its',rfl,p',hs'⟩:=he;simp[bG] at h;subst h;exact SeqAt.RcNeAt.int_tuple i t' p' hu0
  | lst ys=>
   obtain⟨a',its',rfl,p',hs'⟩:=he;simp[bG] at h;subst h;exact SeqAt.RcNeAt.int_list i t' p'.isList hu0
  | arr kvs=>
   simp[bG] at h
  | dct kvs=>
   simp[bG] at h
  | gR kvs=>
   simp[bG] at h
  | clo _ _=>
   simp[bG] at h
 | str x=>
  obtain⟨t',rfl⟩:=hd;cases e with
  | non=>
   cases he;simp[bG] at h;subst h;exact SeqAt.RcNeAt.str_none _ t'
  | bl c'=>
   cases he;simp[bG] at h;subst h;exact SeqAt.RcNeAt.str_bool _ t' c'
  | int j=>
   obtain⟨t,rfl⟩:=he;simp[bG] at h;subst h;exact SeqAt.RcNeAt.str_int _ t' j t
  | str y=>
   obtain⟨t,rfl⟩:=he;simp only[bG,Option.some.injEq] at h;subst h;rw[<-vG];exact SeqAt.RcNeAt.str_str _ t' _ t
  | tup ys=>
   obtain⟨a',its',rfl,p',hs'⟩:=he;simp[bG] at h;subst h;exact SeqAt.RcNeAt.str_tuple _ t' p' hu0
  | lst ys=>
   obtain⟨a',its',rfl,p',hs'⟩:=he;simp[bG] at h;subst h;exact SeqAt.RcNeAt.str_list _ t' p'.isList hu0
  | arr kvs=>
   simp[bG] at h
  | dct kvs=>
   simp[bG] at h
  | gR kvs=>
   simp[bG] at h
  | clo _ _=>
   simp[bG] at h
 | tup xs=>
  obtain⟨a,its,rfl,p,hs⟩:=hd;cases e with
  | non=>
   cases he;simp[bG] at h;subst h;exact SeqAt.RcNeAt.tuple_none p hu0
  | bl c'=>
   cases he;simp[bG] at h;subst h;exact SeqAt.RcNeAt.tuple_bool c' p hu0
  | int j=>
   obtain⟨t,rfl⟩:=he;simp[bG] at h;subst h;exact SeqAt.RcNeAt.tuple_int j t p hu0
  | str y=>
   obtain⟨t,rfl⟩:=he;simp[bG] at h;subst h;exact SeqAt.RcNeAt.tuple_str _ t p hu0
  | tup ys=>
   obtain⟨a',its',rfl,p',hs'⟩:=he;simp only[bG] at h;have l1:=hs.length;have l2:=hs'.length;obtain⟨f,hf,hb⟩:=tD xs ys b h;have:=SeqAt.RcNeAt.tuples (e:=f) p p' hu0 λj h1 h2=>?_
   ·rw[hb];simp only[List.size_toArray] at this;rw[l1,l2] at this;exact this
   ·exact uE n its its' xs ys f A s hs hs' hf hin j h1 h2
  | lst ys=>
   obtain⟨a',its',rfl,p',hs'⟩:=he;simp[bG] at h;subst h;exact SeqAt.RcNeAt.tuple_list p p'.isList hu0
  | arr kvs=>
   simp[bG] at h
  | dct kvs=>
   simp[bG] at h
  | gR kvs=>
   simp[bG] at h
  | clo _ _=>
   simp[bG] at h
 | lst xs=>
  obtain⟨a,its,rfl,p,hs⟩:=hd;cases e with
  | non=>
   cases he;simp[bG] at h;subst h;exact SeqAt.RcNeAt.list_none p.isList hu0
  | bl c'=>
   cases he;simp[bG] at h;subst h;exact SeqAt.RcNeAt.list_bool c' p.isList hu0
  | int j=>
   obtain⟨t,rfl⟩:=he;simp[bG] at h;subst h;exact SeqAt.RcNeAt.list_int j t p.isList hu0
  | str y=>
   obtain⟨t,rfl⟩:=he;simp[bG] at h;subst h;exact SeqAt.RcNeAt.list_str _ t p.isList hu0
  | tup ys=>
   obtain⟨a',its',rfl,p',hs'⟩:=he;simp[bG] at h;subst h;exact SeqAt.RcNeAt.list_tuple p.isList p' hu0
  | lst ys=>
   obtain⟨a',its',rfl,p',hs'⟩:=he;simp only[bG] at h;have l1:=hs.length;have l2:=hs'.length;by_cases hl:xs.length=ys.length
   ·obtain⟨f,hf,hb⟩:=tD xs ys b h;have:=SeqAt.RcNeAt.lists (e:=f) p.isList p'.isList (by simp only[List.size_toArray];omega) hu0 λj h1 h2=>?_
    ·rw[hb,<-hl,Nat.min_self,beq_self_eq_true,Bool.and_true,<-l1];simp only[List.size_toArray] at this;exact this
    ·exact uE n its its' xs ys f A s hs hs' hf hin j h1 h2
   ·have:=yp hl b h;subst this;exact SeqAt.RcNeAt.lists_lengths p.isList p'.isList (by simp only[List.size_toArray];rw[l1,l2];simpa using hl) hu0
  | arr kvs=>
   simp[bG] at h
  | dct kvs=>
   simp[bG] at h
  | gR kvs=>
   simp[bG] at h
  | clo _ _=>
   simp[bG] at h
 | arr kvs=>
  cases e<;>simp[bG] at h
 | dct kvs=>
  cases e<;>simp[bG] at h
 | gR kvs=>
  cases e<;>simp[bG] at h
 | clo _ _=>
  cases e<;>simp[bG] at h
section
variable{X:Cx}{C:Cfg}
def adG(K:Fg):R2:=λx y H Q=>∃dx dy b,Rep K H dx x/\Rep K H dy y/\bG 60 dx dy=some b/\Q (.bl b) H
def ady(K:Fg):R2:=λx y H Q=>∃dx dy b,Rep K H dx x/\Rep K H dy y/\bG 60 dx dy=some b/\Q (.bl (!b)) H
def aan(hu:X.A.units+60<cLine):nu X (compareOp .Eq) (adG X.K):=by intro pins s σ H x y v u Q I rx ry h;obtain⟨dx,dy,b,h1,h2,h3,q⟩:=h;exact adu 59 dx dy v u b X.A s (Rep.sh I dx x v h1 rx) (Rep.sh I dy y u h2 ry) h3 hu X.prog X.w X.xe _ ⟨.bl b,H,I,rfl,q⟩
def aaf(hu:X.A.units+60<cLine):nu X (compareOp .NotEq) (ady X.K):=by intro pins s σ H x y v u Q I rx ry h;obtain⟨dx,dy,b,h1,h2,h3,q⟩:=h;exact U3 59 dx dy v u b X.A s (Rep.sh I dx x v h1 rx) (Rep.sh I dy y u h2 ry) h3 hu X.prog X.w X.xe _ ⟨.bl (!b),H,I,rfl,q⟩
def j4(x y:D):Option D:=(bG 60 x y).map .bl
def qC(x y:D):Option D:=(bG 60 x y).map λb=>.bl (!b)
def ad7:pQ C (adG C.K) j4:=by
 intro Pr F env σ H x y d vx vy Q r hx hy h q;unfold j4 at h;cases e:bG 60 x y with
 | none=>rw[e] at h;cases h
 | some b=>
  rw[e] at h;cases h;exact⟨x,y,b,hx.rep r.fr,hy.rep r.fr,e,q _ H F r (aQ.refl F) rfl⟩
def ad3:pQ C (ady C.K) qC:=by
 intro Pr F env σ H x y d vx vy Q r hx hy h q;unfold qC at h;cases e:bG 60 x y with
 | none=>rw[e] at h;cases h
 | some b=>
  rw[e] at h;cases h;exact⟨x,y,b,hx.rep r.fr,hy.rep r.fr,e,q _ H F r (aQ.refl F) rfl⟩
def Wd(x:D):List D->Option Bool
 | []=>some false
 | y::ys=>match bG 59 y x,Wd x ys with
  | some a,some b=>some (a||b)
  | _,_=>none
theorem K7(x:D):∀(ys:List D) (b:Bool),Wd x ys=some b->(∀y∈ys,∃c,bG 59 y x=some c)/\(b=true ↔ ∃y∈ys,bG 59 y x=some true)
 | [],b,h=>by simp[Wd] at h;subst h;simp
 | y::ys,b,h=>by
  unfold Wd at h;cases h1:bG 59 y x with
  | none=>rw[h1] at h;simp at h
  | some c=>
   cases h2:Wd x ys with
   | none=>rw[h1,h2] at h;simp at h
   | some d=>
    rw[h1,h2] at h;obtain⟨i1,i2⟩:=K7 x ys d h2;have hb:b=(c||d):=by simpa using h.symm
    refine⟨λz hz=>?_,?_⟩
    ·rcases List.mem_cons.mp hz with rfl|hz
     ·exact⟨c,h1⟩
     ·exact i1 z hz
    ·rw[hb,Bool.or_eq_true];constructor
     ·rintro(hc|hd)
      ·exact⟨y,List.mem_cons_self,by rw[h1,hc]⟩
      ·obtain⟨z,hz,e⟩:=i2.mp hd;exact⟨z,List.mem_cons_of_mem _ hz,e⟩
     ·rintro⟨z,hz,e⟩;rcases List.mem_cons.mp hz with rfl|hz
      ·rw[h1] at e;left;simpa using e
      ·right;exact i2.mpr ⟨z,hz,e⟩
open Classical in
noncomputable def J0(h:Heap)(x:D)(u:Value):Bool:=decide (∃y,Sh h y u/\bG 59 y x=some true)
open Classical in
def Eo{h:Heap}{x y:D}{u:Value}{c:Bool}(hy:Sh h y u)(e:bG 59 y x=some c):J0 h x u=c:=by
 unfold J0;cases c with
 | true=>exact decide_eq_true ⟨y,hy,e⟩
 | false=>
  refine decide_eq_false ?_;rintro⟨z,hz,e'⟩;have:=Ln 59 z y x u true false hz hy e' e;cases this
def JK{s:Shared}{A:Around}{x:D}{v:Value}{ys:List D}{us:List Value}{b:Bool}(hx:Sh s.heap x v)(hs:Cq s.heap ys us)(h:Wd x ys=some b)(hu:A.units+59<cLine) :
  (∀w,w∈us.toArray->SeqAt.EqAt A s w v (J0 s.heap x w))/\us.toArray.any (J0 s.heap x)=b:=by
 obtain⟨h1,h2⟩:=K7 x ys b h;have item:∀w∈us,∃y∈ys,Sh s.heap y w:=λw hw=>by
  obtain⟨j,hj,e⟩:=List.mem_iff_getElem.mp hw;obtain⟨d,e1,e2⟩:=mD hs (show us[j]? = some w by rw[List.getElem?_eq_getElem hj,e]);exact⟨d,List.mem_of_getElem? e1,e2⟩
 have back:∀{ys:List D} {us:List Value},Cq s.heap ys us->∀y∈ys,∃w∈us,Sh s.heap y w:=by
  intro ys
  induction ys with
  | nil=>intro us _ y hy;cases hy
  | cons z zs ih=>
   intro us hs y hy;obtain⟨w,r,rfl,g1,g2⟩:=hs;rcases List.mem_cons.mp hy with rfl|hy
   ·exact⟨w,List.mem_cons_self,g1⟩
   ·obtain⟨w',m,g⟩:=ih g2 y hy;exact⟨w',List.mem_cons_of_mem _ m,g⟩
 refine⟨λw hw=>?_,?_⟩
 ·obtain⟨y,hy,sy⟩:=item w (by simpa using hw);obtain⟨c,hc⟩:=h1 y hy;rw[Eo sy hc];exact DW 59 y x w v c A s sy hx hc hu
 ·rw[List.any_toArray,Bool.eq_iff_iff,h2,List.any_eq_true];constructor
  ·rintro⟨w,hw,e⟩;obtain⟨y,hy,sy⟩:=item w hw;obtain⟨c,hc⟩:=h1 y hy;rw[Eo sy hc] at e;subst e;exact⟨y,hy,hc⟩
  ·rintro⟨y,hy,e⟩;obtain⟨w,hw,sy⟩:=back hs y hy;exact⟨w,hw,Eo sy e⟩
def Py:D->Option (List D)
 | .tup xs=>some xs
 | .lst xs=>some xs
 | .arr xs=>some xs
 | _=>none
def Ze(K:Fg)(neg:Bool):R2:=λx y H Q=>∃dx dy ys b,Rep K H dx x/\Rep K H dy y/\Py dy=some ys/\Wd dx ys=some b/\Q (.bl (if neg then !b else b)) H
def aal(hu:X.A.units+61<cLine):nu X (compareOp .In) (Ze X.K false):=by
 intro pins s σ H x y v u Q I rx ry h;obtain⟨dx,dy,ys,b,h1,h2,h3,h4,q⟩:=h;have hx:=Rep.sh I dx x v h1 rx;have hy:=Rep.sh I dy y u h2 ry;have hin:X.A.in1.units+59<cLine:=by show X.A.units+1+59<cLine;omega
 cases dy with
 | tup zs=>
  cases h3;obtain⟨a,its,rfl,p,hs⟩:=hy;obtain⟨g1,g2⟩:=JK (A:=X.A.in1) hx hs h4 hin;refine SeqAt.in_tupleAt (J0 s.heap dx) p g1 ⟨.bl _,H,I,rfl,?_⟩;rw[g2];exact q
 | lst zs=>
  cases h3;obtain⟨a,its,rfl,p,hs⟩:=hy;obtain⟨g1,g2⟩:=JK (A:=X.A.in1) hx hs h4 hin;refine SeqAt.in_listAt (J0 s.heap dx) p.isList g1 ⟨.bl _,H,I,rfl,?_⟩;rw[g2];exact q
 | arr zs=>
  cases h3;obtain⟨a,its,rfl,p,hs⟩:=hy;obtain⟨g1,g2⟩:=JK (A:=X.A.in1) hx hs h4 hin;refine SeqAt.in_listAt (J0 s.heap dx) p.isList g1 ⟨.bl _,H,I,rfl,?_⟩;rw[g2];exact q
 | _=>cases h3
end
def pQ.or{C:Cfg}{r r':R2}{g g':D->D->Option D}(h:pQ C r g)(h':pQ C r' g'):pQ C (λx y H Q=>r x y H Q\/r' x y H Q) (λx y=>(g x y).or (g' x y)):=by
 intro Pr F env σ H x y d vx vy Q rl hx hy e q;have e:(g x y).or (g' x y)=some d:=e;cases e1:g x y with
 | some c=>
  rw[e1] at e;cases e;exact .inl (h Pr F env σ H x y d vx vy Q rl hx hy e1 q)
 | none=>
  rw[e1] at e;exact .inr (h' Pr F env σ H x y d vx vy Q rl hx hy e q)
section
variable{X:Cx}{C:Cfg}
def abC(x y:D):Option D:=match Py y with
 | some ys=>(Wd x ys).map .bl
 | none=>none
def aaB:pQ C (Ze C.K false) abC:=by
 intro Pr F env σ H x y d vx vy Q r hx hy h q;unfold abC at h;cases e1:Py y with
 | none=>rw[e1] at h;cases h
 | some ys=>
  rw[e1] at h;cases e:Wd x ys with
  | none=>simp only[e,Option.map_none] at h;cases h
  | some b=>
   simp only[e,Option.map_some] at h;cases h;exact⟨x,y,ys,b,hx.rep r.fr,hy.rep r.fr,e1,e,q _ H F r (aQ.refl F) rfl⟩
def abB(x y:D):Option D:=match x,y with
 | .str [c],.str z=>some (.bl (decide (c∈z)))
 | _,_=>none
abbrev adE:R2:=λx y H Q=>∃i j,x = .str i/\y = .str j/\Q (.bl (!(Builtin.Str.occurrences j i 0 j.length 1).isEmpty)) H
def one_sign(c:Nat)(z:List Nat):(!(Builtin.Str.occurrences (strOf z) (strOf [c]) 0 (strOf z).length 1).isEmpty)=decide (c∈z):=by
 have:=StrLaws.found_one (strOf z) c;unfold strOf at this ⊢
 simpa using this
def aaA:pQ C adE abB:=by
 intro Pr F env σ H x y d vx vy Q r hx hy h q;unfold abB at h;split at h
 ·rename_i c z;cases h;obtain⟨rfl,_⟩:=hx.str;obtain⟨rfl,_⟩:=hy.str;refine⟨_,_,rfl,rfl,?_⟩;rw[one_sign];exact q _ H F r (aQ.refl F) rfl
 ·cases h
def gIn(x y:D):Option D:=(abC x y).or (abB x y)
abbrev adF(K:Fg):R2:=λx y H Q=>Ze K false x y H Q\/adE x y H Q
def aam(hu:X.A.units+61<cLine):nu X (compareOp .In) (adF X.K):=(aal hu).or Nh
def ad6:pQ C (adF C.K) gIn:=aaB.or aaA
def isPlain(x:V):Prop:=x = .non\/∃b,x = .bl b
def aaj:nu X (compareOp .Is) (λx y H Q=>isPlain y/\Q (.bl (decide (x=y))) H):=by
 intro pins s σ H x y v u Q I rx ry h;obtain⟨hp,q⟩:=h;rcases hp with rfl|⟨b,rfl⟩
 ·exact aai pins s σ H x .non v u Q I rx ry ⟨rfl,q⟩
 ·cases ry;refine wpAny_is_plain ?_ (DQ I q ?_)
  ·cases x<;>first|(cases rx;rfl)|(obtain⟨t,rfl⟩:=rx;rfl)
  ·cases x with
   | bl c=>cases rx;cases b<;>cases c<;>rfl
   | _=>first|(cases rx;rfl)|(obtain⟨t,rfl⟩:=rx;rfl)
def isD:D->D->Option Bool
 | .non,.non=>some true
 | .bl a,.bl b=>some (a == b)
 | _,.non=>some false
 | _,.bl _=>some false
 | _,_=>none
def NP(x y:D):Option D:=(isD x y).map .bl
def aeF{F H:Hp}{x y:D}{vx vy:V}{b:Bool}(hx:gY C.K F H x vx)(hy:gY C.K F H y vy)(h:isD x y=some b):isPlain vy/\decide (vx=vy)=b:=by
 have ahh:∀a,¬(V.ref a=V.non):=λa e=>by cases e
 cases y with
 | non=>
  obtain rfl:=hy.non;refine⟨.inl rfl,?_⟩;cases x with
  | non=>obtain rfl:=hx.non;simp[isD] at h;simp[h]
  | bl c=>obtain rfl:=hx.bl;simp[isD] at h;simp[h]
  | int i=>obtain rfl:=hx.int;simp[isD] at h;simp[h]
  | str z=>obtain⟨rfl,_⟩:=hx.str;simp[isD] at h;simp[h]
  | tup xs=>rcases hx with ⟨_,a,_,rfl,_⟩|⟨a,rfl,_⟩<;>(simp[isD] at h;simp[h])
  | lst xs=>rcases hx with ⟨_,a,_,rfl,_⟩|⟨a,rfl,_⟩<;>(simp[isD] at h;simp[h])
  | arr xs=>rcases hx with ⟨_,a,_,rfl,_⟩|⟨a,rfl,_⟩<;>(simp[isD] at h;simp[h])
  | dct xs=>rcases hx with ⟨_,a,_,rfl,_⟩|⟨a,rfl,_⟩<;>(simp[isD] at h;simp[h])
  | gR xs=>rcases hx with ⟨_,a,_,rfl,_⟩|⟨a,rfl,_⟩<;>(simp[isD] at h;simp[h])
  | clo st xs=>rcases hx with ⟨a,_,rfl,_⟩|⟨a,rfl,_⟩<;>(simp[isD] at h;simp[h])
 | bl k=>
  obtain rfl:=hy.bl;refine⟨.inr ⟨k,rfl⟩,?_⟩;cases x with
  | non=>obtain rfl:=hx.non;simp[isD] at h;simp[h]
  | bl c=>obtain rfl:=hx.bl;simp only[isD,Option.some.injEq] at h;rw[<-h,abS]
  | int i=>obtain rfl:=hx.int;simp[isD] at h;simp[h]
  | str z=>obtain⟨rfl,_⟩:=hx.str;simp[isD] at h;simp[h]
  | tup xs=>rcases hx with ⟨_,a,_,rfl,_⟩|⟨a,rfl,_⟩<;>(simp[isD] at h;simp[h])
  | lst xs=>rcases hx with ⟨_,a,_,rfl,_⟩|⟨a,rfl,_⟩<;>(simp[isD] at h;simp[h])
  | arr xs=>rcases hx with ⟨_,a,_,rfl,_⟩|⟨a,rfl,_⟩<;>(simp[isD] at h;simp[h])
  | dct xs=>rcases hx with ⟨_,a,_,rfl,_⟩|⟨a,rfl,_⟩<;>(simp[isD] at h;simp[h])
  | gR xs=>rcases hx with ⟨_,a,_,rfl,_⟩|⟨a,rfl,_⟩<;>(simp[isD] at h;simp[h])
  | clo st xs=>rcases hx with ⟨a,_,rfl,_⟩|⟨a,rfl,_⟩<;>(simp[isD] at h;simp[h])
 | _=>cases x<;>simp[isD] at h
def ad5:pQ C (λx y H Q=>isPlain y/\Q (.bl (decide (x=y))) H) NP:=by
 intro Pr F env σ H x y d vx vy Q r hx hy h q;unfold NP at h;cases e:isD x y with
 | none=>rw[e] at h;cases h
 | some b=>
  rw[e] at h;cases h;obtain⟨h1,h2⟩:=aeF hx hy e;exact⟨h1,by rw[h2];exact q _ H F r (aQ.refl F) rfl⟩
def gI(c:Int->Int->Bool)(f:Int->Int->D)(x y:D):Option D:=match x,y with
 | .int i,.int j=>if c i j=true then some (f i j) else none
 | _,_=>none
def Rr{Cd:Int->Int->Prop}{c:Int->Int->Bool}{f:Int->Int->D}{g:Int->Int->V}(hc:∀i j,c i j=true->Cd i j)(hf:∀i j F,Rep C.K F (f i j) (g i j)):pQ C (rI Cd g) (gI c f):=by
 intro Pr F env σ H x y d vx vy Q r hx hy h q;unfold gI at h;split at h
 ·rename_i i j;split at h
  ·rename_i hcc;cases h;obtain rfl:=hx.int;obtain rfl:=hy.int;exact⟨i,j,rfl,rfl,hc i j hcc,q _ H F r (aQ.refl F) (hf i j F)⟩
  ·cases h
 ·cases h
def Rq{f:Int->Int->D}{g:Int->Int->V}(hf:∀i j F,Rep C.K F (f i j) (g i j)):pQ C (Om g) (gI (λ_ _=>true) f):=by
 intro Pr F env σ H x y d vx vy Q r hx hy h q;unfold gI at h;split at h
 ·rename_i i j;rw[if_pos rfl] at h;cases h;obtain rfl:=hx.int;obtain rfl:=hy.int;exact⟨i,j,rfl,rfl,q _ H F r (aQ.refl F) (hf i j F)⟩
 ·cases h
def jT(i j:Int):Bool:=decide (Builtin.Int.intBits i+Builtin.Int.intBits j<=134217728)
def VJ:nu X (binaryOp .Mult) (rI (λi j=>jT i j=true) λi j=>.int (i*j)):=
 opI λi j _ _ _ _ _ hc q=>mul_int q (mulOk_of_bits (Nat.le_refl _) (Nat.le_refl _) (of_decide_eq_true hc))
def sZ:D->D->Option D:=gI jT λi j=>.int (i*j)
def qz:D->D->Option D:=gI (λ_ _=>true) λi j=>.int (i - j)
def abz:D->D->Option D:=gI (λ_ j=>decide (0<j)) λi j=>.int (i % j)
def JM:D->D->Option D:=gI (λi j=>decide (0<=j/\j<=1000000/\i.natAbs<2^64)) λi j=>.int (i^j.toNat)
def Wf:D->D->Option D:=gI (λi j=>decide (0<=j/\j<=1000000/\i.natAbs<2^64)) λi j=>.int (i*2^j.toNat)
def G6:D->D->Option D:=gI (λ_ j=>decide (0<=j)) λi j=>.int (i / 2^j.toNat)
def G9:D->D->Option D:=gI (λ_ _=>true) λi j=>.int (Builtin.bitAnd i j)
def aaw:pQ C (rI (λi j=>jT i j=true) λi j=>.int (i*j)) sZ:=Rr (λ_ _ h=>h) λ_ _ _=>rfl
def aas:pQ C (Om λi j=>.int (i - j)) qz:=Rq λ_ _ _=>rfl
def aax:pQ C (rI (λ_ j=>0<j) λi j=>.int (i % j)) abz:=Rr (λ_ _ h=>of_decide_eq_true h) λ_ _ _=>rfl
def aav:pQ C (rI W5 λi j=>.int (i^j.toNat)) JM:=Rr (λi j h=>(show 0<=j/\j<=1000000/\i.natAbs<2^64 from of_decide_eq_true h)) λ_ _ _=>rfl
def aau:pQ C (rI W5 λi j=>.int (i*2^j.toNat)) Wf:=Rr (λi j h=>(show 0<=j/\j<=1000000/\i.natAbs<2^64 from of_decide_eq_true h)) λ_ _ _=>rfl
def aat:pQ C (rI (λ_ j=>0<=j) λi j=>.int (i / 2^j.toNat)) G6:=Rr (λ_ _ h=>of_decide_eq_true h) λ_ _ _=>rfl
def aaD:pQ C (Om λi j=>.int (Builtin.bitAnd i j)) G9:=Rq λ_ _ _=>rfl
abbrev adz:R2:=λx y H Q=>∃i j,x = .str i/\y = .str j/\Q (.bl (decide (i.cps.toList<j.cps.toList))) H
def aeZ:D->D->Option D:=gI (λ_ _=>true) λi j=>.bl (decide (i<j))
def abA(x y:D):Option D:=match x,y with
 | .str a,.str b=>some (.bl (decide (a<b)))
 | _,_=>none
def Ud(x y:D):Option D:=(aeZ x y).or (abA x y)
def gLe:D->D->Option D:=gI (λ_ _=>true) λi j=>.bl (decide (i<=j))
def gGt:D->D->Option D:=gI (λ_ _=>true) λi j=>.bl (decide (j<i))
def gGe:D->D->Option D:=gI (λ_ _=>true) λi j=>.bl (decide (j<=i))
def aay:pQ C adz abA:=by
 intro Pr F env σ H x y d vx vy Q r hx hy h q;unfold abA at h;split at h
 ·cases h;obtain⟨rfl,_⟩:=hx.str;obtain⟨rfl,_⟩:=hy.str;exact⟨_,_,rfl,rfl,q _ H F r (aQ.refl F) (by show V.bl _=V.bl _;congr)⟩
 ·cases h
abbrev adA:R2:=λx y H Q=>Om (λi j=>.bl (decide (i<j))) x y H Q\/adz x y H Q
def aah:nu X (compareOp .Lt) adA:=ad0.or Ng
def aaz:pQ C (Om λi j=>.bl (decide (i<j))) aeZ:=Rq λ_ _ _=>rfl
def ad4:pQ C adA Ud:=aaz.or aay
end
abbrev xG(e:Expr)(E:PySem.Env):Prop:=starEach [e] E=(false,eval e E)::starEach [] E
section
variable{X:Cx}{C:Cfg}
def Qu(K:Fg):R2:=λx y H Q=>∃a b ys,x = .ref a/\y = .ref b/\lB K H a []/\lB K H b ys/\Q (.ref b) H
def Rn:nu X (binaryOp .Add) (Qu X.K):=by
 intro pins s σ H x y v u Q I rx ry h;obtain⟨a,b,ys,rfl,rfl,ha,hb,q⟩:=h;cases rx;cases ry;obtain⟨its,r1,p1,_⟩:=I.tuple ha;obtain⟨its2,r2,p2,_⟩:=I.tuple hb;cases r1;obtain⟨⟨cls,dd,data,sl⟩,ho,hc,n,hd⟩:=id p1;obtain⟨⟨cls2,dd2,data2,sl2⟩,ho2,hc2,n2,hd2⟩:=id p2;simp only at hc hd hc2 hd2;subst hc hd hc2 hd2;exact concat_meets ⟨_,ho,rfl⟩ ⟨_,ho2,rfl⟩ noFill_tuple_add seq_tuple_add PySem.F.slot_tuple_add PySem.F.entry_tuple_add (PySem.F.args_tuple_add_2 _ _)
  (tuple_addW0 a b ([]:List Value).toArray its2.toArray n n2 dd dd2 sl sl2 (by simp)) ⟨ho,ho2,⟨.ref b,H,I,rfl,q⟩⟩
abbrev adI:R2:=λx y H Q=>∃i j,x = .str i/\y = .str j/\i.length+j.length<=sizeLine/\Q (.str (i++j)) H
abbrev adJ(K:Fg):R2:=λx y H Q=>Om (λi j=>.int (i+j)) x y H Q\/adI x y H Q\/adH x y H Q\/Xm K x y H Q\/Qu K x y H Q
def VM:nu X (binaryOp .Add) (adJ X.K):=aaq.or (Jo.or (aao.or (VL.or Rn)))
def cB(x y:D):Option D:=match x,y with
 | .int i,.int j=>some (.int (i+j))
 | .str a,.str b=>if a.length+b.length<=sizeLine then some (.str (a++b)) else none
 | .lst a,.lst b=>if a.length+b.length<=sizeLine then some (.lst (a++b)) else none
 | .tup a,.tup b=>if a.length+b.length<=sizeLine then some (.tup (a++b)) else none
 | _,_=>none
def CP(a b:List Nat):strOf a++strOf b=strOf (a++b):=by show(⟨(strOf a).cps++(strOf b).cps⟩:Str)=_;unfold strOf;simp
def dY(a:List Nat):(strOf a).length=a.length:=by show a.toArray.size=a.length;simp
def aaE:pQ C (adJ C.K) cB:=by
 intro Pr F env σ H x y d vx vy Q r hx hy h q;unfold cB at h;split at h
 ·cases h;obtain rfl:=hx.int;obtain rfl:=hy.int;exact .inl ⟨_,_,rfl,rfl,q _ H F r (aQ.refl F) rfl⟩
 ·split at h
  ·rename_i hz;cases h;obtain⟨rfl,_⟩:=hx.str;obtain⟨rfl,_⟩:=hy.str;refine .inr (.inl ⟨_,_,rfl,rfl,by rw[dY,dY];exact hz,?_⟩);rw[CP];exact q _ H F r (aQ.refl F) ⟨rfl,by rw[List.length_append];exact hz⟩
  ·cases h
 ·split at h
  ·rename_i hz;cases h;obtain⟨_,a,vs,rfl,h1,h2⟩:=hx.lst r.fr;obtain⟨_,b,ws,rfl,h3,h4⟩:=hy.lst r.fr;refine .inr (.inr (.inl ⟨a,b,vs,ws,rfl,rfl,h1,h3,by rw[h2.length,h4.length];exact hz,λp hp=>?_⟩));obtain⟨r2,s2⟩:=r.new (o:=.lst (vs++ws)) hp;exact q _ _ _ r2 s2 ⟨by rw[List.length_append];exact hz,p,_,rfl,aZ,bT.mono s2 _ _ (h2.append h4)⟩
  ·cases h
 ·split at h
  ·rename_i hz;cases h;obtain⟨z1,a,vs,rfl,h1,f1,h2⟩:=hx.tup r.fr;obtain⟨z2,b,ws,rfl,h3,f3,h4⟩:=hy.tup r.fr;by_cases hv:vs=[]
   ·subst hv;have e1:_=0:=h2.length.symm;have e2:=List.eq_nil_of_length_eq_zero e1;subst e2;refine .inr (.inr (.inr (.inr ⟨a,b,ws,rfl,rfl,h1,h3,?_⟩)));exact q _ H F r (aQ.refl F) ⟨z2,b,ws,rfl,f3,h4⟩
   ·refine .inr (.inr (.inr (.inl ⟨a,b,vs,ws,rfl,rfl,h1,h3,hv,by rw[h2.length,h4.length];exact hz,λhw=>?_,λhw p hp=>?_⟩)))
    ·subst hw;have e1:_=0:=h4.length.symm;have e2:=List.eq_nil_of_length_eq_zero e1;subst e2;rw[List.append_nil] at q;exact q _ H F r (aQ.refl F) ⟨z1,a,vs,rfl,f1,h2⟩
    ·obtain⟨r2,s2⟩:=r.new (o:=.tup (vs++ws)) hp;exact q _ _ _ r2 s2 ⟨by rw[List.length_append];exact hz,p,_,rfl,lB.of aZ,bT.mono s2 _ _ (h2.append h4)⟩
  ·cases h
 ·cases h
def HH(K:Fg)(F H:Hp):List D->List V->Prop
 | [],vs=>vs=[]
 | d::ds,vs=>∃v r,vs=v::r/\gY K F H d v/\HH K F H ds r
def tAB(C:Cfg)(ev:cV):TA:=λσ H Q=>∃(Pr F:Hp) (env env':Env) (ds:List D),Rel C Pr F env σ H/\ev env = .ok ds env'/\
 ∀vs H' F',Rel C Pr F' env' σ H'->aQ F F'->HH C.K F' H' ds vs->Q vs H'
def rD(X:Cx)(C:Cfg)(es:List Expr)(ev:cV):Prop:=PA X es (tAB C ev)
def QR{e:Expr}{a:Ev}(h:Aa X C e a)(hs:xG e X.env:=by rfl):rD X C [e] (aa a ak):=(iH h vR hs).imp λσ H Q hq=>by
 obtain⟨Pr,F,env,env',ds,rl,e,q⟩:=hq;obtain⟨d1,aM,e1,e2⟩:=aW e;cases e2;exact⟨Pr,F,env,env',d1,rl,e1,λv H1 F1 r1 s1 p1=>q _ H1 F1 r1 s1 ⟨v,[],rfl,p1,rfl⟩⟩
def MP{e:Expr}{es:List Expr}{a:Ev}{r:cV}(ha:PX X C e a)(hr:rD X C es r)(hs:starEach (e::es) X.env=(false,eval e X.env)::starEach es X.env:=by rfl):rD X C (e::es) (aa a r):=
 (iH ha hr hs).imp λσ H Q h=>by
  obtain⟨Pr,F,env,env',ds,rl,e,q⟩:=h;obtain⟨d1,aM,e1,e2⟩:=aW e;obtain⟨ds2,dH,e3,e4⟩:=aW e2;cases e4;refine⟨Pr,F,env,aM,d1,rl,e1,λv H1 F1 r1 s1 p1=>?_⟩;refine⟨Pr,F1,aM,env',ds2,r1,e3,λvs H2 F2 r2 s2 p2=>?_⟩;exact q _ H2 F2 r2 (s1.trans s2) ⟨v,vs,rfl,.inl (Rep.mono s2 d1 v p1),p2⟩
def CallD(C:Cfg)(r:List V->Hp->VK->Prop)(g:List D->Option D):Prop:=∀(Pr F:Hp) (env:Env) (σ:L2.St) (H:Hp) (ds:List D) (d:D) (vs:List V) (Q:VK),Rel C Pr F env σ H->HH C.K F H ds vs->g ds=some d->
 (∀v H' F',Rel C Pr F' env σ H'->aQ F F'->Rep C.K F' d v->Q v H')->r vs H Q
def au(g:List D->Option D)(a:cV):Ev:=λenv=>bindR (a env) λds aM=>dX (g ds) aM
def Ly{r:List V->Hp->VK->Prop}{g:List D->Option D}{a:cV}(o:CallD C r g)(σ:L2.St)(H:Hp)(Q:VK)(h:tE C (au g a) σ H Q):tCB r (tAB C a) σ H Q:=by obtain⟨Pr,F,env,env',d,rl,e,q⟩:=h;obtain⟨ds,aM,e1,e2⟩:=aW e;obtain⟨e3,rfl⟩:=eZ e2;exact⟨Pr,F,env,env',ds,rl,e1,λvs H1 F1 r1 s1 p1=>o Pr F1 env' σ H1 ds d vs Q r1 p1 e3 λv H2 F2 r2 s2 p2=>q v H2 F2 r2 (s1.trans s2) p2⟩
def ux{x:Str}{p pos:Pos}{e:Expr}{es:List Expr}{id:String}{r:List V->Hp->VK->Prop}{g:List D->Option D}{a:cV}(hc:jo X (.builtin id) r)(o:CallD C r g)(hg:Gl X x)(hm:X.mg x=none)(hv:bootBuiltins x=some (.builtin id))(ha:rD X C (e::es) a)
  (hn:x ≠ "__name__":=by decide) (hdb:iZ x:=by decide) (he:starEach (e::es) X.env=(false,eval e X.env)::starEach es X.env:=by rfl) (hpl:(backTo pos (starEach es X.env)).any (·.1)=false:=by rfl) :
  PX X C (.Call (.Name x p) (e::es) [] pos) (au g a):=(Gr hc hg hm hv ha hn hdb he hpl).imp (Ly o)
def nJ{x:Str}{p pos:Pos}{e:Expr}{es:List Expr}{T:String}{r:List V->Hp->VK->Prop}{g:List D->Option D}{a:cV}(hc:jo X (.type T) r)(o:CallD C r g)(hg:Gl X x)(hm:X.mg x=none)(hv:bootBuiltins x=some (.type T))(ha:rD X C (e::es) a)
  (hn:x ≠ "__name__":=by decide) (hdb:iZ x:=by decide) (he:starEach (e::es) X.env=(false,eval e X.env)::starEach es X.env:=by rfl) (hpl:(backTo pos (starEach es X.env)).any (·.1)=false:=by rfl) :
  PX X C (.Call (.Name x p) (e::es) [] pos) (au g a):=(M7 hc hg hm hv ha hn hdb he hpl).imp (Ly o)
def jL{K:Fg}{F H:Hp}{d:D}{vs:List V}(h:HH K F H [d] vs):∃v,vs=[v]/\gY K F H d v:=by obtain⟨v,r,rfl,h1,h2⟩:=h;cases h2;exact⟨v,rfl,h1⟩
def ab0{K:Fg}{F H:Hp}{d e:D}{vs:List V}(h:HH K F H [d,e] vs):∃v w,vs=[v,w]/\gY K F H d v/\gY K F H e w:=by obtain⟨v,r,rfl,h1,h2⟩:=h;obtain⟨w,rfl,h3⟩:=jL h2;exact⟨v,w,rfl,h1,h3⟩
def gU:List D->Option D
 | [.str x]=>some (.int x.length)
 | [.tup xs]=>some (.int xs.length)
 | [.lst xs]=>some (.int xs.length)
 | [.arr xs]=>some (.int xs.length)
 | _=>none
def abX:CallD C (λxs H Q=>∃x n,xs=[x]/\afw C.K x H n/\Q (.int n) H) gU:=by
 intro Pr F env σ H ds d vs Q r hs h q;unfold gU at h;split at h
 ·cases h;obtain⟨v,rfl,hv⟩:=jL hs;obtain⟨rfl,hz⟩:=hv.str;exact⟨_,_,rfl,⟨by rw[dY];exact hz,(dY _).symm⟩,q _ H F r (aQ.refl F) rfl⟩
 ·cases h;obtain⟨v,rfl,hv⟩:=jL hs;obtain⟨_,a,ws,rfl,h1,_,h2⟩:=hv.tup r.fr;exact⟨_,_,rfl,.inr ⟨ws,h1,h2.length.symm⟩,q _ H F r (aQ.refl F) rfl⟩
 ·cases h;obtain⟨v,rfl,hv⟩:=jL hs;obtain⟨_,a,ws,rfl,h1,h2⟩:=hv.lst r.fr;exact⟨_,_,rfl,.inl ⟨ws,n8.of h1,h2.length.symm⟩,q _ H F r (aQ.refl F) rfl⟩
 ·cases h;obtain⟨v,rfl,hv⟩:=jL hs;obtain⟨_,a,ws,rfl,h1,h2⟩:=hv.arr r.fr;exact⟨_,_,rfl,.inl ⟨ws,h1,h2.length.symm⟩,q _ H F r (aQ.refl F) rfl⟩
 ·cases h
def dG:List D->Option D
 | [.tup xs]=>some (.tup xs)
 | [.lst xs]=>some (.tup xs)
 | _=>none
abbrev Qm(K:Fg):List V->Hp->VK->Prop:=λxs H Q=>∃p ys,xs=[.ref p]/\((n8 K H p ys/\∀l,H l=none->Q (.ref l) (upd H l (.tup ys)))\/(lB K H p ys/\Q (.ref p) H))
def Tt:CallD C (Qm C.K) dG:=by
 intro Pr F env σ H ds d vs Q r hs h q;unfold dG at h;split at h
 ·cases h;obtain⟨v,rfl,hv⟩:=jL hs;obtain⟨z,a,ws,rfl,h1,f1,h2⟩:=hv.tup r.fr;exact⟨a,ws,rfl,.inr ⟨h1,q _ H F r (aQ.refl F) ⟨z,a,ws,rfl,f1,h2⟩⟩⟩
 ·cases h;obtain⟨v,rfl,hv⟩:=jL hs;obtain⟨z,a,ws,rfl,h1,h2⟩:=hv.lst r.fr;refine⟨a,ws,rfl,.inl ⟨n8.of h1,λl hl=>?_⟩⟩;obtain⟨r2,s2⟩:=r.new (o:=.tup ws) hl;exact q _ _ _ r2 s2 ⟨z,l,ws,rfl,lB.of aZ,bT.mono s2 _ _ h2⟩
 ·cases h
def signs(x:List Nat):List D:=x.map λc=>.str [c]
abbrev Qo:List V->Hp->VK->Prop:=λxs H Q=>∃z,xs=[.str z]/\z.length<=sizeLine/\∀l,H l=none->Q (.ref l) (upd H l (.lst (z.cps.toList.map λc=>V.str ⟨#[c]⟩)))
def JV(hh:X.calm=true):jo X (.type "list") Qo:=by
 intro pins s σ H xs us Q I r h;obtain⟨z,rfl,hz,q⟩:=h;obtain⟨u,rfl,⟨t,rfl⟩⟩:=vals1 r;refine call_list_str (I.ok.hd hh) z t (λh' tk acc' c' kp e hacc=>?_) hz;refine⟨.ref s.heap.objs.size,_,I.laid kp (Nat.le_refl _) (show gq X.prog X.w _ h' _ (.lst (z.cps.toList.map λc=>V.str ⟨#[c]⟩)) from⟨?_,acc'.toList,c',?_,by simpa using e⟩),rfl,q _ (I.hok.fresh (Nat.le_refl _))⟩
 ·simpa[Str.length] using hz
 ·obtain⟨hsz,hit⟩:=hacc;have go:∀(cs:List Nat) (vs:List Value),vs.length=cs.length->(∀(j:Nat) (v:Value),vs[j]? = some v->∃(c:Nat) (u:Tok),cs[j]? = some c/\v=Value.str ⟨#[c]⟩ u)->Vals (cs.map λc=>V.str ⟨#[c]⟩) vs:=by
   intro cs
   induction cs with
   | nil=>intro vs hl _;rw[List.eq_nil_of_length_eq_zero hl];exact .nil
   | cons c cs ih=>
    intro vs hl hv;cases vs with
    | nil=>simp at hl
    | cons v vs=>
     obtain⟨c',u,e1,e2⟩:=hv 0 v rfl;simp at e1;subst e1 e2;exact .cons ⟨u,rfl⟩ (ih vs (by simpa using hl) λj w hw=>by simpa using hv (j+1) w (by simpa using hw))
  refine go _ _ (by simpa using hsz) λj v hv=>?_;obtain⟨c,u,e1,e2⟩:=hit j v (by simpa using hv);exact⟨c,u,by simpa using e1,e2⟩
def qD:List D->Option D
 | [.tup xs]=>some (.lst xs)
 | [.lst xs]=>some (.lst xs)
 | [.str x]=>some (.lst (signs x))
 | _=>none
abbrev Qp(K:Fg):List V->Hp->VK->Prop:=λxs H Q=>(∃p ys,xs=[.ref p]/\(n8 K H p ys\/lB K H p ys)/\∀l,H l=none->Q (.ref l) (upd H l (.lst ys)))\/Qo xs H Q
def JX(hh:X.calm=true):jo X (.type "list") (Qp X.K):=Ec.or (JV hh)
theorem yO{K:Fg}{F:Hp}:∀x:List Nat,bT K F (signs x) (x.map λc=>V.str ⟨#[c]⟩)
 | []=>rfl
 | c::x=>⟨_,_,rfl,⟨rfl,by rw[sizeLine_eq];simp⟩,yO x⟩
def Wx:CallD C (Qp C.K) qD:=by
 intro Pr F env σ H ds d vs Q r hs h q;unfold qD at h;split at h
 ·cases h;obtain⟨v,rfl,hv⟩:=jL hs;obtain⟨z,a,ws,rfl,h1,f1,h2⟩:=hv.tup r.fr;refine .inl ⟨a,ws,rfl,.inr h1,λl hl=>?_⟩;obtain⟨r2,s2⟩:=r.new (o:=.lst ws) hl;exact q _ _ _ r2 s2 ⟨z,l,ws,rfl,aZ,bT.mono s2 _ _ h2⟩
 ·cases h;obtain⟨v,rfl,hv⟩:=jL hs;obtain⟨z,a,ws,rfl,h1,h2⟩:=hv.lst r.fr;refine .inl ⟨a,ws,rfl,.inl (n8.of h1),λl hl=>?_⟩;obtain⟨r2,s2⟩:=r.new (o:=.lst ws) hl;exact q _ _ _ r2 s2 ⟨z,l,ws,rfl,aZ,bT.mono s2 _ _ h2⟩
 ·rename_i x;cases h;obtain⟨v,rfl,hv⟩:=jL hs;obtain⟨rfl,hz⟩:=hv.str;refine .inr ⟨_,rfl,by rw[dY];exact hz,λl hl=>?_⟩;obtain⟨r2,s2⟩:=r.new (o:=.lst ((strOf x).cps.toList.map λc=>V.str ⟨#[c]⟩)) hl;refine q _ _ _ r2 s2 ⟨by simpa[signs] using hz,l,_,rfl,aZ,?_⟩;have e:(strOf x).cps.toList=x:=by simp[strOf]
  rw[e];exact yO x
 ·cases h
def rm:List D->Option D
 | [.int i,.int j]=>if 0<j/\j<1073741824 then some (.tup [.int (i / j),.int (i % j)]) else none
 | _=>none
def Ob:CallD C (λxs H Q=>∃i j,xs=[.int i,.int j]/\afy i j/\∀p,H p=none->Q (.ref p) (upd H p (.tup [.int (i / j),.int (i % j)]))) rm:=by
 intro Pr F env σ H ds d vs Q r hs h q;unfold rm at h;split at h
 ·split at h
  ·rename_i hj;cases h;obtain⟨v,w,rfl,hv,hw⟩:=ab0 hs;obtain rfl:=hv.int;obtain rfl:=hw.int;refine⟨_,_,rfl,hj,λp hp=>?_⟩;obtain⟨r2,s2⟩:=r.new (o:=.tup [.int _,.int _]) hp;exact q _ _ _ r2 s2 ⟨by rw[sizeLine_eq];simp,p,_,rfl,lB.of aZ,⟨_,_,rfl,rfl,_,_,rfl,rfl,rfl⟩⟩
  ·cases h
 ·cases h
def Xe:D->String
 | .non=>"NoneType"
 | .bl _=>"bool"
 | .int _=>"int"
 | .str _=>"str"
 | .tup _=>"tuple"
 | .lst _=>"list"
 | .arr _=>"list"
 | .dct _=>"dict"
 | .gR _=>"dict"
 | .clo _ _=>"NoneType"
def uG(d:D)(T:String):Bool:=Xe d == T||(Xe d == "bool" && T == "int")
def abi{d:D}{u c:Value}{b:Bool}{s:Shared}{A:Around}{E:Value->Shared->Prop}{Q:Value->Shared->Prop}(HJ:X.K.In s.heap)(nc:∀st ds,d ≠ .clo st ds)(h:Sh s.heap d u)(e:PySem.W.kitOne X.K (.type (Xe d)) c=some b)(q:∀tk,Q (.bool b) { s with toks:=tk }) :
  wpAny (model X.prog X.w) A (call (.builtin "isinstance") [u,c]) Q E s:=by
 cases d with
 | non=>cases h;exact PySem.W.kia_one PySem.W.kitx_none HJ True.intro e (λz=>nomatch z) q
 | bl y=>cases h;exact PySem.W.kia_one PySem.W.kitx_bool HJ True.intro e (λz=>nomatch z) q
 | int i=>obtain⟨t,rfl⟩:=h;exact PySem.W.kia_one PySem.W.kitx_int HJ True.intro e (λz=>nomatch z) q
 | str y=>obtain⟨t,rfl⟩:=h;exact PySem.W.kia_one PySem.W.kitx_str HJ True.intro e (λz=>nomatch z) q
 | tup xs=>
  obtain⟨a,its,rfl,p,_⟩:=h;obtain⟨o,h1,h2,_⟩:=p;exact PySem.W.kia_one PySem.W.kitx_tuple HJ ⟨o,h1,h2⟩ e (λz=>nomatch z) q
 | lst xs=>
  obtain⟨a,its,rfl,p,_⟩:=h;obtain⟨o,h1,h2,_⟩:=p.isList;exact PySem.W.kia_one PySem.W.kitx_list HJ ⟨o,h1,h2⟩ e (λz=>nomatch z) q
 | arr xs=>
  obtain⟨a,its,rfl,p,_⟩:=h;obtain⟨o,h1,h2,_⟩:=p.isList;exact PySem.W.kia_one PySem.W.kitx_list HJ ⟨o,h1,h2⟩ e (λz=>nomatch z) q
 | dct kvs=>
  obtain⟨a,o,rfl,h1,h2⟩:=h;exact PySem.W.kia_one PySem.W.kitx_dict HJ ⟨o,h1,h2.1⟩ e (λz=>nomatch z) q
 | gR kvs=>
  obtain⟨a,o,rfl,h1,h2⟩:=h;exact PySem.W.kia_one PySem.W.kitx_dict HJ ⟨o,h1,h2.1⟩ e (λz=>nomatch z) q
 | clo st ds=>exact(nc st ds rfl).elim
def JN(T:String)(d:D):Option D:=match d with
 | .clo _ _=>none
 | _=>some (.bl (uG d T))
def Wg{T:String}{d e:D}(h:JN T d=some e):(∀st ds,d ≠ .clo st ds)/\e = .bl (uG d T):=by cases d<;>simp[JN] at h<;>exact⟨λ_ _ z=>(by cases z),h.symm⟩
theorem Tz{T:String}(hk:∀d:D,PySem.W.kitOne X.K (.type (Xe d)) (.type T)=some (uG d T)) :
  jo X (.builtin "isinstance") (λxs H Q=>∃d x,xs=[x,.ty T]/\(∀st ds,d ≠ .clo st ds)/\Rep X.K H d x/\Q (.bl (uG d T)) H):=by
 intro pins s σ H xs us Q I r h;obtain⟨d,x,rfl,nc,hr,q⟩:=h;obtain⟨u,w,rfl,r1,r2⟩:=vals2 r;cases r2;exact abi (X:=X) I.RP nc (Rep.sh I d x u hr r1) (hk d) λtk=>⟨.bl _,H,I.tok tk,rfl,q⟩
def ZD{T:String}{xT:Str}{e:Expr}{a:Ev}{p q pos:Pos}(hg:Gl X "isinstance")(hm:X.mg "isinstance" = none)(hgT:Gl X xT)(hmT:X.mg xT=none)(hvT:bootBuiltins xT=some (.type T))
  (hk:∀d:D,PySem.W.kitOne X.K (.type (Xe d)) (.type T)=some (uG d T)) (hK:X.K=C.K) (ha:PX X C e a) (hn:xT ≠ "__name__":=by decide) (hd:iZ xT:=by decide)
  (he:starEach [e,.Name xT q] X.env=(false,eval e X.env)::starEach [.Name xT q] X.env:=by rfl) :
  PX X C (.Call (.Name "isinstance" p) [e,.Name xT q] [] pos) (uJ (JN T) a):=by
 refine(Gr (Tz hk) hg hm boot_isinstance (iH ha (iH (VG (v:=.ty T) hgT hmT hvT rfl hn hd) vR) he) (by decide) (by decide) he rfl).imp λσ H Q h=>?_;obtain⟨Pr,F,env,env',d,rl,e1,qq⟩:=h;obtain⟨d0,aM,e2,e3⟩:=aW e1;obtain⟨e4,rfl⟩:=eZ e3;obtain⟨nc,rfl⟩:=Wg e4;refine⟨Pr,F,env,env',d0,rl,e2,λv H1 F1 r1 s1 p1=>⟨d0,v,rfl,nc,?_,qq _ H1 F1 r1 s1 rfl⟩⟩;rw[hK];exact Rep.mono r1.fr d0 v p1
def qL:List D->Option (List Bool)
 | []=>some []
 | .bl b::r=>(qL r).map (b :: ·)
 | _=>none
theorem Gb{K:Fg}{F:Hp}:∀{ds:List D} {bs:List Bool} {vs:List V},qL ds=some bs->bT K F ds vs->vs=bs.map V.bl
 | [],bs,vs,h,hr=>by simp[qL] at h;subst h;cases hr;rfl
 | d::ds,bs,vs,h,hr=>by
  obtain⟨v,r,rfl,h1,h2⟩:=hr;cases d with
  | bl b=>
   simp only[qL] at h;cases e:qL ds with
   | none=>rw[e] at h;cases h
   | some cs=>
    rw[e] at h;cases h;cases h1;rw[Gb e h2]
    rfl
  | _=>simp[qL] at h
theorem EY:∀{bs:List Bool} {us:List Value},Vals (bs.map V.bl) us->us=bs.map Value.bool
 | [],_,.nil=>rfl
 | b::bs,_,.cons r t=>by
  cases r;rw[EY t]
  rfl
def Bg(bs:List Bool):(List.range bs.length).all (λi=>bs.getD i true)=bs.all id:=by
 induction bs with
 | nil=>rfl
 | cons b bs ih=>
  rw[List.length_cons,List.range_succ_eq_map,List.all_cons,List.all_map,List.all_cons];simp only[List.getD_cons_zero,id]
  congr 1
def Oe(hc:X.calm=true):jo X (.builtin "all") (λxs H Q=>∃(p:Addr) (bs:List Bool),xs=[.ref p]/\n8 X.K H p (bs.map V.bl)/\Q (.bl (bs.all id)) H):=by
 intro pins s σ H xs us Q I r h;obtain⟨p,bs,rfl,hq,q⟩:=h;obtain⟨u,rfl,rx⟩:=vals1 r;cases rx;obtain⟨its,rv,pl,_⟩:=I.list hq;have e:=EY rv;subst e;refine call_all_walk (wpAny_pyIter_list pl.isList ?_);have hlt:p<s.heap.objs.size:=by obtain⟨o,e,_⟩:=pl.isList;exact Heap.lt_size e
 refine⟨s.heap.objs.size,_,_,_,_,_,λi=>bs.getD i true,rfl,Walks.list (A:=X.A.in1) (show X.A.in1.handled=none from I.ok.hd hc) s.heap.objs.size p (Nat.ne_of_lt hlt) (bs.map Value.bool).toArray,⟨⟨_,Heap.get?_push_size _ rfl,rfl,rfl⟩,by obtain⟨o,e,rr⟩:=pl.isList;exact⟨o,Heap.get?_push_of_some _ e,rr⟩⟩,?_,λh' tk hk=>?_⟩
 ·intro i v s' Q' E' hv hq';have hv:(bs.map Value.bool).toArray[i]? = some v:=hv;rw[List.getElem?_toArray,List.getElem?_map] at hv;cases hb:bs[i]? with
  | none=>rw[hb] at hv;cases hv
  | some b=>
   rw[hb] at hv;cases hv;refine wpAny_truthy_bool ?_;have this:bs.getD i true=b:=by simp[List.getD_eq_getElem?_getD,hb]
   have hq':Q' (bs.getD i true) s':=hq'
   rwa [this] at hq'
 ·have I1:Inv X pins σ H { s with heap:=h',toks:=tk }:=I.kept λb o e=>hk b o (by simp;exact Nat.ne_of_lt (Heap.lt_size e)) (Heap.get?_push_of_some _ e);refine⟨.bl _,H,I1,rfl,?_⟩;have e2:(bs.map Value.bool).toArray.size=bs.length:=by simp
  rw[e2,Bg];exact q
def Hd:List D->Option D
 | [.lst ds]=>(qL ds).map λbs=>.bl (bs.all id)
 | _=>none
def abY:CallD C (λxs H Q=>∃(p:Addr) (bs:List Bool),xs=[.ref p]/\n8 C.K H p (bs.map V.bl)/\Q (.bl (bs.all id)) H) Hd:=by
 intro Pr F env σ H ds d vs Q r hs h q;unfold Hd at h;split at h
 ·rename_i es;cases e:qL es with
  | none=>rw[e] at h;cases h
  | some bs=>
   rw[e] at h;cases h;obtain⟨v,rfl,hv⟩:=jL hs;obtain⟨z,a,ws,rfl,h1,h2⟩:=hv.lst r.fr;have e2:=Gb e h2;subst e2;exact⟨a,bs,rfl,n8.of h1,q _ H F r (aQ.refl F) rfl⟩
 ·cases h
def jl:List D->Option (List (List Nat))
 | []=>some []
 | .str x::r=>(jl r).map (x :: ·)
 | _=>none
def zq(sep:List Nat):List (List Nat)->List Nat
 | []=>[]
 | x::r=>r.foldl (λacc y=>acc++sep++y) x
def R7(sep:List Nat)(xs:List (List Nat)):Txt.join (strOf sep) (xs.map strOf)=strOf (zq sep xs):=by
 unfold Txt.join;unfold Builtin.Str.glued;cases xs with
 | nil=>rfl
 | cons x r=>
  show(⟨(r.map strOf).foldl (λacc p=>acc++(strOf sep).cps++p.cps) (strOf x).cps⟩:Str)=strOf (r.foldl (λacc y=>acc++sep++y) x);have go:∀(r:List (List Nat)) (x:List Nat),(r.map strOf).foldl (λacc p=>acc++(strOf sep).cps++p.cps) (strOf x).cps=(strOf (r.foldl (λacc y=>acc++sep++y) x)).cps:=by
   intro r
   induction r with
   | nil=>intro x;rfl
   | cons y r ih=>
    intro x;rw[List.map_cons,List.foldl_cons,List.foldl_cons];rw[<-ih (x++sep++y)]
    congr 1
    simp[strOf]
  rw[go]
theorem vP{K:Fg}{F:Hp}:∀{ds:List D} {xs:List (List Nat)} {vs:List V},jl ds=some xs->bT K F ds vs->vs=xs.map λx=>V.str (strOf x)
 | [],bs,vs,h,hr=>by simp[jl] at h;subst h;cases hr;rfl
 | d::ds,bs,vs,h,hr=>by
  obtain⟨v,r,rfl,h1,h2⟩:=hr;cases d with
  | str b=>
   simp only[jl] at h;cases e:jl ds with
   | none=>rw[e] at h;cases h
   | some cs=>
    rw[e] at h;cases h;cases h1.1;rw[vP e h2]
    rfl
  | _=>simp[jl] at h
theorem vq:∀{xs:List (List Nat)} {us:List Value},Vals (xs.map λx=>V.str (strOf x)) us->StrsAre us (xs.map strOf)
 | [],_,.nil=>.nil
 | x::xs,_,.cons r t=>by
  obtain⟨k,rfl⟩:=r;exact .cons _ k (vq t)
def joinFits(sep:List Nat)(xs:List (List Nat)):Bool:=decide ((xs.map List.length).sum+xs.length*sep.length<=16777216)
def rJoin(K:Fg):V->List V->Hp->VK->Prop:=λx vs H Q=>∃sep xs p,x = .str (strOf sep)/\vs=[.ref p]/\n8 K H p (xs.map λx=>V.str (strOf x))/\joinFits sep xs=true/\Q (.str (strOf (zq sep xs))) H
def V1:MtR X "str.join" (rJoin X.K):=by
 intro pins s σ H x vs v us Q I rx rv h;obtain⟨sep,xs,p,rfl,rfl,hq,hf,q⟩:=h;obtain⟨t,rfl⟩:=rx;obtain⟨u,rfl,ru⟩:=vals1 rv;cases ru;obtain⟨its,r,pl,_⟩:=I.list hq;have hs:=vq r;refine join_list pl.isList (by simpa using hs) ?_ λt' k=>?_
 ·have hf':=of_decide_eq_true hf;have e:((xs.map strOf).map (·.length))=xs.map List.length:=by
   rw[List.map_map];apply List.map_congr_left;intro z _;exact dY z
  rw[e,dY,List.length_map];exact hf'
 ·rw[R7];exact⟨.str _,H,I.tok k,⟨t',rfl⟩,q⟩
theorem Fq(sep:List Nat):∀(r:List (List Nat)) (x:List Nat),(r.foldl (λacc y=>acc++sep++y) x).length=x.length+(r.map List.length).sum+r.length*sep.length
 | [],x=>by simp
 | y::r,x=>by
  rw[List.foldl_cons,Fq sep r,List.length_append,List.length_append,List.map_cons,List.sum_cons,List.length_cons,Nat.add_mul];omega
def R8{sep:List Nat}{xs:List (List Nat)}(h:joinFits sep xs=true):(zq sep xs).length<=sizeLine:=by
 have h':=of_decide_eq_true h;rw[sizeLine_eq];cases xs with
 | nil=>simp[zq]
 | cons x r=>
  show(r.foldl (λacc y=>acc++sep++y) x).length<=_;rw[Fq];rw[List.map_cons,List.sum_cons,List.length_cons,Nat.add_mul] at h';omega
def nU(x y:D):Option D:=match x,y with
 | .str sep,.lst ds=>(match jl ds with
  | some xs=>if joinFits sep xs=true then some (.str (zq sep xs)) else none
  | none=>none)
 | _,_=>none
def Vo{o e:Expr}{a b:Ev}{apos cpos:Pos}(hK:X.K=C.K)(ho:PX X C o a)(he:Aa X C e b)(hbase:attributeBase o "join" X.env (eval o X.env)=eval o X.env:=by rfl)
  (hs:xG e X.env:=by rfl)
  (hfew:((backTo cpos (starEach [e] X.env)).all (λx=>!x.1)&&(backToKw cpos (keywordEach [] X.env)).all (λx=>x.1.isSome)
   && decide ([e].length+([]:List Keyword).length+(if ([]:List Keyword).isEmpty then 0 else 1)<30))=true:=by rfl)
  (hline:(apos.endLine == cpos.line)=true:=by rfl) (hplain:(backTo cpos (starEach [] X.env)).any (·.1)=false:=by rfl) :
  PX X C (.Call (.Attribute o "join" apos) [e] [] cpos) (aH nU a b):=by
 refine(Xu PySem.F.plainAttrs_str PySem.F.slot_str_join PySem.F.type_str_join V1 ho (iH he vR hs) hbase hfew hline hs hplain).imp λσ H Q h=>?_;obtain⟨Pr,F,env,env',d,rl,e0,q⟩:=h;obtain⟨x,aM,e1,e2⟩:=aW e0;obtain⟨y,dH,e3,e4⟩:=aW e2;obtain⟨e5,rfl⟩:=eZ e4;unfold nU at e5;split at e5
 ·rename_i sep ds;split at e5
  ·rename_i xs hxs;split at e5
   ·rename_i hf;cases e5;refine⟨Pr,F,env,aM,_,rl,e1,λvx H1 F1 r1 s1 p1=>?_⟩;obtain⟨rfl,_⟩:=p1;refine⟨rfl,Pr,F1,aM,env',_,r1,e3,λvy H2 F2 r2 s2 p2=>?_⟩;obtain⟨z,l,ws,rfl,h1,h2⟩:=p2.lst r2.fr;have e6:=vP hxs h2;subst e6;exact⟨sep,xs,l,rfl,rfl,n8.of h1,hf,q _ H2 F2 r2 (s1.trans s2) ⟨rfl,R8 hf⟩⟩
   ·cases e5
  ·cases e5
 ·cases e5
end
def Rel.put{C:Cfg}{Pr F:Hp}{env:Env}{σ:L2.St}{H:Hp}(r:Rel C Pr F env σ H){i:Nat}{d:D}{v:V}(hfx:C.fx i=none)(p:Rep C.K F d v):Rel C Pr F (env.set i (some (false,d))) (σ.set i (some v)) H:=by
 refine⟨r.pr,r.fr,by rw[List.length_set,List.length_set];exact r.len,λj e he=>?_,λj e he=>?_,λj k e f b hj hk g1 g2=>?_,r.dj,λj a hj=>?_⟩
 ·by_cases hji:j=i
  ·subst hji;have hl:j<env.length:=by
    have:=(List.getElem?_eq_some_iff.mp he).1
    rwa [List.length_set] at this
   rw[List.getElem?_set_self hl] at he;cases he;exact⟨v,List.getElem?_set_self (by rw[<-r.len];exact hl),p⟩
  ·rw[List.getElem?_set_ne (Ne.symm hji)] at he ⊢;exact r.val j e he
 ·by_cases hji:j=i
  ·subst hji;have hl:j<env.length:=by
    have:=(List.getElem?_eq_some_iff.mp he).1
    rwa [List.length_set] at this
   rw[List.getElem?_set_self hl] at he;cases he
  ·rw[List.getElem?_set_ne (Ne.symm hji)] at he ⊢;exact r.own j e he
 ·have nn:∀(j:Nat) (e:D),(env.set i (some (false,d)))[j]? = some (some (true,e))->j≠i:=λj e he z=>by
   subst z;have hl:j<env.length:=by
    have:=(List.getElem?_eq_some_iff.mp he).1
    rwa [List.length_set] at this
   rw[List.getElem?_set_self hl] at he;cases he
  have nj:=nn j e hj;have nk:=nn k f hk;rw[List.getElem?_set_ne (Ne.symm nj)] at hj g1;rw[List.getElem?_set_ne (Ne.symm nk)] at hk g2;exact r.apart j k e f b hj hk g1 g2
 ·have hji:j≠i:=λz=>by rw[z,hfx] at hj;cases hj
  rw[List.getElem?_set_ne (Ne.symm hji)];exact r.fix j a hj
structure Ug(K:Fg)(Pr F:Hp)(env:Env)(σ:L2.St)(H:Hp)(d:D)(a:Addr):Prop where
 own:j0 K F H d a
 nF:F a=none
 nP:Pr a=none
 ap:∀(j:Nat) (e:D),env[j]? = some (some (true,e))->σ[j]? = some (some (V.ref a))->False
def Ug.of{C:Cfg}{Pr F:Hp}{env:Env}{σ:L2.St}{H:Hp}{a:Addr}{o:HO}{d:D}(r:Rel C Pr F env σ H)(h:H a=none)(ho:j0 C.K F (upd H a o) d a):Ug C.K Pr F env σ (upd H a o) d a:=
 ⟨ho,r.fr.free h,r.pr.free h,λj e he hs=>by
  obtain⟨b,h1,h2,_⟩:=r.own j e he;rw[hs] at h1;cases h1;obtain⟨u,hu⟩:=h2.some;rw[h] at hu;cases hu⟩
def Rel.QT{C:Cfg}{Pr F:Hp}{env:Env}{σ:L2.St}{H:Hp}(r:Rel C Pr F env σ H){i:Nat}{d:D}{a:Addr}(hfx:C.fx i=none)(n:Ug C.K Pr F env σ H d a):Rel C Pr F (env.set i (some (true,d))) (σ.set i (some (.ref a))) H:=by
 have same:∀(j:Nat) (x:Bool×D),(env.set i (some (true,d)))[j]? = some (some x)->j=i->x=(true,d)/\j<env.length:=λj x he z=>by
  subst z;have hl:j<env.length:=by
   have:=(List.getElem?_eq_some_iff.mp he).1
   rwa [List.length_set] at this
  rw[List.getElem?_set_self hl] at he;cases he;exact⟨rfl,hl⟩
 refine⟨r.pr,r.fr,by rw[List.length_set,List.length_set];exact r.len,λj e he=>?_,λj e he=>?_,λj k e f b hj hk g1 g2=>?_,r.dj,λj a hj=>?_⟩
 ·by_cases hji:j=i
  ·have:=(same j _ he hji).1;cases this
  ·rw[List.getElem?_set_ne (Ne.symm hji)] at he ⊢;exact r.val j e he
 ·by_cases hji:j=i
  ·obtain⟨z,hl⟩:=same j _ he hji;cases z;subst hji;exact⟨a,List.getElem?_set_self (by rw[<-r.len];exact hl),n.own,n.nF,n.nP⟩
  ·rw[List.getElem?_set_ne (Ne.symm hji)] at he ⊢;exact r.own j e he
 ·by_cases nj:j=i
  ·by_cases nk:k=i
   ·rw[nj,nk]
   ·obtain⟨z,hl⟩:=same j _ hj nj;subst nj;rw[List.getElem?_set_self (by rw[<-r.len];exact hl)] at g1;cases g1;rw[List.getElem?_set_ne (Ne.symm nk)] at hk g2;exact(n.ap k f hk g2).elim
  ·rw[List.getElem?_set_ne (Ne.symm nj)] at hj g1;by_cases nk:k=i
   ·obtain⟨z,hl⟩:=same k _ hk nk;subst nk;rw[List.getElem?_set_self (by rw[<-r.len];exact hl)] at g2;cases g2;exact(n.ap j e hj g1).elim
   ·rw[List.getElem?_set_ne (Ne.symm nk)] at hk g2;exact r.apart j k e f b hj hk g1 g2
 ·have hji:j≠i:=λz=>by rw[z,hfx] at hj;cases hj
  rw[List.getElem?_set_ne (Ne.symm hji)];exact r.fix j a hj
def Rel.keep{C:Cfg}{Pr F:Hp}{env:Env}{σ:L2.St}{H:Hp}{d:D}{a:Addr}(r:Rel C Pr F env σ H)(n:Ug C.K Pr F env σ H d a):∃F',Rel C Pr F' env σ H/\aQ F F'/\Rep C.K F' d (.ref a):=by
 obtain⟨o,ho⟩:=n.own.some;have s1:aQ F (upd F a o):=lN n.nF;have rep:Rep C.K (upd F a o) d (.ref a):=by
  have h2:=n.own;cases d with
  | lst xs=>obtain⟨z,vs,g1,g2⟩:=h2;rw[ho] at g1;cases g1;exact⟨z,a,vs,rfl,aZ,bT.mono s1 _ _ g2⟩
  | dct kvs=>obtain⟨z,ks,g1,g2⟩:=h2;rw[ho] at g1;cases g1;exact⟨z,a,ks,rfl,.inl aZ,dR.mono s1 _ _ g2⟩
  | gR kvs=>obtain⟨z,ks,g1,g2⟩:=h2;rw[ho] at g1;cases g1;exact⟨z,a,ks,rfl,.inl aZ,cU.mono s1 _ _ g2⟩
  | _=>exact h2.elim
 refine⟨upd F a o,⟨r.pr,λb u e=>?_,r.len,λj e he=>?_,λj e he=>?_,r.apart,λb u e=>?_,r.fix⟩,s1,rep⟩
 ·by_cases hb:b=a
  ·subst hb;rw[aZ] at e;cases e;exact ho
  ·rw[bH hb] at e;exact r.fr b u e
 ·obtain⟨v,g1,g2⟩:=r.val j e he;exact⟨v,g1,Rep.mono s1 e v g2⟩
 ·obtain⟨b,g1,g2,g3,g4⟩:=r.own j e he;have hb:b≠a:=λz=>by subst z;exact n.ap j e he g1
  exact⟨b,g1,g2.mono s1 rfl,by rw[bH hb];exact g3,g4⟩
 ·by_cases hb:b=a
  ·subst hb;exact n.nP
  ·rw[bH hb] at e;exact r.dj b u e
def Rel.write{C:Cfg}{Pr F:Hp}{env:Env}{σ:L2.St}{H:Hp}{i:Nat}{d d':D}{a:Addr}{u:HO}(r:Rel C Pr F env σ H)(h:env[i]? = some (some (true,d)))(hs:σ[i]? = some (some (V.ref a)))(ho:j0 C.K F (upd H a u) d' a) :
  Rel C Pr F (env.set i (some (true,d'))) σ (upd H a u):=by
 obtain⟨a',h1,h2,h3,h4⟩:=r.own i d h;rw[hs] at h1;cases h1;have hi:i<env.length:=(List.getElem?_eq_some_iff.mp h).1;have ne:∀(j:Nat) (e:D) (b:Addr),j≠i->env[j]? = some (some (true,e))->σ[j]? = some (some (V.ref b))->b≠a:=λj e b hj he g z=>hj (r.apart j i e d a he h (by rw[<-z];exact g) hs);refine⟨λb w e=>?_,λb w e=>?_,by rw[List.length_set];exact r.len,λj e he=>?_,λj e he=>?_,λj k e f b hj hk g1 g2=>?_,r.dj,r.fix⟩
 ·have hb:b≠a:=λz=>by rw[z,h4] at e;cases e
  rw[bH hb];exact r.pr b w e
 ·have hb:b≠a:=λz=>by rw[z,h3] at e;cases e
  rw[bH hb];exact r.fr b w e
 ·by_cases hj:j=i
  ·subst hj;rw[List.getElem?_set_self hi] at he;cases he
  ·rw[List.getElem?_set_ne (Ne.symm hj)] at he;exact r.val j e he
 ·by_cases hj:j=i
  ·subst hj;rw[List.getElem?_set_self hi] at he;cases he;exact⟨a,hs,ho,h3,h4⟩
  ·rw[List.getElem?_set_ne (Ne.symm hj)] at he;obtain⟨b,g1,g2,g3,g4⟩:=r.own j e he;exact⟨b,g1,g2.mono (aQ.refl F) (bH (ne j e b hj he g1)),g3,g4⟩
 ·have un:∀(j:Nat) (e:D),(env.set i (some (true,d')))[j]? = some (some (true,e))->∃e',env[j]? = some (some (true,e')):=λj e he=>by
   by_cases hj:j=i
   ·subst hj;exact⟨d,h⟩
   ·rw[List.getElem?_set_ne (Ne.symm hj)] at he;exact⟨e,he⟩
  obtain⟨e',hj'⟩:=un j e hj;obtain⟨f',hk'⟩:=un k f hk;exact r.apart j k e' f' b hj' hk' g1 g2
def tN(C:Cfg)(ev:Ev):TE:=λσ H Q=>∃(Pr F:Hp) (env env':Env) (d:D),Rel C Pr F env σ H/\ev env = .ok d env'/\
 ∀a H' F',Rel C Pr F' env' σ H'->aQ F F'->Ug C.K Pr F' env' σ H' d a->Q (.ref a) H'
def J8(X:Cx)(C:Cfg)(e:Expr)(ev:Ev):Prop:=PE X e (tN C ev)
section
variable{X:Cx}{C:Cfg}{pos:Pos}
def J8.px{e:Expr}{ev:Ev}(h:J8 X C e ev):PX X C e ev:=PE.imp h λσ H Q hq=>by
 obtain⟨Pr,F,env,env',d,r,e,q⟩:=hq;refine⟨Pr,F,env,env',d,r,e,λa H' F' r' s' n'=>?_⟩;obtain⟨F2,r2,s2,p2⟩:=r'.keep n';exact q _ _ F2 r2 (s'.trans s2) p2
def Kz{es:List Expr}{r:cV}(h:Cr X C es r):J8 X C (.List es pos) (cC r):=(Z7 h).imp λσ H Q hq=>by
 obtain⟨Pr,F,env,env',d,rl,e,q⟩:=hq;obtain⟨ds,aM,e1,e2⟩:=aW e;split at e2
 ·rename_i hz;cases e2;refine⟨Pr,F,env,env',ds,rl,e1,λvs H1 F1 r1 s1 p1=>⟨by rw[p1.length];exact hz,λp hp=>?_⟩⟩;exact q _ _ F1 (r1.fresh hp) s1 (Ug.of r1 hp ⟨hz,vs,aZ,p1⟩)
 ·cases e2
abbrev GV:=D->Env->Option Env
abbrev Mg:=List D->Env->Option Env
def tG(C:Cfg)(lo:Nat)(gv:GV):TG:=λv σ H Q=>∃(Pr F:Hp) (env env':Env) (d:D),Rel C Pr F env σ H/\Rep C.K F d v/\gv d env=some env'/\
 ∀σ' H' F',Rel C Pr F' env' σ' H'->aQ F F'->σ'.take lo=σ.take lo->Q σ' H'
def tGs(C:Cfg)(lo:Nat)(gv:Mg):WX:=λvs σ H Q=>∃(Pr F:Hp) (env env':Env) (ds:List D),Rel C Pr F env σ H/\bT C.K F ds vs/\gv ds env=some env'/\
 ∀σ' H' F',Rel C Pr F' env' σ' H'->aQ F F'->σ'.take lo=σ.take lo->Q σ' H'
def Ka(X:Cx)(C:Cfg)(lo:Nat)(e:Expr)(gv:GV):Prop:=PG X e (tG C lo gv)
def Oi(X:Cx)(C:Cfg)(lo:Nat)(es:List Expr)(gv:Mg):Prop:=Ym X es (tGs C lo gv)
def _root_.L2.PG.imp{X:Cx}{e:Expr}{t t':TG}(h:PG X e t)(i:∀v σ H Q,t' v σ H Q->t v σ H Q):PG X e t':=λpins s σ H v u Q I r q=>h pins s σ H v u Q I r (i v σ H Q q)
def _root_.L2.Ym.imp{X:Cx}{e:List Expr}{t t':WX}(h:Ym X e t)(i:∀v σ H Q,t' v σ H Q->t v σ H Q):Ym X e t':=λpins s σ H v u Q I r q=>h pins s σ H v u Q I r (i v σ H Q q)
def aj(i:Nat):GV:=λd env=>some (env.set i (some (false,d)))
def QM{lo i:Nat}{x:Str}(hN:X.N.Nodup)(hi:X.N[i]? = some x)(hx:Loc X.env.scope x)(hlo:lo<=i)(hfx:C.fx i=none)(hf:X.fn x=true\/X.env.scope.names.lookup x=some .local:=by first|exact .inl rfl|exact .inr rfl|assumption):Ka X C lo (.Name x pos) (aj i):=
 (VB hN hi hx hf).imp λv σ H Q h=>by
  obtain⟨Pr,F,env,env',d,r,p,e,q⟩:=h;cases e;exact q _ _ F (r.put hfx p) (aQ.refl F) (by rw[List.take_set_of_le hlo])
def cN:Mg:=λds env=>if ds.isEmpty then some env else none
def aG(g:GV)(gs:Mg):Mg:=λds env=>match ds with
 | d::r=>(g d env).bind λe1=>gs r e1
 | []=>none
def QL{lo:Nat}:Oi X C lo [] cN:=Vz.imp λv σ H Q h=>by
 obtain⟨Pr,F,env,env',ds,r,p,e,q⟩:=h;cases ds with
 | nil=>cases e;cases p;exact⟨rfl,q _ _ F r (aQ.refl F) rfl⟩
 | cons d ds=>cases e
def MN{lo:Nat}{e:Expr}{es:List Expr}{g:GV}{gs:Mg}(h1:Ka X C lo e g)(h2:Oi X C lo es gs)
  (hs:(assignEach (e::es) X.env).map (·.2)=assign e X.env::(assignEach es X.env).map (·.2):=by rfl):Oi X C lo (e::es) (aG g gs):=(Q9 h1 h2 hs).imp λv σ H Q h=>by
 obtain⟨Pr,F,env,env',ds,r,p,e,q⟩:=h;cases ds with
 | nil=>cases e
 | cons d ds=>
  obtain⟨u,w,rfl,p1,p2⟩:=p;obtain⟨aM,e1,e2⟩:=Option.bind_eq_some_iff.mp e;refine⟨u,w,rfl,Pr,F,env,aM,d,r,p1,e1,λσ1 H1 F1 r1 s1 t1=>?_⟩;exact⟨Pr,F1,aM,env',ds,r1,bT.mono s1 _ _ p2,e2,λσ2 H2 F2 r2 s2 t2=>q σ2 H2 F2 r2 (s1.trans s2) (t2.trans t1)⟩
def cJ(n:Nat)(gs:Mg):GV:=λd env=>match d with
 | .tup ds=>if ds.length=n then gs ds env else none
 | _=>none
def Vl{lo:Nat}{es:List Expr}{k:Nat}{gs:Mg}{n:Nat}(hc:X.calm=true)(hK:X.K=C.K)(h:Oi X C lo es gs)
  (hn:(assignEach es X.env).length=n:=by rfl) (hst:(assignEach es X.env).findIdx? (·.1)=none:=by rfl):Ka X C lo (.Tuple es k pos) (cJ n gs):=(ZZ hc h hn hst).imp λv σ H Q h=>by
 obtain⟨Pr,F,env,env',d,r,p,e,q⟩:=h;cases d with
 | tup ds=>
  obtain⟨z,a,vs,rfl,h1,h2⟩:=p;unfold cJ at e;simp only at e;split at e
  ·rename_i hl;rw[hK];exact⟨a,vs,rfl,aQ.tupK r.fr h1,by rw[h2.length];exact hl,Pr,F,env,env',ds,r,h2,e,q⟩
  ·cases e
 | _=>cases e
def SJ(i:Nat)(ix:Ev):GV:=λd env=>match env[i]? with
 | some (some (_,_))=>(match ix env with
  | .ok (.int k) aM=>(match aM[i]? with
   | some (some (true,.lst xs))=>(Wc xs.length k).map λj=>aM.set i (some (true,.lst (xs.set j d)))
   | _=>none)
  | _=>none)
 | _=>none
def Zk{lo i:Nat}{x:Str}{ix:Expr}{ev:Ev}{px:Pos}(hN:X.N[i]? = some x)(hv:pD X.env.scope x)(h:PX X C ix ev)
  (ha:∀v,assign (.Subscript (.Name x px) ix pos) X.env v=(do
   let ov <-holding [v] (eval (.Name x px) X.env)
   let iv <-holding [v,ov] (eval ix X.env)
   standAt pos
   holding [v,ov,iv] (setItem ov iv v)
   release [v,ov,iv] []):=by intro _;rfl)
  (hd:iZ x:=by decide) (hcd:oU x:=by decide):Ka X C lo (.Subscript (.Name x px) ix pos) (SJ i ev):=
 (Z0 (jk hN hv hd hcd) h set_list ha).imp λv σ H Q hq=>by
  obtain⟨Pr,F,env,env',d,r,p,e,q⟩:=hq;unfold SJ at e;split at e
  ·rename_i o0 d0 h0;obtain⟨v0,hv0,_⟩:=r.rd h0;split at e
   ·rename_i k aM e1;split at e
    ·rename_i xs h2;obtain⟨j,hj,e3⟩:=Option.map_eq_some_iff.mp e;subst e3;refine⟨v0,hv0,Pr,F,env,aM,.int k,r,e1,λvi H1 F1 r1 s1 p1=>?_⟩;cases p1;obtain⟨a,g1,⟨z,vs,g2,g3⟩,g4,g5⟩:=r1.own i _ h2;rw[hv0] at g1;cases g1;refine⟨a,vs,k,j,rfl,rfl,g2,by rw[g3.length];exact hj,?_⟩;refine q σ _ F1 (r1.write h2 hv0 ⟨by rw[List.length_set];exact z,vs.set j v,aZ,bT.set (Rep.mono s1 d v p) j g3⟩) s1 rfl
    ·cases e
   ·cases e
  ·cases e
end
inductive Out where
 | nx (env:Env)
 | rt (o:Bool) (d:D) (env:Env)
 | bk (env:Env)
 | ct (env:Env)
 | stuck
abbrev bW:=Env->Out
def Fin(C:Cfg)(Pr F:Hp)(D:Ends):Out->Prop
 | .nx env'=>∀σ' H' F',Rel C Pr F' env' σ' H'->aQ F F'->D.nx σ' H'
 | .rt false d env'=>∀v σ' H' F',Rel C Pr F' env' σ' H'->aQ F F'->Rep C.K F' d v->D.rt v H'
 | .rt true d env'=>∀a σ' H' F',Rel C Pr F' env' σ' H'->aQ F F'->Ug C.K Pr F' env' σ' H' d a->D.rt (.ref a) H'
 | .bk env'=>∀σ' H' F',Rel C Pr F' env' σ' H'->aQ F F'->D.bk σ' H'
 | .ct env'=>∀σ' H' F',Rel C Pr F' env' σ' H'->aQ F F'->D.ct σ' H'
 | .stuck=>False
theorem Fin.mono{C:Cfg}{Pr F F1:Hp}{D:Ends}(s:aQ F F1):∀{o:Out},Fin C Pr F D o->Fin C Pr F1 D o
 | .nx _,h=>λσ' H' F' r t=>h σ' H' F' r (s.trans t)
 | .rt false _ _,h=>λv σ' H' F' r t=>h v σ' H' F' r (s.trans t)
 | .rt true _ _,h=>λv σ' H' F' r t=>h v σ' H' F' r (s.trans t)
 | .bk _,h=>λσ' H' F' r t=>h σ' H' F' r (s.trans t)
 | .ct _,h=>λσ' H' F' r t=>h σ' H' F' r (s.trans t)
 | .stuck,h=>h
def tS(C:Cfg)(ev:bW):TS:=λD σ H=>∃(Pr F:Hp) (env:Env),Rel C Pr F env σ H/\Fin C Pr F D (ev env)
def yw(X:Cx)(C:Cfg)(st:Stmt)(ev:bW):Prop:=PS X st (tS C ev)
def my(X:Cx)(C:Cfg)(st:List Stmt)(ev:bW):Prop:=Et X st (tS C ev)
def dD{α:Type}(x:R α)(f:α->Env->Out):Out:=match x with
 | .ok a env=>f a env
 | .stuck=>.stuck
def dJ{C:Cfg}{Pr F:Hp}{D:Ends}{α:Type}{x:R α}{f:α->Env->Out}(h:Fin C Pr F D (dD x f)):∃a aM,x = .ok a aM/\Fin C Pr F D (f a aM):=by
 cases x with
 | ok a aM=>exact⟨a,aM,rfl,h⟩
 | stuck=>exact h.elim
section
variable{X:Cx}{C:Cfg}{pos:Pos}
def bN:bW:=λenv=>.nx env
def aC(a b:bW):bW:=λenv=>match a env with
 | .nx e=>b e
 | .rt o d e=>.rt o d e
 | .bk e=>.bk e
 | .ct e=>.ct e
 | .stuck=>.stuck
def Qy:my X C [] bN:=Vs.imp λD σ H h=>by
 obtain⟨Pr,F,env,r,f⟩:=h;exact f σ H F r (aQ.refl F)
def My{st:Stmt}{rest:List Stmt}{a b:bW}(h1:yw X C st a)(h2:my X C rest b):my X C (st::rest) (aC a b):=(QX h1 h2).imp λD σ H h=>by
 obtain⟨Pr,F,env,r,f⟩:=h;refine⟨Pr,F,env,r,?_⟩;unfold aC at f;cases e:a env with
 | nx e1=>rw[e] at f;exact λσ' H' F' r' s'=>⟨Pr,F',e1,r',f.mono s'⟩
 | rt o d e1=>rw[e] at f;cases o<;>exact f
 | bk e1=>rw[e] at f;exact f
 | ct e1=>rw[e] at f;exact f
 | stuck=>rw[e] at f;exact f
def Qx{st:Stmt}{a:bW}(h1:yw X C st a):my X C [st] a:=KH h1
def Dk:yw X C (.Continue pos) (λenv=>.ct env):=Gp.imp λD σ H h=>by
 obtain⟨Pr,F,env,r,f⟩:=h;exact f σ H F r (aQ.refl F)
def cY(t:d8)(a b:bW):bW:=λenv=>dD (t env) λc aM=>if c=true then a aM else b aM
def Zh{c:Expr}{a b:List Stmt}{t:d8}{ea eb:bW}(hc:Hx X C c t)(ha:my X C a ea)(hb:my X C b eb):yw X C (.If c a b pos) (cY t ea eb):=(adT hc ha hb).imp λD σ H h=>by
 obtain⟨Pr,F,env,r,f⟩:=h;obtain⟨k,aM,e1,f1⟩:=dJ f;refine⟨Pr,F,env,aM,k,r,e1,λH1 F1 r1 s1=>?_⟩;split at f1
 ·rename_i hk;rw[if_pos hk];exact⟨Pr,F1,aM,r1,f1.mono s1⟩
 ·rename_i hk;rw[if_neg hk];exact⟨Pr,F1,aM,r1,f1.mono s1⟩
def bA(a:Ev):bW:=λenv=>dD (a env) λd aM=>.rt false d aM
def Vd{e:Expr}{a:Ev}(h:PX X C e a):yw X C (.Return (some e) pos) (bA a):=(Jj h).imp λD σ H hq=>by
 obtain⟨Pr,F,env,r,f⟩:=hq;obtain⟨d,aM,e1,f1⟩:=dJ f;exact⟨Pr,F,env,aM,d,r,e1,λv H1 F1 r1 s1 p1=>f1 v σ H1 F1 r1 s1 p1⟩
def pW(a:Ev):bW:=λenv=>dD (a env) λd aM=>.rt true d aM
def Jf{e:Expr}{a:Ev}(h:J8 X C e a):yw X C (.Return (some e) pos) (pW a):=(Jj h).imp λD σ H hq=>by
 obtain⟨Pr,F,env,r,f⟩:=hq;obtain⟨d,aM,e1,f1⟩:=dJ f;exact⟨Pr,F,env,aM,d,r,e1,λv H1 F1 r1 s1 p1=>f1 v σ H1 F1 r1 s1 p1⟩
def Y5:bW:=λenv=>.rt false .non env
def BK(o:Option Env):Out:=match o with
 | some e=>.nx e
 | none=>.stuck
def aJ(a:Ev)(g:GV):bW:=λenv=>dD (a env) λd aM=>BK (g d aM)
def ab3{a:Ev}{g:GV}{D:Ends}{σ:L2.St}{H:Hp}(h:tS C (aJ a g) D σ H):Ut (tE C a) (tG C 0 g) D σ H:=by
 obtain⟨Pr,F,env,r,f⟩:=h;obtain⟨d,aM,e1,f1⟩:=dJ f;refine⟨Pr,F,env,aM,d,r,e1,λv H1 F1 r1 s1 p1=>?_⟩;cases e2:g d aM with
 | none=>rw[e2] at f1;exact f1.elim
 | some dH=>rw[e2] at f1;exact⟨Pr,F1,aM,dH,d,r1,p1,e2,λσ2 H2 F2 r2 s2 _=>f1 σ2 H2 F2 r2 (s1.trans s2)⟩
def Vg{tg e:Expr}{a:Ev}{g:GV}(he:PX X C e a)(hg:Ka X C 0 tg g)(hs:swapsWithSole [tg] e pos.line X.env=pure false:=by rfl)(hw:swappedStores [tg] e X.env=pure none:=by rfl)
  (h1:(assignEach [tg] X.env).map (·.2)=[assign tg X.env]:=by rfl):yw X C (.Assign [tg] e pos) (aJ a g):=(ZS he hg hs hw h1).imp λD σ H h=>ab3 h
def Vc{i:Nat}{x:Str}{e:Expr}{a:Ev}{pos':Pos}(hN:X.N.Nodup)(hi:X.N[i]? = some x)(hx:Loc X.env.scope x)(hfx:C.fx i=none)(he:PX X C e a)(hs:swapsWith e (some (.Name x pos')) pos.line X.env=pure false:=by rfl)(hf:X.fn x=true\/X.env.scope.names.lookup x=some .local:=by first|exact .inl rfl|exact .inr rfl|assumption) :
  yw X C (.Assign [.Name x pos'] e pos) (aJ a (aj i)):=(Q3 hN hi hx he hs hf).imp λD σ H h=>by
 obtain⟨Pr,F,env,r,f⟩:=h;obtain⟨d,aM,e1,f1⟩:=dJ f;exact⟨Pr,F,env,aM,d,r,e1,λv H1 F1 r1 s1 p1=>f1 _ H1 F1 (r1.put hfx p1) s1⟩
def dq(i:Nat)(a:Ev):bW:=λenv=>dD (a env) λd aM=>.nx (aM.set i (some (true,d)))
def Ve{i:Nat}{x:Str}{e:Expr}{a:Ev}{pos':Pos}(hN:X.N.Nodup)(hi:X.N[i]? = some x)(hx:Loc X.env.scope x)(hfx:C.fx i=none)(he:J8 X C e a)(hs:swapsWith e (some (.Name x pos')) pos.line X.env=pure false:=by rfl)(hf:X.fn x=true\/X.env.scope.names.lookup x=some .local:=by first|exact .inl rfl|exact .inr rfl|assumption) :
  yw X C (.Assign [.Name x pos'] e pos) (dq i a):=(Q3 hN hi hx he hs hf).imp λD σ H h=>by
 obtain⟨Pr,F,env,r,f⟩:=h;obtain⟨d,aM,e1,f1⟩:=dJ f;exact⟨Pr,F,env,aM,d,r,e1,λv H1 F1 r1 s1 p1=>f1 _ H1 F1 (r1.QT hfx p1) s1⟩
def gG(i:Nat)(a:Ev):bW:=λenv=>match env[i]? with
 | some (some (true,.lst _))=>dD (a env) λd aM=>(match aM[i]? with
  | some (some (true,.lst xs))=>if xs.length<sizeLine then .nx (aM.set i (some (true,.lst (xs++[d])))) else .stuck
  | _=>.stuck)
 | _=>.stuck
def Vh{i:Nat}{x:Str}{e:Expr}{a:Ev}{px apos cpos:Pos}(hN:X.N[i]? = some x)(hv:pD X.env.scope x)(he:PX X C e a)(hK:X.K=C.K)
  (hs:swapsWith (.Call (.Attribute (.Name x px) "append" apos) [e] [] cpos) none pos.line X.env=pure false:=by rfl)
  (hfew:((backTo cpos (starEach [e] X.env)).all (λx=>!x.1)&&(backToKw cpos (keywordEach [] X.env)).all (λx=>x.1.isSome)
   && decide (([e]:List Expr).length+([]:List Keyword).length+(if ([]:List Keyword).isEmpty then 0 else 1)<30))=true:=by rfl)
  (hbase:attributeBase (.Name x px) "append" X.env (eval (.Name x px) X.env)=eval (.Name x px) X.env:=by rfl)
  (hline:(apos.endLine == cpos.line)=true:=by rfl) (hst:xG e X.env:=by rfl) (hplain:(backTo cpos (starEach [] X.env)).any (·.1)=false:=by rfl)
  (hd:iZ x:=by decide) (hcd:oU x:=by decide):yw X C (.Expr (.Call (.Attribute (.Name x px) "append" apos) [e] [] cpos) pos) (gG i a):=by
 refine PS.imp (Vt (Xu PySem.F.plainAttrs_list PySem.F.slot_list_append PySem.F.type_list_append By (jk hN hv hd hcd) (iH he vR hst) hbase hfew hline hst hplain) hs) λD σ H h=>?_;obtain⟨Pr,F,env,r,f⟩:=h;unfold gG at f;split at f
 ·rename_i xs0 h0;obtain⟨d,aM,e1,f1⟩:=dJ f;obtain⟨a0,hv0,⟨z0,vs0,g0,_⟩,_⟩:=r.own i _ h0;refine⟨_,hv0,.inl ⟨rfl,vs0,n8.of g0⟩,Pr,F,env,aM,d,r,e1,λv H1 F1 r1 s1 p1=>?_⟩;split at f1
  ·rename_i xs h1;split at f1
   ·rename_i hz;obtain⟨a,g1,⟨z,vs,g2,g3⟩,g4,g5⟩:=r1.own i _ h1;rw[hv0] at g1;cases g1;refine⟨a0,vs,v,rfl,rfl,g2,by rw[g3.length];exact hz,?_⟩;exact f1 σ _ F1 (r1.write h1 hv0 ⟨by rw[List.length_append];exact hz,vs++[v],aZ,g3.append (bT.one p1)⟩) s1
   ·exact f1.elim
  ·exact f1.elim
 ·exact f.elim
def qQ(K:Fg)(F:Hp)(ds:List D)(J:It):Prop:=∀(i:Nat) (H:Hp),aQ F H->(ds[i]? = none->i=ds.length->J.stop i H)/\∀d,ds[i]? = some d->J.go i H/\∀x H',J.yld i H x H'->
 (H'=H/\Rep K F d x)\/∃p vs es,H p=none/\H'=upd H p (.tup vs)/\x = .ref p/\d = .tup es/\es.length<=sizeLine/\bT K F es vs
def tI(C:Cfg)(ev:cV):TI:=λσ H R=>∃(Pr F:Hp) (env env':Env) (ds:List D),Rel C Pr F env σ H/\ev env = .ok ds env'/\
 ∀J H' F',Rel C Pr F' env' σ H'->aQ F F'->qQ C.K F' ds J->R J H'
def Mf(X:Cx)(C:Cfg)(tg iter:Expr)(ev:cV):Prop:=PI X tg iter (tI C ev)
def _root_.L2.PI.imp{X:Cx}{tg e:Expr}{t t':TI}(h:PI X tg e t)(i:∀σ H R,t' σ H R->t σ H R):PI X tg e t':=λpins s σ H R I q=>h pins s σ H R I (i σ H R q)
def qQ.item{Pr F F1:Hp}{env:Env}{σ:L2.St}{H:Hp}{ds:List D}{J:It}{i:Nat}{d:D}{x:V}{H':Hp}(r:Rel C Pr F1 env σ H)(s:aQ F F1)(y:qQ C.K F ds J)(hd:ds[i]? = some d)(hy:J.yld i H x H') :
  ∃F2,Rel C Pr F2 env σ H'/\aQ F1 F2/\Rep C.K F2 d x:=by
 rcases((y i H (s.trans r.fr)).2 d hd).2 x H' hy with ⟨rfl,p⟩|⟨p,vs,es,hp,rfl,rfl,rfl,hz,q⟩
 ·exact⟨F1,r,aQ.refl F1,Rep.mono s _ _ p⟩
 ·obtain⟨r2,s2⟩:=r.new (o:=.tup vs) hp;exact⟨_,r2,s2,hz,p,vs,rfl,lB.of aZ,bT.mono (s.trans s2) _ _ q⟩
def fM(g:GV)(b:bW):List D->bW
 | [],env=>.nx env
 | d::ds,env=>(match g d env with
  | none=>.stuck
  | some e1=>(match b e1 with
   | .nx e2=>fM g b ds e2
   | .ct e2=>fM g b ds e2
   | .bk e2=>.nx e2
   | .rt o d e2=>.rt o d e2
   | .stuck=>.stuck))
def fY(it:cV)(g:GV)(b:bW):bW:=λenv=>dD (it env) λds aM=>fM g b ds aM
def Vf{tg iter:Expr}{body:List Stmt}{it:cV}{g:GV}{b:bW}(hp:PassesOwn (model X.prog X.w) X.A X.env X.xe)(hc:X.calm=true)(hi:Mf X C tg iter it)(hg:Ka X C 0 tg g)(hb:my X C body b)
  (hs:∀x,foldedSetIterable iter X.env x=pure x:=by intro _;rfl):yw X C (.For tg iter body [] pos) (fY it g b):=(ZQ hp hc hi hg hb hs).imp λD σ H h=>by
 obtain⟨Pr,F,env,r,f⟩:=h;obtain⟨ds,aM,e1,f1⟩:=dJ f;refine⟨Pr,F,env,aM,ds,r,e1,λJ H1 F1 r1 s1 y1=>?_⟩;refine⟨λi m σ' H'=>m=ds.length - i/\i<=ds.length/\∃F' env',Rel C Pr F' env' σ' H'/\aQ F1 F'/\Fin C Pr F' D (fM g b (ds.drop i) env'),⟨ds.length,rfl,Nat.zero_le _,F1,aM,r1,aQ.refl _,f1.mono s1⟩,?_⟩;rintro i m σ' H' ⟨rfl,hi,F',env',r',s',f'⟩;by_cases hl:i<ds.length
 ·have hd:ds[i]? = some ds[i]:=List.getElem?_eq_getElem hl;have hdr:ds.drop i=ds[i]::ds.drop (i+1):=List.drop_eq_getElem_cons hl;have yy:=y1 i H' (s'.trans r'.fr);refine .inr ⟨(yy.2 _ hd).1,λσ2 H2=>∃F' env',Rel C Pr F' env' σ2 H2/\aQ F1 F'/\Fin C Pr F' D (fM g b (ds.drop (i+1)) env'),λσ2 H2 h2=>⟨ds.length - (i+1),by omega,rfl,hl,h2⟩,λx H2 hy=>?_⟩;obtain⟨F2,r2,s2,p2⟩:=qQ.item r' s' y1 hd hy;rw[hdr] at f';have f2:=f'.mono s2;unfold fM at f2;cases eg:g ds[i] env' with
  | none=>rw[eg] at f2;exact f2.elim
  | some e2=>
   rw[eg] at f2;refine⟨Pr,F2,env',e2,ds[i],r2,p2,eg,λσ3 H3 F3 r3 s3 _=>⟨Pr,F3,e2,r3,?_⟩⟩;simp only at f2;have s13:aQ F1 F3:=(s'.trans s2).trans s3;cases eb:b e2 with
   | nx e3=>rw[eb] at f2;exact λσ4 H4 F4 r4 s4=>⟨F4,e3,r4,s13.trans s4,f2.mono (s3.trans s4)⟩
   | ct e3=>rw[eb] at f2;exact λσ4 H4 F4 r4 s4=>⟨F4,e3,r4,s13.trans s4,f2.mono (s3.trans s4)⟩
   | bk e3=>rw[eb] at f2;exact λσ4 H4 F4 r4 s4=>f2 σ4 H4 F4 r4 (s3.trans s4)
   | rt o d e3=>rw[eb] at f2;cases o<;>exact λv σ4 H4 F4 r4 s4 p4=>f2 v σ4 H4 F4 r4 (s3.trans s4) p4
   | stuck=>rw[eb] at f2;exact f2.elim
 ·have e:i=ds.length:=by omega
  subst e;rw[List.drop_length] at f';exact .inl ⟨(y1 _ H' (s'.trans r'.fr)).1 (List.getElem?_eq_none (Nat.le_refl _)) rfl,f' σ' H' F' r' (aQ.refl F')⟩
def dU(t:d8)(b:bW):Nat->bW
 | 0,_=>.stuck
 | n+1,env=>dD (t env) λc e1=>if c=true then (match b e1 with
   | .nx e2=>dU t b n e2
   | .ct e2=>dU t b n e2
   | .bk e2=>.nx e2
   | .rt o d e2=>.rt o d e2
   | .stuck=>.stuck) else .nx e1
def MF{c:Expr}{body:List Stmt}{t:d8}{b:bW}(n:Nat)(hp:PassesOwn (model X.prog X.w) X.A X.env X.xe)(hc:Hx X C c t)(hb:my X C body b):yw X C (.While c body [] pos) (dU t b n):=(QZ hp hc hb).imp λD σ H h=>by
 obtain⟨Pr,F,env,r,f⟩:=h;refine⟨λm σ' H'=>∃F' env',Rel C Pr F' env' σ' H'/\aQ F F'/\Fin C Pr F' D (dU t b m env'),⟨n,F,env,r,aQ.refl _,f⟩,?_⟩;rintro m σ' H' ⟨F',env',r',s',f'⟩;cases m with
 | zero=>exact f'.elim
 | succ m=>
  unfold dU at f';obtain⟨k,e1,e2,f1⟩:=dJ f';refine⟨Pr,F',env',e1,k,r',e2,λH1 F1 r1 s1=>?_⟩;have f2:=f1.mono s1;show if k=true then _ else _
  split at f2
  ·rename_i hk;rw[if_pos hk];refine⟨λσ2 H2=>∃F' env',Rel C Pr F' env' σ2 H2/\aQ F F'/\Fin C Pr F' D (dU t b m env'),λσ2 H2 h2=>⟨m,Nat.lt_succ_self _,h2⟩,Pr,F1,e1,r1,?_⟩;have s13:aQ F F1:=s'.trans s1;cases eb:b e1 with
   | nx e3=>rw[eb] at f2;exact λσ4 H4 F4 r4 s4=>⟨F4,e3,r4,s13.trans s4,f2.mono s4⟩
   | ct e3=>rw[eb] at f2;exact λσ4 H4 F4 r4 s4=>⟨F4,e3,r4,s13.trans s4,f2.mono s4⟩
   | bk e3=>rw[eb] at f2;exact λσ4 H4 F4 r4 s4=>f2 σ4 H4 F4 r4 s4
   | rt o d e3=>rw[eb] at f2;cases o<;>exact λv σ4 H4 F4 r4 s4 p4=>f2 v σ4 H4 F4 r4 s4 p4
   | stuck=>rw[eb] at f2;exact f2.elim
  ·rename_i hk;rw[if_neg hk];exact f2 σ' H1 F1 r1 (aQ.refl F1)
end
end Ev
namespace L2
open PySem PySem.Spec PyProof.Rows
def Its(z:Str):It:=⟨λi _=>i<z.cps.size,λi H x H'=>H'=H/\∃c,z.cps[i]? = some c/\x = .str ⟨#[c]⟩,λi _=>z.cps.size<=i⟩
theorem Ml{P:Program}{w:World}{K:PySem.W.Frag}{tg:Expr}(it:Addr)(z:Str)(t:Tok):Turn P w K tg (Its z) [it] it (λi h=>h.IsStrIter it "str_ascii_iterator" z t i/\i<=z.cps.size) where
 mem:=by simp
 obj:=λi h st b hb=>by
  have e:b=it:=by simpa using hb
  subst e;obtain⟨⟨o,ho,hc,hd⟩,_⟩:=st;exact⟨o,ho,λv z=>by rw[hd] at z;cases z⟩
 keep:=λi h h' st k=>let ⟨⟨o,ho,r⟩,l⟩:=st;⟨⟨o,k it (by simp) o ho,r⟩,l⟩
 item:=by intro X hP hw hK hc i pins s σ H E I hf st hg;subst hP hw hK;obtain⟨f0,f1,f2,f3,f4,f5⟩:=hf it (by simp);have hg':i<z.cps.size:=hg;refine wpAny_pyNext_ascii_item st.1 (c:=z.cps[i]) (by simp[hg']) λh' hit' hs'=>?_;have I1:Inv X pins σ H { s with heap:=h',toks:=s.toks+1 }:=I.turned (λb o hb e=>hs'.extBut b o hb e) f0 f1 f3 f4 f5;obtain⟨o,ho,hcl,hda⟩:=hit';refine⟨_,rfl,G4 (s:={ s with heap:=h',toks:=s.toks+1 }) (n:="str_ascii_iterator") ho hcl hda (by decide) ⟨.str ⟨#[z.cps[i]]⟩,H,I1,⟨_,rfl⟩,⟨rfl,_,by simp[hg'],rfl⟩,⟨⟨o,ho,hcl,hda⟩,hg'⟩,λb hb=>(hf b hb).1⟩⟩
 done:=by intro X hP hw hK hc i pins s σ H E I hf st hg;subst hP hw hK;obtain⟨f0,f1,f2,f3,f4,f5⟩:=hf it (by simp);have hg':z.cps.size<=i:=hg;exact wpAny_pyNext_ascii_end (I.ok.hd hc) st.1 (by simp;omega) λh' eb=>⟨rfl,I.turned (t':=s.toks) (λb o hb e=>eb b o hb e) f0 f1 f3 f4 f5⟩
 self:=λ_ _ _ _ _ st h=>wpAny_pyIter_striter_ascii st.1 h
theorem Mj{P:Program}{w:World}{K:PySem.W.Frag}{tg:Expr}(it:Addr)(z:Str)(t:Tok):Turn P w K tg (Its z) [it] it (λi h=>h.IsStrIter it "str_iterator" z t i/\i<=z.cps.size) where
 mem:=by simp
 obj:=λi h st b hb=>by
  have e:b=it:=by simpa using hb
  subst e;obtain⟨⟨o,ho,hc,hd⟩,_⟩:=st;exact⟨o,ho,λv z=>by rw[hd] at z;cases z⟩
 keep:=λi h h' st k=>let ⟨⟨o,ho,r⟩,l⟩:=st;⟨⟨o,k it (by simp) o ho,r⟩,l⟩
 item:=by intro X hP hw hK hc i pins s σ H E I hf st hg;subst hP hw hK;obtain⟨f0,f1,f2,f3,f4,f5⟩:=hf it (by simp);have hg':i<z.cps.size:=hg;refine wpAny_pyNext_wide_item st.1 (c:=z.cps[i]) (by simp[hg']) λh' hit' hs'=>?_;have I1:Inv X pins σ H { s with heap:=h',toks:=s.toks+1 }:=I.turned (λb o hb e=>hs'.extBut b o hb e) f0 f1 f3 f4 f5;obtain⟨o,ho,hcl,hda⟩:=hit';refine⟨_,rfl,G4 (s:={ s with heap:=h',toks:=s.toks+1 }) (n:="str_iterator") ho hcl hda (by decide) ⟨.str ⟨#[z.cps[i]]⟩,H,I1,⟨_,rfl⟩,⟨rfl,_,by simp[hg'],rfl⟩,⟨⟨o,ho,hcl,hda⟩,hg'⟩,λb hb=>(hf b hb).1⟩⟩
 done:=by intro X hP hw hK hc i pins s σ H E I hf st hg;subst hP hw hK;obtain⟨f0,f1,f2,f3,f4,f5⟩:=hf it (by simp);have hg':z.cps.size<=i:=hg;exact wpAny_pyNext_wide_end (I.ok.hd hc) st.1 (by simp;omega) λh' eb=>⟨rfl,I.turned (t':=s.toks) (λb o hb e=>eb b o hb e) f0 f1 f3 f4 f5⟩
 self:=λ_ _ _ _ _ st h=>wpAny_pyIter_striter_wide st.1 h
section
variable{X:Cx}{tg:Expr}
def aia(K:PySem.W.Frag)(tl:TE):TI:=λσ H R=>tl σ H λx H1=>(∃a,x = .ref a/\(∃xs,n8 K H1 a xs)/\R (Itl K a) H1)\/(∃a,x = .ref a/\(∃xs,lB K H1 a xs)/\R (Itt K a) H1)\/∃z,x = .str z/\R (Its z) H1
def ZX{l:Expr}{tl:TE}(hl:PE X l tl):PI X tg l (aia X.K tl):=by
 intro pins s σ H R I h;refine gr (hl pins s σ H _ I h) λv s1 ⟨x,H1,I1,r1,q1⟩=>?_;have own:∀b ∈ [s1.heap.objs.size],vh X pins H1 b:=λb hb=>by
  have e:b=s1.heap.objs.size:=by simpa using hb
  subst e;exact I1.abE (Nat.le_refl _) (I1.hok.fresh (Nat.le_refl _))
 rcases q1 with ⟨a,e,⟨xs,hq⟩,q⟩|⟨a,e,⟨xs,hq⟩,q⟩|⟨z,e,q⟩
 ·subst e;cases r1;obtain⟨its,rv,p,hz⟩:=I1.list hq;refine wpAny_pyIter_list p.isList ?_;exact⟨s1.heap.objs.size,[s1.heap.objs.size],_,_,H1,rfl,I1.kept (t':=s1.toks) λb o e=>Heap.get?_push_of_some _ e,Mm a _,⟨_,Heap.get?_push_size _ rfl,rfl,rfl⟩,own,q⟩
 ·subst e;cases r1;obtain⟨its,rv,p,hz⟩:=I1.tuple hq;refine wpAny_pyIter_tuple (show s1.heap.IsTuple a its.toArray from p) ?_;exact⟨s1.heap.objs.size,[s1.heap.objs.size],_,_,H1,rfl,I1.kept (t':=s1.toks) λb o e=>Heap.get?_push_of_some _ e,Ih a _,⟨_,Heap.get?_push_size _ rfl,rfl,rfl⟩,own,q⟩
 ·subst e;obtain⟨t,rfl⟩:=r1;cases ha:z.cps.all (·< 128)
  ·exact wpAny_pyIter_wide ha ⟨s1.heap.objs.size,[s1.heap.objs.size],_,_,H1,rfl,I1.kept (t':=s1.toks) λb o e=>Heap.get?_push_of_some _ e,Mj _ z t,⟨⟨_,Heap.get?_push_size _ rfl,rfl,rfl⟩,Nat.zero_le _⟩,own,q⟩
  ·exact wpAny_pyIter_ascii ha ⟨s1.heap.objs.size,[s1.heap.objs.size],_,_,H1,rfl,I1.kept (t':=s1.toks) λb o e=>Heap.get?_push_of_some _ e,Ml _ z t,⟨⟨_,Heap.get?_push_size _ rfl,rfl,rfl⟩,Nat.zero_le _⟩,own,q⟩
end
end L2
namespace Ev
open PySem PySem.Spec PyProof.Rows L2
section
variable{X:Cx}{C:Cfg}{pos:Pos}{tg:Expr}
def pP(x:List Nat):List D:=x.map λc=>.str [c]
def HQ{F:Hp}{a:Addr}{vs:List V}{ds:List D}(h:lB C.K F a vs)(p:bT C.K F ds vs):qQ C.K F ds (Itt C.K a):=λi H s=>by
 refine⟨λ_ e=>⟨vs,aQ.tupK s h,by rw[p.length,e];exact Nat.le_refl _⟩,λd hd=>?_⟩;obtain⟨v,h1,h2⟩:=p.get hd;refine⟨⟨vs,v,aQ.tupK s h,h1⟩,λx H' hy=>.inl ⟨hy.1,?_⟩⟩;have:=hy.2 vs (aQ.tupK s h);rw[h1] at this;cases this;exact h2
def HR{F:Hp}{x:List Nat}:qQ C.K F (pP x) (Its (strOf x)):=λi H s=>by
 refine⟨λ_ e=>?_,λd hd=>?_⟩
 ·show x.toArray.size<=i;rw[e];simp[pP]
 ·unfold pP at hd;rw[List.getElem?_map] at hd;obtain⟨c,hc,rfl⟩:=Option.map_eq_some_iff.mp hd;refine⟨?_,λv H' hy=>.inl ⟨hy.1,?_⟩⟩
  ·show i<x.toArray.size;have:=(List.getElem?_eq_some_iff.mp hc).1
   simpa using this
  ·obtain⟨c',h1,rfl⟩:=hy.2;have h2:x[i]? = some c':=by simpa[strOf] using h1
   rw[hc] at h2;cases h2;exact⟨rfl,by show 1<=sizeLine;decide⟩
def XN:D->Option (List D)
 | .lst xs=>some xs
 | .arr xs=>some xs
 | .tup xs=>some xs
 | .str x=>some (pP x)
 | _=>none
def ik(a:Ev):cV:=λenv=>bindR (a env) λd aM=>dX (XN d) aM
def Vk{l:Expr}{a:Ev}(hK:X.K=C.K)(h:PX X C l a):Mf X C tg l (ik a):=(ZX h).imp λσ H R hq=>by
 obtain⟨Pr,F,env,env',ds,r,e,q⟩:=hq;obtain⟨d,aM,e1,e2⟩:=aW e;obtain⟨e3,rfl⟩:=eZ e2;refine⟨Pr,F,env,env',d,r,e1,λv H1 F1 r1 s1 p1=>?_⟩;rw[hK];cases d with
 | lst xs=>
  cases e3;obtain⟨z,a,vs,rfl,g1,g2⟩:=p1;refine .inl ⟨a,rfl,⟨vs,n8.of (r1.fr _ _ g1)⟩,q _ H1 F1 r1 s1 λi H s=>?_⟩;refine⟨λ_ e=>⟨vs,n8.of (s _ _ g1),by rw[g2.length,e];exact Nat.le_refl _⟩,λd hd=>?_⟩;obtain⟨v,h1,h2⟩:=g2.get hd;refine⟨⟨vs,v,n8.of (s _ _ g1),h1⟩,λx H' hy=>.inl ⟨hy.1,?_⟩⟩;have:=hy.2 vs (n8.of (s _ _ g1));rw[h1] at this;cases this;exact h2
 | arr xs=>
  cases e3;obtain⟨z,a,vs,rfl,g1,g2⟩:=p1;refine .inl ⟨a,rfl,⟨vs,r1.fr.seq g1⟩,q _ H1 F1 r1 s1 λi H s=>?_⟩;refine⟨λ_ e=>⟨vs,s.seq g1,by rw[g2.length,e];exact Nat.le_refl _⟩,λd hd=>?_⟩;obtain⟨v,h1,h2⟩:=g2.get hd;refine⟨⟨vs,v,s.seq g1,h1⟩,λx H' hy=>.inl ⟨hy.1,?_⟩⟩;have:=hy.2 vs (s.seq g1);rw[h1] at this;cases this;exact h2
 | tup xs=>
  cases e3;obtain⟨z,a,vs,rfl,g1,g2⟩:=p1;exact .inr (.inl ⟨a,rfl,⟨vs,aQ.tupK r1.fr g1⟩,q _ H1 F1 r1 s1 (HQ g1 g2)⟩)
 | str x=>
  cases e3;obtain⟨rfl,z⟩:=p1;exact .inr (.inr ⟨_,rfl,q _ H1 F1 r1 s1 HR⟩)
 | _=>cases e3
def jw(lo c:Int)(n:Nat):List D:=(List.range n).map λ(i:Nat)=>.int (lo+i*c)
def oh(lo c:Int)(n:Nat):(jw lo c n).length=n:=by simp[jw]
def yG{lo c:Int}{n i:Nat}{d:D}(h:(jw lo c n)[i]? = some d):i<n/\d = .int (lo+i*c):=by
 have hi:i<n:=by
  have:=(List.getElem?_eq_some_iff.mp h).1
  rwa [oh] at this
 refine⟨hi,?_⟩;unfold jw at h;rw[List.getElem?_map,List.getElem?_range hi] at h;cases h;rfl
def yz{F:Hp}{lo:Int}{n:Nat}:qQ C.K F (jw lo 1 n) (Itr lo n):=λi H s=>by
 refine⟨λ_ e=>by show n<=i;rw[e,oh];exact Nat.le_refl _,λd hd=>?_⟩;obtain⟨hi,rfl⟩:=yG hd;refine⟨hi,λx H' hy=>.inl ⟨hy.1,?_⟩⟩;show x = .int _;rw[Int.mul_one];exact hy.2
def oM(j:Int):Bool:=decide (-(2^62)<=j)&&decide (j<2^62)
def sO{j:Int}(h:oM j=true) : -(2^62)<=j/\j<2^62:=by unfold oM at h;rw[Bool.and_eq_true] at h;exact⟨of_decide_eq_true h.1,of_decide_eq_true h.2⟩
def Aq:List D->Option (List D)
 | [.int j]=>if oM j=true then some (jw 0 1 j.toNat) else none
 | [.int i,.int j]=>if oM i=true/\oM j=true then some (jw i 1 (j - i).toNat) else none
 | [.int i,.int j,.int c]=>if c≠0/\c.natAbs<1073741824/\Builtin.Range.small i j c=true then some (jw i c (Builtin.Range.rangeSize i j c).toNat) else none
 | _=>none
def iK(a:cV):cV:=λenv=>bindR (a env) λds aM=>dX (Aq ds) aM
def bT.ah6{F:Hp}{i:Int}{vs:List V}(h:bT C.K F [.int i] vs):vs=[.int i]:=by obtain⟨v,r,rfl,h1,h2⟩:=h;cases h1;cases h2;rfl
def bT.ah5{F:Hp}{i j:Int}{vs:List V}(h:bT C.K F [.int i,.int j] vs):vs=[.int i,.int j]:=by obtain⟨v,r,rfl,h1,v',r',rfl,h2,h3⟩:=h;cases h1;cases h2;cases h3;rfl
def Jh{a:Expr}{ea:cV}{p pos:Pos}(hg:Gl X "range")(hm:X.mg "range" = none)(ha:Cr X C [a] ea)(hl:∀env ds env',ea env = .ok ds env'->ds.length=1)(hs:starEach [a] X.env=[(false,eval a X.env)]:=by rfl):Mf X C tg (.Call (.Name "range" p) [a] [] pos) (iK ea):=
 (M6 hg hm ha hs).imp λσ H R hq=>by
  obtain⟨Pr,F,env,env',ds,r,e,q⟩:=hq;obtain⟨as,aM,e1,e2⟩:=aW e;obtain⟨e3,rfl⟩:=eZ e2;refine⟨Pr,F,env,env',as,r,e1,λvs H1 F1 r1 s1 p1=>?_⟩;have:=hl _ _ _ e1;unfold Aq at e3;split at e3
  ·split at e3
   ·rename_i hf;cases e3;have hb:=sO hf;exact⟨_,p1.ah6,hb.1,hb.2,q _ H1 F1 r1 s1 yz⟩
   ·cases e3
  ·simp at this
  ·simp at this
  ·cases e3
def Jg{a b:Expr}{ea:cV}{p pos:Pos}(hg:Gl X "range")(hm:X.mg "range" = none)(ha:Cr X C [a,b] ea)(hl:∀env ds env',ea env = .ok ds env'->ds.length=2)(hs:starEach [a,b] X.env=[(false,eval a X.env),(false,eval b X.env)]:=by rfl)(hs2:starEach [b] X.env=[(false,eval b X.env)]:=by rfl):Mf X C tg (.Call (.Name "range" p) [a,b] [] pos) (iK ea):=
 (M5 hg hm ha hs hs2).imp λσ H R hq=>by
  obtain⟨Pr,F,env,env',ds,r,e,q⟩:=hq;obtain⟨as,aM,e1,e2⟩:=aW e;obtain⟨e3,rfl⟩:=eZ e2;refine⟨Pr,F,env,env',as,r,e1,λvs H1 F1 r1 s1 p1=>?_⟩;have:=hl _ _ _ e1;unfold Aq at e3;split at e3
  ·simp at this
  ·split at e3
   ·rename_i hf;cases e3;have hb:=sO hf.1;have hb2:=sO hf.2;exact⟨_,_,p1.ah5,⟨hb.1,hb.2,hb2.1,hb2.2⟩,q _ H1 F1 r1 s1 yz⟩
   ·cases e3
  ·simp at this
  ·cases e3
def NZ(env:Env)(ds:List D)(env':Env)(h:ak env = .ok ds env'):ds.length=0:=by cases h;rfl
def JR{a:Ev}{r:cV}{n:Nat}(hr:∀env ds env',r env = .ok ds env'->ds.length=n)(env:Env)(ds:List D)(env':Env)(h:aa a r env = .ok ds env'):ds.length=n+1:=by obtain⟨d,aM,e1,e2⟩:=aW h;obtain⟨ds2,dH,e3,e4⟩:=aW e2;cases e4;rw[List.length_cons,hr _ _ _ e3]
def bT.pR{F:Hp}{K:Fg}{ds:List D}{vs:List V}{k:Int}{d:D}(h:bT K F ds vs)(e:L2.pR ds k=some d):∃v,L2.pR vs k=some v/\Rep K F d v:=by unfold L2.pR at e ⊢;rw[h.length];obtain⟨j,h1,h2⟩:=Option.bind_eq_some_iff.mp e;obtain⟨v,h3,h4⟩:=h.get h2;exact⟨v,by rw[h1];exact h3,h4⟩
def bY:D->D->Option D
 | .lst xs,.int k=>pR xs k
 | .arr xs,.int k=>pR xs k
 | .tup xs,.int k=>pR xs k
 | .str x,.int k=>(pR x k).map λc=>.str [c]
 | _,_=>none
def Xw:pQ C (rIx C.K) bY:=by
 intro Pr F env σ H x y d vx vy Q r px py e q;unfold bY at e;split at e
 ·obtain⟨z,a,vs,rfl,h1,h2⟩:=px.lst r.fr;cases py.int;obtain⟨v,e1,p1⟩:=h2.pR e;exact .inl ⟨a,vs,_,v,rfl,rfl,n8.of h1,e1,q _ _ F r (aQ.refl F) p1⟩
 ·obtain⟨z,a,vs,rfl,h1,h2⟩:=px.arr r.fr;cases py.int;obtain⟨v,e1,p1⟩:=h2.pR e;exact .inl ⟨a,vs,_,v,rfl,rfl,h1,e1,q _ _ F r (aQ.refl F) p1⟩
 ·obtain⟨z,a,vs,rfl,h1,_,h2⟩:=px.tup r.fr;cases py.int;obtain⟨v,e1,p1⟩:=h2.pR e;exact .inr (.inl ⟨a,vs,_,v,rfl,rfl,h1,e1,q _ _ F r (aQ.refl F) p1⟩)
 ·obtain⟨rfl,z⟩:=px.str;cases py.int;obtain⟨c,e1,rfl⟩:=Option.map_eq_some_iff.mp e;exact .inr (.inr ⟨_,_,c,rfl,rfl,by simpa[strOf,Str.length] using z,by simpa[strOf] using e1,q _ _ F r (aQ.refl F) ⟨rfl,by show 1<=sizeLine;decide⟩⟩)
 ·cases e
def adO{x y:Expr}{a b:Ev}(hK:X.K=C.K)(ha:PX X C x a)(hb:Aa X C y b)(hs:pF y:=by intro _ _;rfl):PX X C (.Subscript x y pos) (aH bY a b):=by have h:=(Xr (pos:=pos) R9 ha hb hs);rw[hK] at h;exact h.imp (Ed Xw)
def ZC{y:Expr}{b:Ev}{px:Pos}(i:Nat){x:Str}(hK:X.K=C.K)(hN:X.N[i]? = some x)(hv:pD X.env.scope x)(hb:Aa X C y b)(hs:pF y:=by intro _ _;rfl)
  (hd:iZ x:=by decide) (hcd:oU x:=by decide):PX X C (.Subscript (.Name x px) y pos) (ao bY i b):=by
 have h:=(Xr (pos:=pos) R9 (jk (pos:=px) hN hv hd hcd) hb hs);rw[hK] at h;exact h.imp (uR Xw)
def cutD{α:Type}(xs:List α)(lo hi:Option Int):List α:=(xs.drop (HT.fU xs.length 0 lo)).take (HT.fU xs.length xs.length hi - HT.fU xs.length 0 lo)
def qK{α:Type}(xs:List α)(lo hi:Option Int):(cutD xs lo hi).length<=xs.length:=by unfold cutD;rw[List.length_take,List.length_drop];omega
def bT.cut{F:Hp}{K:Fg}{ds:List D}{vs:List V}(h:bT K F ds vs)(lo hi:Option Int):bT K F (cutD ds lo hi) (xU vs lo hi):=by unfold cutD xU;rw[h.length];exact bT.take _ (bT.drop _ h)
abbrev yx:=Env->R (Option Int)
def tP(C:Cfg)(ev:yx):TO:=λσ H Q=>∃(Pr F:Hp) (env env':Env) (o:Option Int),Rel C Pr F env σ H/\ev env = .ok o env'/\∀H' F',Rel C Pr F' env' σ H'->aQ F F'->Q o H'
def T5(X:Cx)(C:Cfg)(e:Option Expr)(ev:yx):Prop:=PO X e (tP C ev)
def _root_.L2.PO.imp{X:Cx}{e:Option Expr}{t t':TO}(h:PO X e t)(i:∀σ H Q,t' σ H Q->t σ H Q):PO X e t':=λpins s σ H Q I q=>h pins s σ H Q I (i σ H Q q)
def kO:yx:=λenv=>.ok none env
def vo(a:Ev):yx:=λenv=>bindR (a env) λd aM=>match d with
 | .int i=>.ok (some i) aM
 | _=>.stuck
def QC:T5 X C none kO:=Vw.imp λσ H Q h=>by
 obtain⟨Pr,F,env,env',d,r,e,q⟩:=h;cases e;exact q H F r (aQ.refl F)
def QB{e:Expr}{a:Ev}(h:PX X C e a):T5 X C (some e) (vo a):=(Vv h).imp λσ H Q hq=>by
 obtain⟨Pr,F,env,env',o,r,e,q⟩:=hq;obtain⟨d,aM,e1,e2⟩:=aW e;refine⟨Pr,F,env,aM,d,r,e1,λv H1 F1 r1 s1 p1=>?_⟩;cases d with
 | int i=>cases e2;exact⟨i,p1,q H1 F1 r1 s1⟩
 | _=>cases e2
def gSl:D->Option Int->Option Int->Option D
 | .lst xs,lo,hi=>some (.lst (cutD xs lo hi))
 | .arr xs,lo,hi=>some (.lst (cutD xs lo hi))
 | .tup xs,lo,hi=>if HT.fU xs.length 0 lo=0/\HT.fU xs.length xs.length hi=xs.length then none else some (.tup (cutD xs lo hi))
 | _,_,_=>none
def uL(a:Ev)(lo hi:yx):Ev:=λenv=>bindR (a env) λd aM=>bindR (lo aM) λl dH=>bindR (hi dH) λu zH=>dX (gSl d l u) zH
def Pq{Pr F:Hp}{env:Env}{σ:L2.St}{H:Hp}{x d:D}{v:V}{lo hi:Option Int}{Q:VK}(r:Rel C Pr F env σ H)(p:gY C.K F H x v)(e:gSl x lo hi=some d)(q:∀v H' F',Rel C Pr F' env σ H'->aQ F F'->Rep C.K F' d v->Q v H') :
  adw C.K v lo hi H Q\/Zd C.K v lo hi H Q:=by
 unfold gSl at e;split at e
 ·cases e;obtain⟨z,a,vs,rfl,h1,h2⟩:=p.lst r.fr;refine .inl ⟨a,vs,rfl,n8.of h1,λb hb=>?_⟩;obtain⟨r2,s2⟩:=r.new (o:=.lst (xU vs lo hi)) hb;exact q _ _ _ r2 s2 ⟨Nat.le_trans (qK _ _ _) z,b,_,rfl,aZ,bT.mono s2 _ _ (h2.cut lo hi)⟩
 ·cases e;obtain⟨z,a,vs,rfl,h1,h2⟩:=p.arr r.fr;refine .inl ⟨a,vs,rfl,h1,λb hb=>?_⟩;obtain⟨r2,s2⟩:=r.new (o:=.lst (xU vs lo hi)) hb;exact q _ _ _ r2 s2 ⟨Nat.le_trans (qK _ _ _) z,b,_,rfl,aZ,bT.mono s2 _ _ (h2.cut lo hi)⟩
 ·obtain⟨z,a,vs,rfl,h1,_,h2⟩:=p.tup r.fr;split at e
  ·cases e
  ·rename_i hn;cases e;refine .inr ⟨a,vs,rfl,h1,by rw[h2.length];exact hn,λb hb=>?_⟩;obtain⟨r2,s2⟩:=r.new (o:=.tup (xU vs lo hi)) hb;exact q _ _ _ r2 s2 ⟨Nat.le_trans (qK _ _ _) z,b,_,rfl,lB.of aZ,bT.mono s2 _ _ (h2.cut lo hi)⟩
 ·cases e
def adL{x:Expr}{lo hi:Option Expr}{a:Ev}{el eh:yx}{p2:Pos}(hK:X.K=C.K)(ha:PX X C x a)(hl:T5 X C lo el)(hh:T5 X C hi eh):PX X C (.Subscript x (.Slice lo hi none p2) pos) (uL a el eh):=by have h:=yR (pos:=pos) (p2:=p2) (LK.or Kw IK) ha hl hh;rw[hK] at h;refine h.imp λσ H Q hq=>?_;obtain⟨Pr,F,env,env',d,r,e,q⟩:=hq;obtain⟨x,aM,e1,e2⟩:=aW e;obtain⟨l,dH,e3,e4⟩:=aW e2;obtain⟨u,zH,e5,e6⟩:=aW e4;obtain⟨e7,rfl⟩:=eZ e6;refine⟨Pr,F,env,aM,x,r,e1,λv H1 F1 r1 s1 p1=>⟨Pr,F1,aM,dH,l,r1,e3,λH2 F2 r2 s2=>⟨Pr,F2,dH,env',u,r2,e5,λH3 F3 r3 s3=>?_⟩⟩⟩;exact Pq r3 (.inl (Rep.mono (s2.trans s3) _ _ p1)) e7 λv H' F' r' s' p'=>q v H' F' r' (((s1.trans s2).trans s3).trans s') p'
def lM(kvs:List (D×D))(q:Key):Option D:=match kvs with
 | []=>none
 | (k,d)::r=>if nQ k=some q then some d else lM r q
def xD(kvs:List (D×D))(q:Key)(d:D):List (D×D):=match kvs with
 | []=>[]
 | (k,e)::r=>(if nQ k=some q then (k,d) else (k,e))::xD r q d
def putD(kvs:List (D×D))(k:D)(q:Key)(d:D):List (D×D):=if (lM kvs q).isSome then xD kvs q d else kvs++[(k,d)]
theorem dR.length{K:Fg}{F:Hp}:∀{ds:List (D×D)} {vs:List (Key×V)},dR K F ds vs->vs.length=ds.length
 | [],_,h=>by cases h;rfl
 | (k,d)::ds,vs,h=>by
  obtain⟨q,v,r,rfl,_,_,h2⟩:=h;rw[List.length_cons,List.length_cons,h2.length]
theorem dR.val{K:Fg}{F:Hp}(q:Key):∀{ds:List (D×D)} {vs:List (Key×V)},dR K F ds vs->(lM ds q=none/\rR vs q=none)\/∃d v,lM ds q=some d/\rR vs q=some v/\Rep K F d v
 | [],_,h=>by cases h;exact .inl ⟨rfl,rfl⟩
 | (k,d)::ds,vs,h=>by
  obtain⟨q',v,r,rfl,hk,h1,h2⟩:=h;unfold lM;by_cases e:q'=q
  ·subst e;rw[if_pos hk];exact .inr ⟨d,v,rfl,tY rfl,h1⟩
  ·rw[if_neg (λz=>e (Option.some.inj (hk.symm.trans z))),tZ (p:=(q',v)) e];exact dR.val q h2
theorem dR.set{K:Fg}{F:Hp}(q:Key){d:D}{v:V}(hd:Rep K F d v):∀{ds:List (D×D)} {vs:List (Key×V)},dR K F ds vs->dR K F (xD ds q d) (vs.map λkv=>if kv.1=q then (kv.1,v) else kv)
 | [],_,h=>by cases h;exact rfl
 | (k,e)::ds,vs,h=>by
  obtain⟨q',u,r,rfl,hk,h1,h2⟩:=h;unfold xD;by_cases e':q'=q
  ·subst e';rw[if_pos hk];refine⟨q',v,_,?_,hk,hd,dR.set q' hd h2⟩;rw[List.map_cons,if_pos rfl]
  ·rw[if_neg (λz=>e' (Option.some.inj (hk.symm.trans z)))];refine⟨q',u,_,?_,hk,h1,dR.set q hd h2⟩;rw[List.map_cons,if_neg e']
theorem dR.append{K:Fg}{F:Hp}:∀{ds es:List (D×D)} {vs ws:List (Key×V)},dR K F ds vs->dR K F es ws->dR K F (ds++es) (vs++ws)
 | [],es,vs,ws,h,g=>by cases h;exact g
 | (k,d)::ds,es,vs,ws,h,g=>by
  obtain⟨q,v,r,rfl,h0,h1,h2⟩:=h;exact⟨q,v,r++ws,rfl,h0,h1,dR.append h2 g⟩
theorem Fw(q:Key)(d:D):∀kvs:List (D×D),(xD kvs q d).length=kvs.length
 | []=>rfl
 | (k,e)::r=>by unfold xD;rw[List.length_cons,List.length_cons,Fw q d r]
def Gm(kvs:List (D×D))(k:D)(q:Key)(d:D):(putD kvs k q d).length<=kvs.length+1:=by
 unfold putD;split
 ·rw[Fw];omega
 ·rw[List.length_append];exact Nat.le_refl _
def dR.put{K:Fg}{F:Hp}{ds:List (D×D)}{vs:List (Key×V)}{k:D}{q:Key}{d:D}{v:V}(h:dR K F ds vs)(hk:nQ k=some q)(hd:Rep K F d v):dR K F (putD ds k q d) (putK vs q v):=by
 unfold putD putK;rw[yD];rcases h.val q with ⟨e1,e2⟩|⟨d',v',e1,e2,_⟩
 ·rw[e1,e2];exact h.append ⟨q,v,[],rfl,hk,hd,rfl⟩
 ·rw[e1,e2];exact dR.set q hd h
def RL{K:Fg}{F:Hp}{k:D}{q:Key}{v:V}(h:nQ k=some q)(p:Rep K F k v):v=kV q:=by
 cases k with
 | int i=>cases h;exact p
 | str x=>cases h;exact p.1
 | _=>cases h
def JC{K:Fg}{F H:Hp}{k:D}{q:Key}{v:V}(h:nQ k=some q)(p:gY K F H k v):v=kV q:=by
 cases k with
 | int i=>cases h;exact p.int
 | str x=>cases h;exact p.str.1
 | _=>cases h
def gY.dct{K:Fg}{F H:Hp}{kvs:List (D×D)}{v:V}(s:aQ F H)(h:gY K F H (.dct kvs) v):kvs.length<=sizeLine/\∃a ks,v = .ref a/\Rd H a (.dK ks)/\dR K F kvs ks:=by
 rcases h with ⟨z,a,vs,rfl,h1,h2⟩|⟨a,rfl,z,vs,h1,h2⟩
 ·exact⟨z,a,vs,rfl,aQ.rd s h1,h2⟩
 ·exact⟨z,a,vs,rfl,.inl h1,h2⟩
def Xl:R2:=λx y H Q=>∃a v,x = .ref a/\HF H a y (some v)/\Q v H
def jd:D->D->Option D
 | .dct kvs,k=>(nQ k).bind λq=>lM kvs q
 | _,_=>none
def VP:pQ C Xl jd:=by
 intro Pr F env σ H x y d vx vy Q r px py e q;unfold jd at e;split at e
 ·obtain⟨z,a,ks,rfl,h1,h2⟩:=px.dct r.fr;obtain⟨k,hk,hv⟩:=Option.bind_eq_some_iff.mp e;cases JC hk py;rcases h2.val k with ⟨e1,_⟩|⟨d',v',e1,e2,p2⟩
  ·rw[e1] at hv;cases hv
  ·rw[e1] at hv;cases hv;exact⟨a,v',rfl,.inl ⟨ks,k,h1,rfl,e2.symm⟩,q _ _ F r (aQ.refl F) p2⟩
 ·cases e
def QS{y:Expr}{b:Ev}{px:Pos}(i:Nat){x:Str}(hu:X.A.units+1<cLine)(hN:X.N[i]? = some x)(hv:pD X.env.scope x)(hb:Aa X C y b)(hs:T6 y:=by intro _ _;rfl)
  (hd:iZ x:=by decide) (hcd:oU x:=by decide):PX X C (.Subscript (.Name x px) y pos) (ao jd i b):=by
 have h:PE X (.Subscript (.Name x px) y pos) (YT Xl _ _):=VF (pos:=pos) hu (jk (pos:=px) hN hv hd hcd) hb hs;exact h.imp (uR VP)
def zE:Ev:=λenv=>.ok (.dct []) env
def QF:J8 X C (.Dict [] [] pos) zE:=Rc.imp λσ H Q hq=>by
 obtain⟨Pr,F,env,env',d,r,e,q⟩:=hq;cases e;exact λp hp=>q _ _ F (r.fresh hp) (aQ.refl F) (Ug.of r hp ⟨Nat.zero_le _,[],aZ,rfl⟩)
def mX(i:Nat)(k a:Ev):bW:=λenv=>dD (a env) λd aM=>match aM[i]? with
 | some (some (_,_))=>dD (k aM) λkd dH=>(match dH[i]?,nQ kd with
  | some (some (true,.dct kvs)),some q=>if kvs.length<sizeLine then .nx (dH.set i (some (true,.dct (putD kvs kd q d)))) else .stuck
  | _,_=>.stuck)
 | _=>.stuck
def Qz{i:Nat}{x:Str}{k e:Expr}{ek a:Ev}{px pos':Pos}(hu:X.A.units+1<cLine)(hN:X.N[i]? = some x)(hv:pD X.env.scope x)(hk:PX X C k ek)(he:PX X C e a)
  (hs:swapsWith e (some (.Subscript (.Name x px) k pos')) pos.line X.env=pure false:=by rfl)
  (hd:iZ x:=by decide) (hcd:oU x:=by decide):yw X C (.Assign [.Subscript (.Name x px) k pos'] e pos) (mX i ek a):=
 (Vu hu (jk hN hv hd hcd) hk he hs).imp λD σ H h=>by
  obtain⟨Pr,F,env,r,f⟩:=h;obtain⟨d,aM,e1,f1⟩:=dJ f;refine⟨Pr,F,env,aM,d,r,e1,λv H1 F1 r1 s1 p1=>?_⟩;split at f1
  ·rename_i o0 d0 h0;obtain⟨v0,hv0,_⟩:=r1.rd h0;obtain⟨kd,dH,e2,f2⟩:=dJ f1;refine⟨v0,hv0,Pr,F1,aM,dH,kd,r1,e2,λvk H2 F2 r2 s2 p2=>?_⟩;split at f2
   ·rename_i kvs q h2 hq;split at f2
    ·rename_i hz;obtain⟨b,g1,⟨z,ks,g2,g3⟩,g4,g5⟩:=r2.own i _ h2;rw[hv0] at g1;cases g1;have hz':ks.length<sizeLine:=by rw[g3.length];exact hz
     cases RL hq p2;refine⟨b,_,rfl,T8.k g2 hz',?_⟩;refine f2 σ _ F2 (r2.write h2 hv0 ⟨Nat.le_trans (Gm _ _ _ _) hz,_,aZ,g3.put hq (Rep.mono s2 _ _ p1)⟩) (s1.trans s2)
    ·exact f2.elim
   ·exact f2.elim
  ·exact f1.elim
def Nx(x:List Nat):List (List Nat)->List (List Nat)
 | []=>[x]
 | y::r=>if y<x then y::Nx x r else x::y::r
def iV:List (List Nat)->List (List Nat)
 | []=>[]
 | x::r=>Nx x (iV r)
theorem wB(x:List Nat):∀l,(Nx x l).Perm (x::l)
 | []=>.refl _
 | y::r=>by
  unfold Nx;split
  ·exact((wB x r).cons y).trans (.swap x y r)
  ·exact .refl _
theorem iw:∀l,(iV l).Perm l
 | []=>.refl _
 | x::r=>(wB x (iV r)).trans ((iw r).cons x)
theorem wX(x:List Nat):∀l,l.Pairwise (λa b=>a<=b)->(Nx x l).Pairwise (λa b=>a<=b)
 | [],_=>List.pairwise_singleton _ _
 | y::r,h=>by
  unfold Nx;have h1:=List.pairwise_cons.mp h;split
  ·rename_i hyx;refine List.pairwise_cons.mpr ⟨λz hz=>?_,wX x r h1.2⟩;rcases List.mem_cons.mp ((wB x r).mem_iff.mp hz) with rfl|hz
   ·exact List.le_of_lt hyx
   ·exact h1.1 z hz
  ·rename_i hyx;have hxy:x<=y:=List.not_lt.mp hyx;refine List.pairwise_cons.mpr ⟨λz hz=>?_,h⟩;rcases List.mem_cons.mp hz with rfl|hz
   ·exact hxy
   ·exact List.le_trans hxy (h1.1 z hz)
theorem uh:∀l,(iV l).Pairwise (λa b=>a<=b)
 | []=>.nil
 | x::r=>wX x _ (uh r)
theorem Br:∀(p:Str) (l:List Str),risingS p l=true->(p::l).Pairwise (λa b=>a.cps.toList<=b.cps.toList)
 | p,[],_=>List.pairwise_singleton _ _
 | p,x::r,h=>by
  have h':(!Spec.ltCps x.cps.toList p.cps.toList&&risingS x r)=true:=h;rw[Bool.and_eq_true,PyProof.Rows.ltCps_eq] at h';have hxp:¬x.cps.toList<p.cps.toList:=by
   have:=h'.1
   simpa using this
  have ih:=Br x r h'.2;refine List.pairwise_cons.mpr ⟨λz hz=>?_,ih⟩;have hpx:p.cps.toList<=x.cps.toList:=List.not_lt.mp hxp;rcases List.mem_cons.mp hz with rfl|hz
  ·exact hpx
  ·exact List.le_trans hpx ((List.pairwise_cons.mp ih).1 z hz)
theorem Mu:∀(l:List Str),sortedS l=true->l.Pairwise (λa b=>a.cps.toList<=b.cps.toList)
 | [],_=>.nil
 | x::r,h=>Br x r h
def Mr(s:Str):strOf s.cps.toList=s:=by obtain⟨c⟩:=s;simp[strOf]
def CT{xs:List (List Nat)}{ss ss':List Str}(e:ss=xs.map strOf)(hp:ss'.Perm ss)(hs:sortedS ss'=true):ss'=(iV xs).map strOf:=by
 subst e;have h1:(ss'.map λs=>s.cps.toList).Perm xs:=by
  have:=hp.map (λs:Str=>s.cps.toList);rw[List.map_map] at this;have e2:xs.map ((λs:Str=>s.cps.toList) ∘ strOf)=xs:=by rw[List.map_congr_left (g:=id) (λx _=>by simp[strOf])];simp
  rwa [e2] at this
 have h2:(ss'.map λs=>s.cps.toList)=iV xs:=by refine List.Perm.eq_of_pairwise (le:=λa b=>a<=b) (λa b _ _=>List.le_antisymm) ?_ (uh xs) (h1.trans (iw xs).symm);exact List.pairwise_map.mpr (Mu ss' hs)
 rw[<-h2,List.map_map];have e3:∀l:List Str,l.map (strOf ∘ λs=>s.cps.toList)=l:=λl=>by
  induction l with
  | nil=>rfl
  | cons a r ih=>rw[List.map_cons,ih];show strOf a.cps.toList::r=a::r;rw[Mr]
 exact(e3 ss').symm
theorem tX:∀{us:List Value} {ss:List Str},StrsAre us ss->Vals (ss.map V.str) us
 | _,_,.nil=>.nil
 | _,_,.cons y t h=>.cons ⟨t,rfl⟩ (tX h)
theorem uv{K:Fg}{F:Hp}:∀(xs:List (List Nat)),(∀x∈xs,x.length<=sizeLine)->bT K F (xs.map D.str) (xs.map λz=>V.str (strOf z))
 | [],_=>rfl
 | x::xs,h=>⟨_,_,rfl,⟨rfl,h x (List.mem_cons_self ..)⟩,uv xs λy hy=>h y (List.mem_cons_of_mem _ hy)⟩
def Dj(K:Fg):List V->Hp->VK->Prop:=λxs H Q=>∃p zs,xs=[.ref p]/\(n8 K H p (zs.map λz=>V.str (strOf z))\/∃ks,Rd H p (.dK ks)/\ks.map (·.1)=zs.map λz=>Sum.inr (strOf z))/\zs.length<64/\∀l,H l=none->Q (.ref l) (upd H l (.lst ((iV zs).map λz=>V.str (strOf z))))
def Fv{pins:List (Addr×Obj)}{s:Shared}{σ:L2.St}{H:Hp}{Q:VK}{zs:List (List Nat)}{out:Array Value}{ss':List Str}{a:Addr}{e:Nat}{h':Heap}{tk:Nat}(I:Inv X pins σ H s)(hz:zs.length<64)(q:∀l,H l=none->Q (.ref l) (upd H l (.lst ((iV zs).map λz=>V.str (strOf z)))))
  (a1:StrsAre out.toList ss') (a2:ss'.Perm (zs.map strOf)) (a3:sortedS ss'=true) (hk:∀b o,s.heap.get? b=some o->h'.get? b=some o) (ha:s.heap.objs.size<=a) (ho:h'.get? a=some (seqObj "list" out e)):EP X pins σ Q (.ref a) { s with heap:=h',toks:=tk }:=by
 have e1:=CT rfl a2 a3;subst e1;have rv:=tX a1;rw[List.map_map] at rv;have hl:((iV zs).map λz=>V.str (strOf z)).length<=sizeLine:=by rw[List.length_map,(iw zs).length_eq];exact Nat.le_trans (Nat.le_of_lt hz) (by decide)
 exact⟨.ref a,_,I.laid (t':=tk) hk ha (show gq X.prog X.w _ h' a (.lst ((iV zs).map λz=>V.str (strOf z))) from⟨hl,out.toList,e,rv,by simpa[seqObj] using ho⟩),rfl,q a (I.hok.fresh ha)⟩
def Ht(hc:X.calm=true):jo X (.builtin "sorted") (Dj X.K):=by
 intro pins s σ H xs us Q I r h;obtain⟨p,zs,rfl,hq,hz,q⟩:=h;obtain⟨u,rfl,rx⟩:=vals1 r;cases rx;rcases hq with hq|⟨ks,hq,hks⟩
 ·obtain⟨its,r',pl,hzz⟩:=I.list hq;have hS:StrsAre its (zs.map strOf):=vq r';refine sorted_strs pl.isList hS (by rw[<-r'.length,List.length_map];exact hz) λout ss' a1 a2 a3=>?_;obtain⟨e,he⟩:=sortedAll_at s.heap its out;exact Fv (tk:=s.toks) I hz q a1 a2 a3 (λb o e=>sortedAll_old e) (Nat.le_succ _) he
 ·obtain⟨hz2,hsys,vs,rkv,hD⟩:=zJ I.hok hq;obtain⟨ep,hat⟩:=hD.dictAt;have hlen:vs.length=zs.length:=by
   have e1:=rkv.length;have e2:=congrArg List.length hks;rw[List.length_map,List.length_map] at e2;omega
  refine Calls.call_function_entry kind_sorted plain_sorted entry_sorted (args_sorted1 _) ?_;unfold Builtin.«sorted»;refine wpAny_bind (m:=checkCount "sorted" 1 1 _) (wpAny_pure ?_);refine wpAny_bind (PySem.W.kdu_collect (A:=X.A.in1) (PySem.W.kdl_dict (knd:=dZ X.prog X.w) (kvs:=vs) (ep:=ep) hsys) (I.ok.hd hc) hat (by rw[hlen];exact Nat.le_trans (Nat.le_of_lt hz) (by decide)) λh' tk acc hk hacc=>?_);have hl:acc.toList.length=vs.length:=by rw[Array.length_toList];exact hacc.1
  have hS:StrsAre acc.toList (zs.map strOf):=by
   have keys:∀j:Nat,j<vs.length->∃v t,acc.toList[j]? = some v/\v=Value.str (strOf (zs.getD j [])) t:=λj hj=>by
    have hja:j<acc.size:=by rw[hacc.1];exact hj
    have e1:acc[j]? = some acc[j]:=by simp[hja]
    obtain⟨k,x,hx,hkx⟩:=hacc.2 j _ e1;have e2:(vs.map (·.1))[j]? = some k:=by rw[List.getElem?_map,hx];rfl
    rw[<-rkv.keys,hks,List.getElem?_map] at e2;obtain⟨z,hzj,rfl⟩:=Option.map_eq_some_iff.mp e2;rcases fD (k:=Sum.inr (strOf z)) (v:=acc[j]) hkx with ⟨i,t,z1,_⟩|⟨y,t,z1,z2⟩
    ·cases z1
    ·cases z1;exact⟨_,t,by rw[Array.getElem?_toList];exact e1,by rw[z2,List.getD_eq_getElem?_getD,hzj];rfl⟩
   have build:∀(us:List Value) (ys:List (List Nat)),us.length=ys.length->(∀j:Nat,j<us.length->∃v t,us[j]? = some v/\v=Value.str (strOf (ys.getD j [])) t)->StrsAre us (ys.map strOf):=λus=>by
    induction us with
    | nil=>intro ys hl _;cases ys with
     | nil=>exact .nil
     | cons _ _=>cases hl
    | cons u us ih=>intro ys hl hk;cases ys with
     | nil=>cases hl
     | cons y ys=>
      obtain⟨v,t,e1,e2⟩:=hk 0 (Nat.succ_pos _);cases e1;rw[e2];exact .cons _ t (ih ys (by simpa using hl) λj hj=>by
       obtain⟨v,t,e1,e2⟩:=hk (j+1) (by simpa using hj);exact⟨v,t,by simpa using e1,by simpa using e2⟩)
   exact build _ _ (by rw[hl,hlen]) λj hj=>keys j (by rw[<-hl];exact hj)
  refine wpAny_bind (wpAny_newList ?_ (by rw[hl,hlen];exact Nat.le_trans (Nat.le_of_lt hz) (by decide)));have hoL:(h'.push (seqObj "list" acc.toList.toArray 0)).get? h'.objs.size=some (seqObj "list" acc.toList.toArray 0):=Heap.get?_push_size _ rfl;show wpAny _ _ _ _ _ { s with heap:=h'.push (seqObj "list" acc.toList.toArray 0),toks:=tk };refine wpAny_bind (wpAny_holding (wpAny_call_entry slot_list_sort ⟨_,hoL,rfl⟩ entry_list_sort (list_sort_treeK strKind_oneLt hoL hS.keysOf (λv₁ v₂ rest e=>keyKind_strs (by rw[<-e];exact hS)) (by rw[hl,hlen];exact hz) λst' b1 b2=>⟨_,rfl,?_⟩) (args_list_sort _)));obtain⟨ss',a1,a2,a3⟩:=sorted_out_str hS b1 b2;obtain⟨e,he⟩:=sortedHeap_at (out:=(arrOf st').map (·.2)) hoL;refine wpAny_pure ⟨_,rfl,?_⟩;have I1:L2.Inv X pins σ H { s with heap:=h',toks:=tk }:=I.kept hk;refine Fv (s:={ s with heap:=h',toks:=tk }) (tk:=tk) I1 hz q a1 a2 a3 (λb o e=>?_) (Nat.le_refl _) he;have lt':=Heap.lt_size e;rw[sortedHeap_old (Nat.ne_of_lt lt') (by rw[size_push'];exact Nat.lt_succ_of_lt lt')];exact Heap.get?_push_of_some _ e
def iu:List D->Option D
 | [.lst ds]=>(jl ds).bind λzs=>if zs.length<64/\(∀z∈zs,z.length<=sizeLine) then some (.lst ((iV zs).map .str)) else none
 | [.dct kvs]=>(jl (kvs.map (·.1))).bind λzs=>if zs.length<64/\(∀z∈zs,z.length<=sizeLine) then some (.lst ((iV zs).map .str)) else none
 | _=>none
theorem dR.keys{K:Fg}{F:Hp}:∀{kvs:List (D×D)} {ks:List (Key×V)} {zs:List (List Nat)},dR K F kvs ks->jl (kvs.map (·.1))=some zs->ks.map (·.1)=zs.map λz=>Sum.inr (strOf z)
 | [],ks,zs,h,e=>by cases h;simp[jl] at e;subst e;rfl
 | (k,d)::kvs,ks,zs,h,e=>by
  obtain⟨q,v,r,rfl,h0,h1,h2⟩:=h;cases k with
  | str x=>
   cases h0;have e':(jl (kvs.map (·.1))).map (x :: ·)=some zs:=by simpa[jl] using e
   obtain⟨zs',e1,rfl⟩:=Option.map_eq_some_iff.mp e';rw[List.map_cons,List.map_cons,dR.keys h2 e1]
  | _=>simp[jl] at e
def Iw{Pr F:Hp}{env:Env}{σ:L2.St}{H:Hp}{l:Addr}{zs:List (List Nat)}(r:Rel C Pr F env σ H)(hl:H l=none)(hz:zs.length<64/\∀z∈zs,z.length<=sizeLine) :
  j0 C.K F (upd H l (.lst ((iV zs).map λz=>V.str (strOf z)))) (.lst ((iV zs).map .str)) l:=by
 refine⟨by rw[List.length_map,(iw zs).length_eq];exact Nat.le_trans (Nat.le_of_lt hz.1) (by decide),_,aZ,uv _ λz h=>hz.2 z ((iw zs).mem_iff.mp h)⟩
def Oa:CallD C (Dj C.K) iu:=by
 intro Pr F env σ H ds d vs Q r p e q;have fin:∀(zs:List (List Nat)) (l:Addr),(zs.length<64/\∀z∈zs,z.length<=sizeLine)->d = .lst ((iV zs).map .str)->H l=none->Q (.ref l) (upd H l (.lst ((iV zs).map λz=>V.str (strOf z)))):=λzs l hz hd hl=>by
  subst hd;obtain⟨F2,r2,s2,p2⟩:=(r.fresh (o:=.lst ((iV zs).map λz=>V.str (strOf z))) hl).keep (Ug.of r hl (Iw r hl hz));exact q _ _ F2 r2 s2 p2
 unfold iu at e;split at e
 ·obtain⟨v,w,rfl,p1,p2⟩:=p;cases p2;obtain⟨zs,e1,e2⟩:=Option.bind_eq_some_iff.mp e;split at e2
  ·rename_i hz;cases e2;obtain⟨z,a,ws,rfl,h1,h2⟩:=p1.lst r.fr;have e6:=vP e1 h2;subst e6;exact⟨a,zs,rfl,.inl (n8.of h1),hz.1,λl hl=>fin zs l hz rfl hl⟩
  ·cases e2
 ·obtain⟨v,w,rfl,p1,p2⟩:=p;cases p2;obtain⟨zs,e1,e2⟩:=Option.bind_eq_some_iff.mp e;split at e2
  ·rename_i hz;cases e2;obtain⟨z,a,ks,rfl,h1,h2⟩:=p1.dct r.fr;exact⟨a,zs,rfl,.inr ⟨ks,h1,h2.keys e1⟩,hz.1,λl hl=>fin zs l hz rfl hl⟩
  ·cases e2
 ·cases e
def MT{p:Pos}{e:Expr}{a:cV}(hK:X.K=C.K)(hc:X.calm=true)(hg:Gl X "sorted")(hm:X.mg "sorted" = none)(ha:rD X C [e] a)(he:xG e X.env:=by rfl)(hpl:(backTo pos (starEach [] X.env)).any (·.1)=false:=by rfl) :
  PX X C (.Call (.Name "sorted" p) [e] [] pos) (au iu a):=
 ux (X:=X) (r:=Dj C.K) (by rw[<-hK];exact Ht hc) Oa hg hm PyProof.Rows.boot_sorted ha (by decide) (by decide) he hpl
end
def Rel.pad{C:Cfg}{Pr F:Hp}{env:Env}{σ:L2.St}{H:Hp}(m:Nat)(r:Rel C Pr F env σ H):Rel C Pr F (env++List.replicate m none) (uy m σ) H:=by
 have un:∀(j:Nat) (x:Bool×D),(env++List.replicate m none)[j]? = some (some x)->env[j]? = some (some x):=λj x he=>by
  by_cases hj:j<env.length
  ·rwa [List.getElem?_append_left hj] at he
  ·rw[List.getElem?_append_right (by omega),List.getElem?_replicate] at he;split at he<;>cases he
 have up:∀(j:Nat) (v:V),σ[j]? = some (some v)->(uy m σ)[j]? = some (some v):=λj v h=>by
  unfold uy;rw[List.getElem?_append_left (List.getElem?_eq_some_iff.mp h).1];exact h
 have dn:∀(j:Nat) (v:V),(uy m σ)[j]? = some (some v)->σ[j]? = some (some v):=λj v he=>by
  unfold uy at he;by_cases hj:j<σ.length
  ·rwa [List.getElem?_append_left hj] at he
  ·rw[List.getElem?_append_right (by omega),List.getElem?_replicate] at he;split at he<;>cases he
 refine⟨r.pr,r.fr,by unfold uy;rw[List.length_append,List.length_append,List.length_replicate,List.length_replicate,r.len],λj e he=>?_,λj e he=>?_,λj k e f b hj hk g1 g2=>r.apart j k e f b (un _ _ hj) (un _ _ hk) (dn _ _ g1) (dn _ _ g2),r.dj,λj a h=>up _ _ (r.fix j a h)⟩
 ·obtain⟨v,h1,h2⟩:=r.val j e (un _ _ he);exact⟨v,up _ _ h1,h2⟩
 ·obtain⟨a,h1,h2⟩:=r.own j e (un _ _ he);exact⟨a,up _ _ h1,h2⟩
def Rel.cut{C:Cfg}{Pr F:Hp}{env:Env}{σ σ0:L2.St}{H:Hp}(r:Rel C Pr F env σ H)(h:σ.take σ0.length=σ0)(fix:∀i a,C.fx i=some a->σ0[i]? = some (some (V.ref a))):Rel C Pr F (env.take σ0.length) σ0 H:=by
 have hl:σ0.length<=σ.length:=by have:=congrArg List.length h;rw[List.length_take] at this;omega
 have un:∀(j:Nat) (x:Bool×D),(env.take σ0.length)[j]? = some (some x)->env[j]? = some (some x)/\j<σ0.length:=λj x he=>by
  have hj:j<σ0.length:=by have:=(List.getElem?_eq_some_iff.mp he).1;rw[List.length_take] at this;omega
  rw[List.getElem?_take_of_lt hj] at he;exact⟨he,hj⟩
 have dn:∀(j:Nat),j<σ0.length->σ[j]? = σ0[j]?:=λj hj=>by
  have:=List.getElem?_take_of_lt (l:=σ) hj;rw[h] at this;exact this.symm
 refine⟨r.pr,r.fr,by rw[List.length_take,r.len];omega,λj e he=>?_,λj e he=>?_,λj k e f b hj hk g1 g2=>r.apart j k e f b (un _ _ hj).1 (un _ _ hk).1 (by rw[dn _ (un _ _ hj).2];exact g1) (by rw[dn _ (un _ _ hk).2];exact g2),r.dj,fix⟩
 ·obtain⟨e1,e2⟩:=un _ _ he;rw[<-dn j e2];exact r.val j e e1
 ·obtain⟨e1,e2⟩:=un _ _ he;rw[<-dn j e2];exact r.own j e e1
def Ac(g:GV)(c:d8)(e:Ev):List D->Env->R (List D)
 | [],env=>.ok [] env
 | d::ds,env=>(match g d env with
  | none=>.stuck
  | some e1=>bindR (c e1) λb e2=>if b=true then bindR (e e2) λy e3=>bindR (Ac g c e ds e3) λys e4=>.ok (y::ys) e4 else Ac g c e ds e2)
def iD(lo n:Nat)(it:cV)(g:GV)(c:d8)(e:Ev):Ev:=λenv=>bindR (it env) λds aM=>if aM.length=lo then bindR (Ac g c e ds (aM++List.replicate (n - lo) none)) λys dH=>(if ys.length<=sizeLine then .ok (.lst ys) (dH.take lo) else .stuck) else .stuck
def J9(X:Cx)(C:Cfg)(ifs:List Expr)(ev:d8):Prop:=PIf X ifs (tT C ev)
def fP:d8:=λenv=>.ok true env
def QK{X:Cx}{C:Cfg}:J9 X C [] fP:=λpins s σ H Q I h=>by
 obtain⟨Pr,F,env,env',b,r,e,q⟩:=h;cases e;exact Vy pins s σ H Q I (q H F r (aQ.refl F))
def QJ{X:Cx}{C:Cfg}{c:Expr}{t:d8}(h:Hx X C c t):J9 X C [c] t:=Vx h
def Xz{C:Cfg}{lo n:Nat}{it:cV}{g:GV}{c:d8}{e:Ev}{σ:L2.St}{H:Hp}{Q:VK}(h:tN C (iD lo n it g c e) σ H Q):tLC n (tI C it) (tG C lo g) (tT C c) (tE C e) σ H Q:=by
 obtain⟨Pr,F,env,env',d,r,ev,q⟩:=h;obtain⟨ds,aM,e1,e2⟩:=aW ev;split at e2
 ·rename_i hlo;obtain⟨ys,dH,e3,e4⟩:=aW e2;split at e4
  ·rename_i hz;cases e4;refine⟨Pr,F,env,aM,ds,r,e1,λJ H1 F1 r1 s1 y1 a ha=>?_⟩;have hσ:σ.length=lo:=r1.len.symm.trans hlo;have hPa:Pr a=none:=r1.pr.free ha;refine⟨λi m σ' H'=>m=ds.length - i/\i<=ds.length/\∃F' Hj acc ws rest,Rel C (upd Pr a (.lst ws)) F' Hj σ' H'/\aQ F1 F'/\bT C.K F' acc ws/\σ'.take lo=σ/\Ac g c e (ds.drop i) Hj = .ok rest dH/\acc++rest=ys,
    ⟨ds.length,rfl,Nat.zero_le _,F1,aM++List.replicate (n - lo) none,[],[],ys,?_,aQ.refl _,rfl,?_,e3,rfl⟩,?_⟩
   ·rw[hσ];exact(r1.aside (o:=.lst []) ha).pad _
   ·unfold uy;rw[<-hσ,List.take_left]
   rintro i m σ' H' ⟨rfl,hi,F',Hj,acc,ws,rest,r',s',p',t',l',hacc⟩;have hFa:F' a=none:=by
    cases ez:F' a with
    | none=>rfl
    | some w=>have:=r'.dj a w ez;rw[aZ] at this;cases this
   by_cases hl:i<ds.length
   ·have hd:ds[i]? = some ds[i]:=List.getElem?_eq_getElem hl;have hdr:ds.drop i=ds[i]::ds.drop (i+1):=List.drop_eq_getElem_cons hl;have yy:=y1 i H' (s'.trans r'.fr);refine .inr ⟨(yy.2 _ hd).1,λσ2 H2=>∃F' Hj acc ws rest,Rel C (upd Pr a (.lst ws)) F' Hj σ2 H2/\aQ F1 F'/\bT C.K F' acc ws/\σ2.take lo=σ/\Ac g c e (ds.drop (i+1)) Hj = .ok rest dH/\acc++rest=ys,
     λσ2 H2 h2=>⟨ds.length - (i+1),by omega,rfl,hl,h2⟩,λx H2 hy=>?_⟩
    obtain⟨F2,r2,s2,p2⟩:=qQ.item r' s' y1 hd hy;rw[hdr] at l';unfold Ac at l';cases eg:g ds[i] Hj with
    | none=>rw[eg] at l';cases l'
    | some e5=>
     rw[eg] at l';obtain⟨b,e6,c1,l2⟩:=aW l';refine⟨_,F2,Hj,e5,ds[i],r2,p2,eg,λσ3 H3 F3 r3 s3 t3=>⟨_,F3,e5,e6,b,r3,c1,λH4 F4 r4 s4=>?_⟩⟩;have t3':σ3.take lo=σ:=t3.trans t';have s24:aQ F' F4:=(s2.trans s3).trans s4;cases b with
     | false=>
      show if false=true then _ else _
      rw[if_neg Bool.false_ne_true];rw[if_neg Bool.false_ne_true] at l2;exact⟨F4,e6,acc,ws,rest,r4,s'.trans s24,bT.mono s24 _ _ p',t3',l2,hacc⟩
     | true=>
      show if true=true then _ else _
      rw[if_pos rfl];rw[if_pos rfl] at l2;obtain⟨y,e7,c2,l3⟩:=aW l2;obtain⟨ys2,e8,c3,l4⟩:=aW l3;cases l4;refine⟨_,F4,e6,e7,y,r4,c2,λv H5 F5 r5 s5 p5=>?_⟩;have hlen:acc.length+(ys2.length+1)=ys.length:=by rw[<-hacc,List.length_append,List.length_cons]
      refine⟨ws,r5.pr _ _ aZ,by rw[p'.length];omega,F5,e7,acc++[y],ws++[v],ys2,?_,s'.trans (s24.trans s5),(bT.mono (s24.trans s5) _ _ p').append (bT.one p5),t3',c3,by rw[List.append_assoc];exact hacc⟩;have r6:=r5.turn (u:=.lst (ws++[v])) aZ
      rwa [Uo] at r6
   ·have ei:i=ds.length:=by omega
    subst ei;rw[List.drop_length] at l';cases l';rw[List.append_nil] at hacc;subst hacc;refine .inl ⟨(y1 _ H' (s'.trans r'.fr)).1 (List.getElem?_eq_none (Nat.le_refl _)) rfl,?_⟩;have sP:aQ Pr (upd Pr a (.lst ws)):=lN hPa;have r7:Rel C Pr F' (dH.take lo) σ H':=by
     have:=(r'.less sP).cut (σ0:=σ) (by rw[hσ];exact t') r1.fix
     rwa [hσ] at this
    refine q a H' F' r7 (s1.trans s') ⟨⟨hz,ws,r'.pr _ _ aZ,p'⟩,hFa,hPa,λj e he hs=>?_⟩;have hj:j<σ.length:=(List.getElem?_eq_some_iff.mp hs).1;have he':dH[j]? = some (some (true,e)):=by rw[List.getElem?_take_of_lt (by rw[<-hσ];exact hj)] at he;exact he
    obtain⟨b,g1,_,_,g4⟩:=r'.own j e he';have:σ'[j]? = some (some (V.ref a)):=by rw[<-t',List.getElem?_take_of_lt (by rw[<-hσ];exact hj)] at hs;exact hs
    rw[this] at g1;cases g1;rw[aZ] at g4;cases g4
  ·cases e4
 ·cases e2
section
variable{X:Cx}{C:Cfg}{pos:Pos}
def Zj{elt tg iter:Expr}{ifs:List Expr}{scope:Scope}(N':List Str){it:cV}{g:GV}{c:d8}{e:Ev}(lo:Nat)(ok:mz X scope N')(hc:X.calm=true)(hi:Mf X C tg iter it)
  (bg:∀X',jD X scope N' X'->Ka X' C lo tg g) (bc:∀X',jD X scope N' X'->J9 X' C ifs c) (be:∀X',jD X scope N' X'->PX X' C elt e)
  (hs:∀x,foldedSetIterable iter X.env x=pure x:=by intro _;rfl):J8 X C (.ListComp elt [⟨tg,iter,ifs,0⟩] scope pos) (iD lo N'.length it g c e):=
 (adY ok hc hi bg bc be hs).imp λσ H Q h=>Xz h
def MJ{elt tg iter:Expr}{ifs:List Expr}{scope:Scope}(N':List Str){spos py:Pos}{it:cV}{g:GV}{c:d8}{e:Ev}(lo:Nat){i:Nat}{y:Str}(ok:mz X scope N')(hc:X.calm=true)(hi:Mf X C tg iter it)
  (bg:∀X',jD X scope N' X'->Ka X' C lo tg g) (bc:∀X',jD X scope N' X'->J9 X' C ifs c) (be:∀X',jD X scope N' X'->PX X' C elt e)
  (hN:X.N.Nodup) (hy:X.N[i]? = some y) (hx:Loc X.env.scope y) (hfx:C.fx i=none)
  (hsw:swapsWith (.ListComp elt [⟨tg,iter,ifs,0⟩] scope pos) (some (.Name y py)) spos.line X.env=pure true)
  (hf:X.fn y=true\/X.env.scope.names.lookup y=some .local:=by first|exact .inl rfl|exact .inr rfl|assumption)
  (hs:∀x,foldedSetIterable iter X.env x=pure x:=by intro _;rfl):yw X C (.Assign [.Name y py] (.ListComp elt [⟨tg,iter,ifs,0⟩] scope pos) spos) (dq i (iD lo N'.length it g c e)):=
 (Q0 ok hc hi bg bc be hN hy hx hsw hf hs).imp λD σ H h=>by
  obtain⟨Pr,F,env,r,f⟩:=h;obtain⟨d,aM,e1,f1⟩:=dJ f;have:tN C (iD lo N'.length it g c e) σ H λv H1=>G7 i v σ H1 D.nx:=⟨Pr,F,env,aM,d,r,e1,λv H1 F1 r1 s1 p1=>f1 _ H1 F1 (r1.QT hfx p1) s1⟩;exact Xz this
end
def j7(K:Fg)(n:Nat)(f:List D->Option D):Sp:=λvs H Q _=>∃(F:Hp) (ds:List D) (d:D),ds.length=n/\aQ F H/\bT K F ds vs/\f ds=some d/\
 ∀v H' F',aQ H H'->aQ F' H'->aQ F F'->(∀b o,F' b=some o->F b=some o\/H b=none)->Rep K F' d v->Q v H'
def Xi(K:Fg)(n:Nat)(f:List D->Option D):Sp:=λvs H Q _=>∃(F:Hp) (ds:List D) (d:D),ds.length=n/\aQ F H/\bT K F ds vs/\f ds=some d/\
 ∀a H' F',aQ H H'->aQ F' H'->aQ F F'->(∀b o,F' b=some o->F b=some o\/H b=none)->j0 K F' H' d a->F' a=none->H a=none->Q (.ref a) H'
def vJ(K:Fg)(n:Nat)(f:List D->Option (D×D)):Sp:=λvs H Q _=>∃(F:Hp) (a:Addr) (r:List V) (x:D) (ds:List D) (d x':D),vs = .ref a::r/\ds.length+1=n/\aQ F H/\F a=none/\j0 K F H x a/\bT K F ds r/\f (x::ds)=some (d,x')/\
 ∀v H' F',(∀b o,b≠a->H b=some o->H' b=some o)->aQ F' H'->aQ F F'->(∀b o,F' b=some o->F b=some o\/H b=none)->j0 K F' H' x' a->Rep K F' d v->Q v H'
def Rel.after{C:Cfg}{Pr F F':Hp}{env:Env}{σ:L2.St}{H H':Hp}(r:Rel C Pr F env σ H)(s:aQ H H')(sF:aQ F' H')(sF':aQ F F')(nw:∀b o,F' b=some o->F b=some o\/H b=none):Rel C Pr F' env σ H':=by
 refine⟨r.pr.trans s,sF,r.len,λj e he=>?_,λj e he=>?_,r.apart,λb o e=>?_,r.fix⟩
 ·obtain⟨v,h1,h2⟩:=r.val j e he;exact⟨v,h1,Rep.mono sF' _ _ h2⟩
 ·obtain⟨a,h1,h2,h3,h4⟩:=r.own j e he;obtain⟨o,ho⟩:=h2.some;refine⟨a,h1,h2.mono sF' (by rw[ho,s _ _ ho]),?_,h4⟩;cases e:F' a with
  | none=>rfl
  | some u=>
   rcases nw a u e with z|z
   ·rw[h3] at z;cases z
   ·rw[ho] at z;cases z
 ·rcases nw b o e with z|z
  ·exact r.dj b o z
  ·exact r.pr.free z
def Rel.WT{C:Cfg}{Pr F F':Hp}{env:Env}{σ:L2.St}{H H':Hp}{i:Nat}{a:Addr}{d d':D}(r:Rel C Pr F env σ H)(h:env[i]? = some (some (true,d)))(hs:σ[i]? = some (some (V.ref a)))(s:∀b o,b≠a->H b=some o->H' b=some o)(sF:aQ F' H')(sF':aQ F F')(nw:∀b o,F' b=some o->F b=some o\/H b=none)(ho:j0 C.K F' H' d' a):Rel C Pr F' (env.set i (some (true,d'))) σ H':=by
 obtain⟨a',h1,h2,h3,h4⟩:=r.own i d h;rw[hs] at h1;cases h1;have hi:i<env.length:=(List.getElem?_eq_some_iff.mp h).1;obtain⟨oa,hoa⟩:=h2.some;have ne:∀(j:Nat) (e:D) (b:Addr),j≠i->env[j]? = some (some (true,e))->σ[j]? = some (some (V.ref b))->b≠a:=λj e b hj he g z=>hj (r.apart j i e d a he h (by rw[<-z];exact g) hs);have nF:∀b u,F b=none->H b=some u->F' b=none:=λb u e1 e2=>by
  cases e:F' b with
  | none=>rfl
  | some w=>
   rcases nw b w e with z|z
   ·rw[e1] at z;cases z
   ·rw[e2] at z;cases z
 refine⟨λb w e=>?_,sF,by rw[List.length_set];exact r.len,λj e he=>?_,λj e he=>?_,λj k e f b hj hk g1 g2=>?_,λb o e=>?_,r.fix⟩
 ·have hb:b≠a:=λz=>by rw[z,h4] at e;cases e
  exact s b w hb (r.pr b w e)
 ·by_cases hj:j=i
  ·subst hj;rw[List.getElem?_set_self hi] at he;cases he
  ·rw[List.getElem?_set_ne (Ne.symm hj)] at he;obtain⟨v,g1,g2⟩:=r.val j e he;exact⟨v,g1,Rep.mono sF' _ _ g2⟩
 ·by_cases hj:j=i
  ·subst hj;rw[List.getElem?_set_self hi] at he;cases he;exact⟨a,hs,ho,nF a oa h3 hoa,h4⟩
  ·rw[List.getElem?_set_ne (Ne.symm hj)] at he;obtain⟨b,g1,g2,g3,g4⟩:=r.own j e he;obtain⟨ob,hob⟩:=g2.some;exact⟨b,g1,g2.mono sF' (by rw[hob,s b ob (ne j e b hj he g1) hob]),nF b ob g3 hob,g4⟩
 ·have un:∀(j:Nat) (e:D),(env.set i (some (true,d')))[j]? = some (some (true,e))->∃e',env[j]? = some (some (true,e')):=λj e he=>by
   by_cases hj:j=i
   ·subst hj;exact⟨d,h⟩
   ·rw[List.getElem?_set_ne (Ne.symm hj)] at he;exact⟨e,he⟩
  obtain⟨e',hj'⟩:=un j e hj;obtain⟨f',hk'⟩:=un k f hk;exact r.apart j k e' f' b hj' hk' g1 g2
 ·rcases nw b o e with z|z
  ·exact r.dj b o z
  ·exact r.pr.free z
section
variable{X:Cx}{C:Cfg}{pos p:Pos}{k n:Nat}{f:Addr}{fd:FuncData}{ps:List Str}{x:Str}{e:Expr}{es:List Expr}
def tu{g:List D->Option D}{a:cV}{env env':Env}{d:D}(h:au g a env = .ok d env'):∃ds,a env = .ok ds env'/\g ds=some d:=by obtain⟨ds,aM,e1,e2⟩:=aW h;obtain⟨e3,rfl⟩:=eZ e2;exact⟨ds,e1,e3⟩
def Zr{g:List D->Option D}{a:cV}(G:lC X.prog X.w X.K X.mg X.base xx k f fd ps (j7 C.K n g))(hr:fJ k X.A)(hg:Gl X x)(hm:X.mg x=some (.ref f))(hk:PySem.W.keepIn X.K (.ref f)=true)(hb:Binds X.K fd ps [])
  (ha:Cr X C (e::es) a) (hn:∀env ds env',a env = .ok ds env'->ds.length=n) (hdb:iZ x:=by decide) (he:starEach (e::es) X.env=(false,eval e X.env)::starEach es X.env:=by rfl) (hpl:(backTo pos (starEach es X.env)).any (·.1)=false:=by rfl) :
  PX X C (.Call (.Name x p) (e::es) [] pos) (au g a):=(Dp G hr hg hm hk hb .nil KY ha hdb he hpl).imp λσ H Q hq=>by
 obtain⟨Pr,F,env,env',d,r,e,q⟩:=hq;obtain⟨ds,e1,e2⟩:=tu e;refine⟨Pr,F,env,env',ds,r,e1,λvs H1 F1 r1 s1 p1=>?_⟩;show j7 C.K n g (vs++[]) H1 Q E0;rw[List.append_nil];exact⟨F1,ds,d,hn _ _ _ e1,r1.fr,p1,e2,λv H2 F2 t1 t2 t3 t4 p2=>q v H2 F2 (r1.after t1 t2 t3 t4) (s1.trans t3) p2⟩
def Vi{g:List D->Option D}{a:cV}(G:lC X.prog X.w X.K X.mg X.base xx k f fd ps (Xi C.K n g))(hr:fJ k X.A)(hg:Gl X x)(hm:X.mg x=some (.ref f))(hk:PySem.W.keepIn X.K (.ref f)=true)(hb:Binds X.K fd ps [])
  (ha:Cr X C (e::es) a) (hn:∀env ds env',a env = .ok ds env'->ds.length=n) (hdb:iZ x:=by decide) (he:starEach (e::es) X.env=(false,eval e X.env)::starEach es X.env:=by rfl) (hpl:(backTo pos (starEach es X.env)).any (·.1)=false:=by rfl) :
  J8 X C (.Call (.Name x p) (e::es) [] pos) (au g a):=(Dp G hr hg hm hk hb .nil KY ha hdb he hpl).imp λσ H Q hq=>by
 obtain⟨Pr,F,env,env',d,r,e,q⟩:=hq;obtain⟨ds,e1,e2⟩:=tu e;refine⟨Pr,F,env,env',ds,r,e1,λvs H1 F1 r1 s1 p1=>?_⟩;show Xi C.K n g (vs++[]) H1 Q E0;rw[List.append_nil];refine⟨F1,ds,d,hn _ _ _ e1,r1.fr,p1,e2,λb H2 F2 t1 t2 t3 t4 ho hF hH=>q b H2 F2 (r1.after t1 t2 t3 t4) (s1.trans t3) ⟨ho,hF,r1.pr.free hH,λj e he hs=>?_⟩⟩;obtain⟨c,h1,h2,_⟩:=r1.own j e he;rw[hs] at h1;cases h1;obtain⟨u,hu⟩:=h2.some;rw[hH] at hu;cases hu
def dC(f:List D->Option (D×D))(i:Nat)(a:cV):Ev:=λenv=>match env[i]? with
 | some (some (true,_))=>bindR (a env) λds aM=>(match aM[i]? with
  | some (some (true,x))=>(match f (x::ds) with
   | some (d,x')=>.ok d (aM.set i (some (true,x')))
   | none=>.stuck)
  | _=>.stuck)
 | _=>.stuck
def adP{g:List D->Option (D×D)}{a:cV}{i:Nat}{y:Str}{py:Pos}(hN:X.N[i]? = some y)(hv:pD X.env.scope y)(G:lC X.prog X.w X.K X.mg X.base xx k f fd ps (vJ C.K n g))(hr:fJ k X.A)(hg:Gl X x)(hm:X.mg x=some (.ref f))(hk:PySem.W.keepIn X.K (.ref f)=true)(hb:Binds X.K fd ps [])
  (ha:Cr X C es a) (hn:∀env ds env',a env = .ok ds env'->ds.length+1=n) (hdb:iZ x:=by decide) (he:starEach (.Name y py::es) X.env=(false,eval (.Name y py) X.env)::starEach es X.env:=by rfl) (hpl:(backTo pos (starEach es X.env)).any (·.1)=false:=by rfl)
  (hd:iZ y:=by decide) (hcd:oU y:=by decide) :
  PX X C (.Call (.Name x p) (.Name y py::es) [] pos) (dC g i a):=(Dp G hr hg hm hk hb .nil KY (iH (jk hN hv hd hcd) ha he) hdb he hpl).imp λσ H Q hq=>by
 obtain⟨Pr,F,env,env',d,r,e,q⟩:=hq;unfold dC at e;split at e
 ·rename_i d0 h0;obtain⟨ds,aM,e1,e2⟩:=aW e;split at e2
  ·rename_i z hz;split at e2
   ·rename_i d1 z' hg;cases e2;obtain⟨a0,hs0,_⟩:=r.own i _ h0;refine⟨_,hs0,Pr,F,env,aM,ds,r,e1,λvs H1 F1 r1 s1 p1=>?_⟩;obtain⟨a1,hs1,ho1,hF1,hP1⟩:=r1.own i _ hz;rw[hs0] at hs1;cases hs1;show vJ C.K n g (_::vs++[]) H1 Q E0;rw[List.append_nil];exact⟨F1,a0,vs,z,ds,d,z',rfl,hn _ _ _ e1,r1.fr,hF1,ho1,p1,hg,λv H2 F2 t1 t2 t3 t4 t5 p2=>q v H2 F2 (r1.WT hz hs0 t1 t2 t3 t4 t5) (s1.trans t3) p2⟩
   ·cases e2
  ·cases e2
 ·cases e
end
def envOf(n:Nat)(ds:List D):Env:=ds.map (λd=>some (false,d))++List.replicate (n - ds.length) none
def xg(n:Nat)(x:D)(ds:List D):Env:=some (true,x)::(ds.map (λd=>some (false,d))++List.replicate (n - (ds.length+1)) none)
def cQ(n:Nat)(ev:bW)(ds:List D):Option D:=match ev (envOf n ds) with
 | .rt false d _=>some d
 | .nx _=>some .non
 | _=>none
def runN(n:Nat)(ev:bW)(ds:List D):Option D:=match ev (envOf n ds) with
 | .rt true d _=>some d
 | _=>none
def jF(n:Nat)(ev:bW)(ds:List D):Option (D×D):=match ds with
 | []=>none
 | x::r=>(match ev (xg n x r) with
  | .rt false d env=>(match env[0]? with
   | some (some (true,x'))=>some (d,x')
   | _=>none)
  | .nx env=>(match env[0]? with
   | some (some (true,x'))=>some (.non,x')
   | _=>none)
  | _=>none)
def C0(K:Fg):Cfg:=⟨K,λ_=>none⟩
def C1(K:Fg)(a:Addr):Cfg:=⟨K,λi=>if i=0 then some a else none⟩
def Ay(H F:Hp):Hp:=λb=>if (F b).isSome then none else H b
def GD{H F:Hp}{b:Addr}{o:HO}(h:Ay H F b=some o):H b=some o/\F b=none:=by
 unfold Ay at h;split at h
 ·cases h
 ·rename_i z;exact⟨h,by cases e:F b with|none=>rfl|some w=>rw[e] at z;exact absurd rfl z⟩
def zb{H F:Hp}{b:Addr}(h:Ay H F b=none):H b=none\/∃o,F b=some o:=by
 unfold Ay at h;split at h
 ·rename_i z;exact .inr (Option.isSome_iff_exists.mp z)
 ·exact .inl h
def qT{K:Fg}{F H:Hp}{ds:List D}{vs:List V}{N:List Str}(s:aQ F H)(p:bT K F ds vs):Rel (C0 K) (Ay H F) F (envOf N.length ds) (start N vs) H:=by
 have un:∀(j:Nat) (x:Bool×D),(envOf N.length ds)[j]? = some (some x)->∃d,x=(false,d)/\ds[j]? = some d:=λj x he=>by
  unfold envOf at he;by_cases hj:j<(ds.map λd=>some (false,d)).length
  ·rw[List.getElem?_append_left hj,List.getElem?_map] at he;obtain⟨d,h1,h2⟩:=Option.map_eq_some_iff.mp he;cases h2;exact⟨d,rfl,h1⟩
  ·rw[List.getElem?_append_right (by omega),List.getElem?_replicate] at he;split at he<;>cases he
 refine⟨λb o e=>(GD e).1,s,?_,λj d he=>?_,λj d he=>?_,λj k d e a hj hk=>?_,λb o e=>?_,λi a h=>by cases h⟩
 ·unfold envOf L2.start;rw[List.length_append,List.length_append,List.length_map,List.length_map,List.length_replicate,List.length_replicate,p.length]
 ·obtain⟨d',z,hd⟩:=un j _ he;cases z;obtain⟨v,h1,h2⟩:=p.get hd;refine⟨v,?_,h2⟩;unfold L2.start;rw[List.getElem?_append_left (by rw[List.length_map];exact(List.getElem?_eq_some_iff.mp h1).1),List.getElem?_map,h1]
  rfl
 ·obtain⟨d',z,_⟩:=un j _ he;cases z
 ·obtain⟨d',z,_⟩:=un j _ hj;cases z
 ·unfold Ay;rw[e];rfl
def aQ.sS{H F F' H':Hp}(s1:aQ (Ay H F) H')(s2:aQ F F')(s3:aQ F' H')(sF:aQ F H):aQ H H':=λb o e=>by
 cases z:F b with
 | none=>exact s1 b o (by unfold Ay;rw[z];exact e)
 | some w=>
  have:=sF b w z;rw[e] at this;cases this;exact s3 b o (s2 b o z)
def sW{H F F':Hp}(s2:aQ F F')(dj:∀b o,F' b=some o->Ay H F b=none)(b:Addr)(o:HO)(h:F' b=some o):F b=some o\/H b=none:=by
 rcases zb (dj b o h) with z|⟨w,z⟩
 ·exact .inr z
 ·have:=s2 b w z;rw[h] at this;cases this;exact .inl z
section
variable{P:Program}{w:World}{K:Fg}{mg:Str->Option Value}{base:Heap}{x qual:Str}{st:Stmt}{f:Addr}{fd:FuncData}{N ps:List Str}{k:Nat}{ev:bW}
abbrev bx(P:Program)(w:World)(K:Fg)(mg:Str->Option Value)(base:Heap)(N:List Str)(qual:Str)(st:Stmt)(f:Addr)(cdv:Value)(A:Around)(outer:List PySem.Env)(s:Shared)(H:Hp)(E:XK):Cx:=(Hn xx P w K mg base N qual (aL st) f cdv A outer s H E).VV
def Ti(F:Oj K x qual st f fd)(S:bI N ps (aL st))
  (hb:∀(cdv:Value) (A:Around) (outer:List PySem.Env) (s:Shared) (H:Hp) (E:XK),fJ k (A.deeper (envOfC qual (aL st) s.heap.objs.size f cdv))->my (bx P w K mg base N qual st f cdv A outer s H E) (C0 K) (cI st) ev) :
  lC P w K mg base xx (k+1) f fd ps (j7 K ps.length (cQ N.length ev)):=by
 refine F.ok S (λvs H Q E h=>?_) (λcdv A outer s H vs Q E hr h=>?_)
 ·obtain⟨F0,ds,d,hl,_,p,_⟩:=h;rw[p.length,hl]
 ·obtain⟨F0,ds,d,hl,sF,p,e,q⟩:=h;refine⟨_,hb cdv A outer s H E hr,Ay H F0,F0,envOf N.length ds,qT sF p,?_⟩;unfold cQ at e;split at e
  ·rename_i d' env' h1;cases e;rw[h1];exact λv σ' H' F' r' s' p'=>q v H' F' (aQ.sS r'.pr s' r'.fr sF) r'.fr s' (sW s' r'.dj) p'
  ·rename_i env' h1;cases e;rw[h1];exact λσ' H' F' r' s'=>q .non H' F' (aQ.sS r'.pr s' r'.fr sF) r'.fr s' (sW s' r'.dj) rfl
  ·cases e
def Ws(F:Oj K x qual st f fd)(S:bI N ps (aL st))
  (hb:∀(cdv:Value) (A:Around) (outer:List PySem.Env) (s:Shared) (H:Hp) (E:XK),fJ k (A.deeper (envOfC qual (aL st) s.heap.objs.size f cdv))->my (bx P w K mg base N qual st f cdv A outer s H E) (C0 K) (cI st) ev) :
  lC P w K mg base xx (k+1) f fd ps (Xi K ps.length (runN N.length ev)):=by
 refine F.ok S (λvs H Q E h=>?_) (λcdv A outer s H vs Q E hr h=>?_)
 ·obtain⟨F0,ds,d,hl,_,p,_⟩:=h;rw[p.length,hl]
 ·obtain⟨F0,ds,d,hl,sF,p,e,q⟩:=h;refine⟨_,hb cdv A outer s H E hr,Ay H F0,F0,envOf N.length ds,qT sF p,?_⟩;unfold runN at e;split at e
  ·rename_i d' env' h1;cases e;rw[h1];refine λa σ' H' F' r' s' n'=>q a H' F' (aQ.sS r'.pr s' r'.fr sF) r'.fr s' (sW s' r'.dj) n'.own n'.nF ?_;rcases zb n'.nP with z|⟨u,z⟩
   ·exact z
   ·have:=s' a u z;rw[n'.nF] at this;cases this
  ·cases e
def Gd{K:Fg}{F H:Hp}{y:D}{a:Addr}{ds:List D}{vs:List V}{N:List Str}(s:aQ F H)(hF:F a=none)(ho:j0 K F H y a)(p:bT K F ds vs):Rel (C1 K a) (λb=>if b=a then none else Ay H F b) F (xg N.length y ds) (start N (.ref a::vs)) H:=by
 have un:∀(j:Nat) (x:Bool×D),(xg N.length y ds)[j]? = some (some x)->(j=0/\x=(true,y))\/∃i d,j=i+1/\x=(false,d)/\ds[i]? = some d:=λj x he=>by
  unfold xg at he;cases j with
  | zero=>cases he;exact .inl ⟨rfl,rfl⟩
  | succ i=>
   rw[List.getElem?_cons_succ] at he;by_cases hj:i<(ds.map λd=>some (false,d)).length
   ·rw[List.getElem?_append_left hj,List.getElem?_map] at he;obtain⟨d,h1,h2⟩:=Option.map_eq_some_iff.mp he;cases h2;exact .inr ⟨i,d,rfl,rfl,h1⟩
   ·rw[List.getElem?_append_right (by omega),List.getElem?_replicate] at he;split at he<;>cases he
 have z0:(start N (.ref a::vs))[0]? = some (some (V.ref a)):=rfl;refine⟨λb o e=>?_,s,?_,λj d he=>?_,λj d he=>?_,λj k d e b hj hk _ _=>?_,λb o e=>?_,λi b h=>?_⟩
 ·have e':(if b=a then none else Ay H F b)=some o:=e;split at e'
  ·cases e'
  ·exact(GD e').1
 ·unfold xg L2.start;simp only[List.length_cons,List.length_append,List.length_map,List.length_replicate,p.length,List.map_cons];omega
 ·rcases un j _ he with ⟨_,z⟩|⟨i,d',rfl,z,hd⟩
  ·cases z
  ·cases z;obtain⟨v,h1,h2⟩:=p.get hd;refine⟨v,?_,h2⟩;unfold L2.start;rw[List.map_cons,List.cons_append,List.getElem?_cons_succ,List.getElem?_append_left (by rw[List.length_map];exact(List.getElem?_eq_some_iff.mp h1).1),List.getElem?_map,h1]
   rfl
 ·rcases un j _ he with ⟨rfl,z⟩|⟨i,d',rfl,z,hd⟩
  ·cases z;exact⟨a,z0,ho,hF,if_pos rfl⟩
  ·cases z
 ·rcases un j _ hj with ⟨rfl,_⟩|⟨i,d',rfl,z,_⟩
  ·rcases un k _ hk with ⟨rfl,_⟩|⟨i,d',rfl,z,_⟩
   ·rfl
   ·cases z
  ·cases z
 ·show(if b=a then none else Ay H F b)=none;split
  ·rfl
  ·unfold Ay;rw[e];rfl
 ·have h':(if i=0 then some a else none)=some b:=h;split at h'
  ·rename_i hi;cases h';rw[hi];exact z0
  ·cases h'
def abR{y:Str}{qs:List Str}(F:Oj K x qual st f fd)(S:bI N (y::qs) (aL st))
  (hb:∀(cdv:Value) (A:Around) (outer:List PySem.Env) (s:Shared) (H:Hp) (E:XK) (a:Addr),fJ k (A.deeper (envOfC qual (aL st) s.heap.objs.size f cdv))->my (bx P w K mg base N qual st f cdv A outer s H E) (C1 K a) (cI st) ev) :
  lC P w K mg base xx (k+1) f fd (y::qs) (vJ K (qs.length+1) (jF N.length ev)):=by
 refine F.ok S (λvs H Q E h=>?_) (λcdv A outer s H vs Q E hr h=>?_)
 ·obtain⟨F0,a,r,z,ds,d,z',rfl,hl,_,_,_,p,_⟩:=h;rw[List.length_cons,List.length_cons,p.length];exact hl
 ·obtain⟨F0,a,r,z,ds,d,z',rfl,hl,sF,hFa,ho,p,e,q⟩:=h;refine⟨_,hb cdv A outer s H E a hr,_,F0,xg N.length z ds,Gd sF hFa ho p,?_⟩;have fin:∀(env':Env) (σ':L2.St) (H' F':Hp) (v:V) (d:D) (z':D),env'[0]? = some (some (true,z'))->Rel (C1 K a) (λb=>if b=a then none else Ay H F0 b) F' env' σ' H'->aQ F0 F'->Rep K F' d v->(∀v H' F',(∀b o,b≠a->H b=some o->H' b=some o)->aQ F' H'->aQ F0 F'->(∀b o,F' b=some o->F0 b=some o\/H b=none)->j0 K F' H' z' a->Rep K F' d v->Q v H')->Q v H':=λenv' σ' H' F' v d z' h0 r' s' p' q=>by
   obtain⟨b,g1,g2,g3,g4⟩:=r'.own 0 z' h0;have g5:=r'.fix 0 a rfl;rw[g1] at g5;cases g5;refine q v H' F' (λc o hc e=>?_) r'.fr s' (λc o e=>?_) g2 p'
   ·cases u:F0 c with
    | none=>exact r'.pr c o (by show(if c=a then none else Ay H F0 c)=some o;rw[if_neg hc];unfold Ay;rw[u];exact e)
    | some w=>
     have:=sF c w u;rw[e] at this;cases this;exact r'.fr c o (s' c o u)
   ·by_cases hc:c=a
    ·subst hc;rw[g3] at e;cases e
    ·have h1:=r'.dj c o e;have h1':(if c=a then none else Ay H F0 c)=none:=h1;rw[if_neg hc] at h1';rcases zb h1' with u|⟨w,u⟩
     ·exact .inr u
     ·have:=s' c w u;rw[e] at this;cases this;exact .inl u
  unfold jF at e;simp only at e;split at e
  ·rename_i d' env' h1;split at e
   ·rename_i z1 h0;cases e;rw[h1];exact λv σ' H' F' r' s' p'=>fin env' σ' H' F' v _ _ h0 r' s' p' q
   ·cases e
  ·rename_i env' h1;split at e
   ·rename_i z1 h0;cases e;rw[h1];exact λσ' H' F' r' s'=>fin env' σ' H' F' .non .non _ h0 r' s' rfl q
   ·cases e
  ·cases e
end
structure Good(X:Cx)(C:Cfg):Prop where
 K:X.K=C.K
 calm:X.calm=true
 un:X.A.units+64<cLine
def Good.u1{X:Cx}{C:Cfg}(G:Good X C):X.A.units+1<cLine:=Nat.lt_of_le_of_lt (Nat.add_le_add_left (by decide:1<=64) _) G.un
def Good.u60{X:Cx}{C:Cfg}(G:Good X C):X.A.units+60<cLine:=Nat.lt_of_le_of_lt (Nat.add_le_add_left (by decide:60<=64) _) G.un
def Good.u61{X:Cx}{C:Cfg}(G:Good X C):X.A.units+61<cLine:=Nat.lt_of_le_of_lt (Nat.add_le_add_left (by decide:61<=64) _) G.un
def Good.at{X X':Cx}{C:Cfg}{scope:Scope}{N':List Str}(G:Good X C)(h:jD X scope N' X'):Good X' C:=by obtain⟨_,_,_,_,_,rfl⟩:=h;exact⟨G.K,G.calm,G.un⟩
def Own(P:Program)(w:World)(K:Fg)(mg:Str->Option Value)(base:Heap)(x:Str)(k:Nat)(ps:List Str)(sp:Sp):Prop:=
 ∃f fd,lC P w K mg base xx k f fd ps sp/\mg x=some (.ref f)/\PySem.W.keepIn K (.ref f)=true/\Binds K fd ps []
def Glb(K:Fg)(mg:Str->Option Value)(x:Str)(d:D):Prop:=∃v u,mg x=some u/\RelV v u/\∀F,Rep K F d v
def dI(K:Fg)(mg:Str->Option Value)(x:Str)(st:Stmt)(ps:List Str):Prop:=∃f fd,Oj K x x st f fd/\mg x=some (.ref f)/\Binds K fd ps []
def ig:List Str->Bool
 | []=>true
 | x::r=>!(r.contains x)&&ig r
theorem gw:∀{l:List Str},ig l=true->l.Nodup
 | [],_=>.nil
 | x::r,h=>by
  have h':(!(r.contains x)&&ig r)=true:=h;rw[Bool.and_eq_true] at h';refine List.nodup_cons.mpr ⟨λhm=>?_,gw h'.2⟩;have:r.contains x=true:=List.contains_iff_mem.mpr hm;rw[this] at h';exact absurd h'.1 (by decide)
def Lf(outer:List (Str×NameKind)):List (Str×NameKind)->Bool
 | []=>true
 | (n,k)::r=>(!decide (k = .free)||decide (outer.lookup n=some .cell)||decide (outer.lookup n=some .free))&&Lf outer r
theorem Hf{outer:List (Str×NameKind)}:∀{l:List (Str×NameKind)},Lf outer l=true->∀x∈l,x.2 = .free->outer.lookup x.1=some .cell\/outer.lookup x.1=some .free
 | [],_,x,hx,_=>by simp at hx
 | (n,k)::r,h,x,hx,hf=>by
  have h':((!decide (k = .free)||decide (outer.lookup n=some .cell)||decide (outer.lookup n=some .free))&&Lf outer r)=true:=h;rw[Bool.and_eq_true,Bool.or_eq_true,Bool.or_eq_true] at h';rcases List.mem_cons.mp hx with rfl|hx
  ·rcases h'.1 with (z|z)|z
   ·have hf':k = .free:=hf;rw[decide_eq_true hf'] at z;exact absurd z (by decide)
   ·exact .inl (of_decide_eq_true z)
   ·exact .inr (of_decide_eq_true z)
  ·exact Hf h'.2 x hx hf
def lZ{X:Cx}{scope:Scope}{N':List Str}(h1:scope.kind = .function:=by rfl)(h2:ig (scope.names.map (·.1))=true:=by rfl)(h3:Lf X.env.scope.names scope.names=true:=by rfl)(h4:Tr scope.names N' X.N=true:=by rfl)(h5:Nat.ble X.N.length N'.length=true:=by rfl):mz X scope N':=
 ⟨h1,gw h2,Hf h3,h4,Nat.le_of_ble_eq_true h5⟩
section
variable{X:Cx}{C:Cfg}{pos p px:Pos}{x y z:Expr}{a b c:Ev}{t u:d8}{i:Nat}{n:Str}
def acN(i:Nat)(hN:X.N[i]? = some n:=by rfl)(hv:pD X.env.scope n:=by first|exact Or.inl rfl|exact Or.inr (Or.inl rfl)|exact Or.inr (Or.inr rfl))(hd:iZ n:=by decide)(hcd:oU n:=by decide):PX X C (.Name n pos) (aP i):=Zm i hN hv hd hcd
def agP(i:Nat)(hN:X.N[i]? = some n:=by rfl)(hv:pD X.env.scope n:=by first|exact Or.inl rfl|exact Or.inr (Or.inl rfl)|exact Or.inr (Or.inr rfl))(hd:iZ n:=by decide)(hcd:oU n:=by decide):Aa X C (.Name n pos) (bf i):=Vm i hN hv hd hcd
structure Bi(X:Cx)(C:Cfg)(op:Operator)(g:D->D->Option D):Prop where
 ex:∃r,nu X (binaryOp op) r/\pQ C r g
structure Cm(X:Cx)(C:Cfg)(op:CmpOp)(g:D->D->Option D):Prop where
 ex:∃r,nu X (compareOp op) r/\pQ C r g
def gn(G:Good X C):Bi X C .Add cB:=⟨_,VM,by rw[G.K];exact aaE⟩
def LC:Bi X C .Sub qz:=⟨_,aab,aas⟩
def TV:Bi X C .Mult sZ:=⟨_,VJ,aaw⟩
def afp:Bi X C .Mod abz:=⟨_,aag,aax⟩
def X8:Bi X C .Pow JM:=⟨_,aae,aav⟩
def afo:Bi X C .LShift Wf:=⟨_,aad,aau⟩
def X7:Bi X C .RShift G6:=⟨_,aac,aat⟩
def Yc:Bi X C .BitAnd G9:=⟨_,aap,aaD⟩
def ni(G:Good X C):Cm X C .Eq j4:=⟨_,aan G.u60,by rw[G.K];exact ad7⟩
def zN(G:Good X C):Cm X C .NotEq qC:=⟨_,aaf G.u60,by rw[G.K];exact ad3⟩
def abZ(G:Good X C):Cm X C .In gIn:=⟨_,aam G.u61,by rw[G.K];exact ad6⟩
def TJ:Cm X C .Is NP:=⟨_,aaj,ad5⟩
def ai2:Cm X C .Lt Ud:=⟨_,aah,ad4⟩
def acW{op:Operator}{g:D->D->Option D}(o:Bi X C op g)(ha:PX X C x a)(hb:Aa X C y b):PX X C (.BinOp x op y pos) (aH g a b):=let ⟨_,h1,h2⟩:=o.ex;adN h1 h2 ha hb
def Yx{op:Operator}{g:D->D->Option D}(i:Nat)(o:Bi X C op g)(hb:Aa X C y b)(hN:X.N[i]? = some n:=by rfl)(hv:pD X.env.scope n:=by first|exact Or.inl rfl|exact Or.inr (Or.inl rfl)|exact Or.inr (Or.inr rfl))(hd:iZ n:=by decide)(hcd:oU n:=by decide):PX X C (.BinOp (.Name n px) op y pos) (ao g i b):=let ⟨_,h1,h2⟩:=o.ex;Zu i hN hv h1 h2 hb hd hcd
def acV{op:CmpOp}{g:D->D->Option D}(o:Cm X C op g)(ha:PX X C x a)(hb:Aa X C y b)(hm:behindInMarks op y=false:=by rfl):PX X C (.Compare x [op] [y] pos) (aH g a b):=let ⟨_,h1,h2⟩:=o.ex;ZJ h1 h2 ha hb hm
def Yw{op:CmpOp}{g:D->D->Option D}(i:Nat)(o:Cm X C op g)(hb:Aa X C y b)(hN:X.N[i]? = some n:=by rfl)(hv:pD X.env.scope n:=by first|exact Or.inl rfl|exact Or.inr (Or.inl rfl)|exact Or.inr (Or.inr rfl))(hm:behindInMarks op y=false:=by rfl)(hd:iZ n:=by decide)(hcd:oU n:=by decide):PX X C (.Compare (.Name n px) [op] [y] pos) (ao g i b):=by obtain⟨r,h1,h2⟩:=o.ex;exact(KQ h1 (jk hN hv hd hcd) hb hm).imp (uR h2)
def ac0{op:CmpOp}{g:D->D->Option D}(o:Cm X C op g)(ha:PX X C x a)(hb:Aa X C y b)(hm:behindInMarks op y=false:=by rfl):Hx X C (.Compare x [op] [y] pos) (cP (aH g a b)):=let ⟨_,h1,h2⟩:=o.ex;Vb h1 h2 ha hb hm
def YM{op:CmpOp}{g:D->D->Option D}(i:Nat)(o:Cm X C op g)(hb:Aa X C y b)(hN:X.N[i]? = some n:=by rfl)(hv:pD X.env.scope n:=by first|exact Or.inl rfl|exact Or.inr (Or.inl rfl)|exact Or.inr (Or.inr rfl))(hm:behindInMarks op y=false:=by rfl)(hd:iZ n:=by decide)(hcd:oU n:=by decide):Hx X C (.Compare (.Name n px) [op] [y] pos) (cP (ao g i b)):=by obtain⟨r,h1,h2⟩:=o.ex;exact(KD h1 (jk hN hv hd hcd) hb hm).imp λσ H Q h=>uR h2 σ H _ (Pb h)
def agQ(G:Good X C)(ha:PX X C x a)(hb:Aa X C y b)(hs:pF y:=by intro _ _;rfl):PX X C (.Subscript x y pos) (aH bY a b):=adO G.K ha hb hs
def acU(i:Nat)(G:Good X C)(hb:Aa X C y b)(hN:X.N[i]? = some n:=by rfl)(hv:pD X.env.scope n:=by first|exact Or.inl rfl|exact Or.inr (Or.inl rfl)|exact Or.inr (Or.inr rfl))(hs:pF y:=by intro _ _;rfl)(hd:iZ n:=by decide)(hcd:oU n:=by decide):PX X C (.Subscript (.Name n px) y pos) (ao bY i b):=ZC i G.K hN hv hb hs hd hcd
def Um(i:Nat)(G:Good X C)(hb:Aa X C y b)(hN:X.N[i]? = some n:=by rfl)(hv:pD X.env.scope n:=by first|exact Or.inl rfl|exact Or.inr (Or.inl rfl)|exact Or.inr (Or.inr rfl))(hs:T6 y:=by intro _ _;rfl)(hd:iZ n:=by decide)(hcd:oU n:=by decide):PX X C (.Subscript (.Name n px) y pos) (ao jd i b):=QS i G.u1 hN hv hb hs hd hcd
def agO{lo hi:Option Expr}{el eh:yx}{p2:Pos}(G:Good X C)(ha:PX X C x a)(hl:T5 X C lo el)(hh:T5 X C hi eh):PX X C (.Subscript x (.Slice lo hi none p2) pos) (uL a el eh):=adL G.K ha hl hh
variable{e:Expr}{es:List Expr}{ea:cV}
def acT(G:Good X C)(hm:X.mg "len" = none)(ha:rD X C [e] ea)(hg:Gl X "len":=by rfl)(he:xG e X.env:=by rfl):PX X C (.Call (.Name "len" p) [e] [] pos) (au gU ea):=
 ux (by rw[<-G.K];exact Tw) abX hg hm PySem.boot_len ha (by decide) (by decide) he rfl
def acX(G:Good X C)(hm:X.mg "all" = none)(ha:rD X C [e] ea)(hg:Gl X "all":=by rfl)(he:xG e X.env:=by rfl):PX X C (.Call (.Name "all" p) [e] [] pos) (au Hd ea):=
 ux (by rw[<-G.K];exact Oe G.calm) abY hg hm (by decide +kernel) ha (by decide) (by decide) he rfl
def Ox(G:Good X C)(hm:X.mg "sorted" = none)(ha:rD X C [e] ea)(hg:Gl X "sorted":=by rfl)(he:xG e X.env:=by rfl):PX X C (.Call (.Name "sorted" p) [e] [] pos) (au iu ea):=
 MT G.K G.calm hg hm ha he rfl
def O2{e2:Expr}(G:Good X C)(hm:X.mg "divmod" = none)(ha:rD X C [e,e2] ea)(hg:Gl X "divmod":=by rfl)(he:starEach [e,e2] X.env=(false,eval e X.env)::starEach [e2] X.env:=by rfl)(hpl:(backTo pos (starEach [e2] X.env)).any (·.1)=false:=by rfl):PX X C (.Call (.Name "divmod" p) [e,e2] [] pos) (au rm ea):=
 ux Hu Ob hg hm (by decide +kernel) ha (by decide) (by decide) he hpl
def Uj(G:Good X C)(hm:X.mg "tuple" = none)(ha:rD X C [e] ea)(hg:Gl X "tuple":=by rfl)(he:xG e X.env:=by rfl):PX X C (.Call (.Name "tuple" p) [e] [] pos) (au dG ea):=
 nJ (T:="tuple") (r:=Qm C.K) (by rw[<-G.K];exact Be) Tt hg hm (by decide +kernel) ha (by decide) (by decide) he rfl
def Yr(G:Good X C)(hm:X.mg "list" = none)(ha:rD X C [e] ea)(hg:Gl X "list":=by rfl)(he:xG e X.env:=by rfl):PX X C (.Call (.Name "list" p) [e] [] pos) (au qD ea):=
 nJ (T:="list") (r:=Qp C.K) (by rw[<-G.K];exact JX G.calm) Wx hg hm (by decide +kernel) ha (by decide) (by decide) he rfl
def Ys{o:Expr}{apos cpos:Pos}(G:Good X C)(ho:PX X C o a)(he:Aa X C e b)(hbase:attributeBase o "join" X.env (eval o X.env)=eval o X.env:=by rfl)
  (hs:xG e X.env:=by rfl)
  (hfew:((backTo cpos (starEach [e] X.env)).all (λx=>!x.1)&&(backToKw cpos (keywordEach [] X.env)).all (λx=>x.1.isSome)
   && decide ([e].length+([]:List Keyword).length+(if ([]:List Keyword).isEmpty then 0 else 1)<30))=true:=by rfl)
  (hline:(apos.endLine == cpos.line)=true:=by rfl) (hplain:(backTo cpos (starEach [] X.env)).any (·.1)=false:=by rfl) :
  PX X C (.Call (.Attribute o "join" apos) [e] [] cpos) (aH nU a b):=Vo G.K ho he hbase hs hfew hline hplain
def acR{k k':Nat}{m:Nat}{ps:List Str}{g:List D->Option D}(O:Own X.prog X.w X.K X.mg X.base n k ps (j7 X.K m g))(G:Good X C)(hr:fJ k' X.A)(hk:Nat.ble k k'=true)(ha:Cr X C (e::es) ea)(hn:∀env ds env',ea env = .ok ds env'->ds.length=m)
  (hg:Gl X n:=by rfl) (hdb:iZ n:=by decide) (he:starEach (e::es) X.env=(false,eval e X.env)::starEach es X.env:=by rfl) (hpl:(backTo pos (starEach es X.env)).any (·.1)=false:=by rfl):PX X C (.Call (.Name n p) (e::es) [] pos) (au g ea):=by
 obtain⟨f,fd,h1,h2,h3,h4⟩:=O;rw[G.K] at h1;have h1':lC X.prog X.w X.K X.mg X.base xx k f fd ps (j7 C.K m g):=by rw[G.K];exact h1
 exact Zr h1' (hr.mono (Nat.le_of_ble_eq_true hk)) hg h2 h3 h4 ha hn hdb he hpl
def aee{k k':Nat}{m:Nat}{ps:List Str}{g:List D->Option D}(O:Own X.prog X.w X.K X.mg X.base n k ps (Xi X.K m g))(G:Good X C)(hr:fJ k' X.A)(hk:Nat.ble k k'=true)(ha:Cr X C (e::es) ea)(hn:∀env ds env',ea env = .ok ds env'->ds.length=m)
  (hg:Gl X n:=by rfl) (hdb:iZ n:=by decide) (he:starEach (e::es) X.env=(false,eval e X.env)::starEach es X.env:=by rfl) (hpl:(backTo pos (starEach es X.env)).any (·.1)=false:=by rfl):J8 X C (.Call (.Name n p) (e::es) [] pos) (au g ea):=by
 obtain⟨f,fd,h1,h2,h3,h4⟩:=O;rw[G.K] at h1;have h1':lC X.prog X.w X.K X.mg X.base xx k f fd ps (Xi C.K m g):=by rw[G.K];exact h1
 exact Vi h1' (hr.mono (Nat.le_of_ble_eq_true hk)) hg h2 h3 h4 ha hn hdb he hpl
def agR{k k':Nat}{m:Nat}{ps:List Str}{g:List D->Option (D×D)}{v:Str}{pv:Pos}(i:Nat)(O:Own X.prog X.w X.K X.mg X.base n k ps (vJ X.K m g))(G:Good X C)(hr:fJ k' X.A)(hk:Nat.ble k k'=true)(ha:Cr X C es ea)(hn:∀env ds env',ea env = .ok ds env'->ds.length+1=m)
  (hN:X.N[i]? = some v:=by rfl) (hv:pD X.env.scope v:=by first|exact Or.inl rfl|exact Or.inr (Or.inl rfl)|exact Or.inr (Or.inr rfl))
  (hg:Gl X n:=by rfl) (hdb:iZ n:=by decide) (he:starEach (.Name v pv::es) X.env=(false,eval (.Name v pv) X.env)::starEach es X.env:=by rfl) (hpl:(backTo pos (starEach es X.env)).any (·.1)=false:=by rfl)
  (hd:iZ v:=by decide) (hcd:oU v:=by decide):PX X C (.Call (.Name n p) (.Name v pv::es) [] pos) (dC g i ea):=by
 obtain⟨f,fd,h1,h2,h3,h4⟩:=O;rw[G.K] at h1;have h1':lC X.prog X.w X.K X.mg X.base xx k f fd ps (vJ C.K m g):=by rw[G.K];exact h1
 exact adP hN hv h1' (hr.mono (Nat.le_of_ble_eq_true hk)) hg h2 h3 h4 ha hn hdb he hpl hd hcd
def len0:∀(env:Env) (ds:List D) (env':Env),ak env = .ok ds env'->ds.length=0:=NZ
def aY{a:Ev}{r:cV}{m:Nat}(hr:∀env ds env',r env = .ok ds env'->ds.length=m):∀(env:Env) (ds:List D) (env':Env),aa a r env = .ok ds env'->ds.length=m+1:=JR hr
def ir{r:cV}{m:Nat}(hr:∀env ds env',r env = .ok ds env'->ds.length=m):∀(env:Env) (ds:List D) (env':Env),r env = .ok ds env'->ds.length+1=m+1:=λenv ds env' h=>by rw[hr env ds env' h]
def abw{lo:Nat}(i:Nat)(hnd:ig X.N=true:=by rfl)(hlo:Nat.ble lo i=true:=by rfl)(hfx:C.fx i=none:=by rfl)(hi:X.N[i]? = some n:=by rfl)(hx:Loc X.env.scope n:=by first|exact Or.inl rfl|exact Or.inr rfl)(hf:X.fn n=true\/X.env.scope.names.lookup n=some .local:=by first|exact .inl rfl|exact .inr rfl):Ka X C lo (.Name n pos) (aj i):=
 QM (gw hnd) hi hx (Nat.le_of_ble_eq_true hlo) hfx hf
def aeU{lo:Nat}{k:Nat}{gs:Mg}{m:Nat}(G:Good X C)(h:Oi X C lo es gs)(hn:(assignEach es X.env).length=m:=by rfl)(hst:(assignEach es X.env).findIdx? (·.1)=none:=by rfl):Ka X C lo (.Tuple es k pos) (cJ m gs):=Vl G.calm G.K h hn hst
def ait{lo:Nat}{ix:Expr}{ev:Ev}(i:Nat)(h:PX X C ix ev)(hN:X.N[i]? = some n:=by rfl)(hv:pD X.env.scope n:=by first|exact Or.inl rfl|exact Or.inr (Or.inl rfl)|exact Or.inr (Or.inr rfl))
  (ha:∀v,assign (.Subscript (.Name n px) ix pos) X.env v=(do
   let ov <-holding [v] (eval (.Name n px) X.env)
   let iv <-holding [v,ov] (eval ix X.env)
   standAt pos
   holding [v,ov,iv] (setItem ov iv v)
   release [v,ov,iv] []):=by intro _;rfl)
  (hd:iZ n:=by decide) (hcd:oU n:=by decide):Ka X C lo (.Subscript (.Name n px) ix pos) (SJ i ev):=Zk hN hv h ha hd hcd
def adg{pos':Pos}(i:Nat)(he:PX X C e a)(hnd:ig X.N=true:=by rfl)(hfx:C.fx i=none:=by rfl)(hi:X.N[i]? = some n:=by rfl)(hx:Loc X.env.scope n:=by first|exact Or.inl rfl|exact Or.inr rfl)(hs:swapsWith e (some (.Name n pos')) pos.line X.env=pure false:=by rfl)(hf:X.fn n=true\/X.env.scope.names.lookup n=some .local:=by first|exact .inl rfl|exact .inr rfl) :
  yw X C (.Assign [.Name n pos'] e pos) (aJ a (aj i)):=Vc (gw hnd) hi hx hfx he hs hf
def adh{pos':Pos}(i:Nat)(he:J8 X C e a)(hnd:ig X.N=true:=by rfl)(hfx:C.fx i=none:=by rfl)(hi:X.N[i]? = some n:=by rfl)(hx:Loc X.env.scope n:=by first|exact Or.inl rfl|exact Or.inr rfl)(hs:swapsWith e (some (.Name n pos')) pos.line X.env=pure false:=by rfl)(hf:X.fn n=true\/X.env.scope.names.lookup n=some .local:=by first|exact .inl rfl|exact .inr rfl) :
  yw X C (.Assign [.Name n pos'] e pos) (dq i a):=Ve (gw hnd) hi hx hfx he hs hf
def adl{apos cpos:Pos}(i:Nat)(G:Good X C)(he:PX X C e a)(hN:X.N[i]? = some n:=by rfl)(hv:pD X.env.scope n:=by first|exact Or.inl rfl|exact Or.inr (Or.inl rfl)|exact Or.inr (Or.inr rfl))
  (hs:swapsWith (.Call (.Attribute (.Name n px) "append" apos) [e] [] cpos) none pos.line X.env=pure false:=by rfl)
  (hfew:((backTo cpos (starEach [e] X.env)).all (λx=>!x.1)&&(backToKw cpos (keywordEach [] X.env)).all (λx=>x.1.isSome)
   && decide (([e]:List Expr).length+([]:List Keyword).length+(if ([]:List Keyword).isEmpty then 0 else 1)<30))=true:=by rfl)
  (hbase:attributeBase (.Name n px) "append" X.env (eval (.Name n px) X.env)=eval (.Name n px) X.env:=by rfl)
  (hline:(apos.endLine == cpos.line)=true:=by rfl) (hst:xG e X.env:=by rfl) (hplain:(backTo cpos (starEach [] X.env)).any (·.1)=false:=by rfl)
  (hd:iZ n:=by decide) (hcd:oU n:=by decide):yw X C (.Expr (.Call (.Attribute (.Name n px) "append" apos) [e] [] cpos) pos) (gG i a):=
 Vh hN hv he G.K hs hfew hbase hline hst hplain hd hcd
def Y9{k:Expr}{ek:Ev}{pos':Pos}(i:Nat)(G:Good X C)(hk:PX X C k ek)(he:PX X C e a)(hN:X.N[i]? = some n:=by rfl)(hv:pD X.env.scope n:=by first|exact Or.inl rfl|exact Or.inr (Or.inl rfl)|exact Or.inr (Or.inr rfl))
  (hs:swapsWith e (some (.Subscript (.Name n px) k pos')) pos.line X.env=pure false:=by rfl)
  (hd:iZ n:=by decide) (hcd:oU n:=by decide):yw X C (.Assign [.Subscript (.Name n px) k pos'] e pos) (mX i ek a):=Qz G.u1 hN hv hk he hs hd hcd
def aeI{tg:Expr}(G:Good X C)(h:PX X C x a):Mf X C tg x (ik a):=Vk G.K h
def abq{tg:Expr}(hm:X.mg "range" = none)(ha:Cr X C [e] ea)(hl:∀env ds env',ea env = .ok ds env'->ds.length=1)(hg:Gl X "range":=by rfl)(hs:starEach [e] X.env=[(false,eval e X.env)]:=by rfl):Mf X C tg (.Call (.Name "range" p) [e] [] pos) (iK ea):=Jh hg hm ha hl hs
def abp{tg e2:Expr}(hm:X.mg "range" = none)(ha:Cr X C [e,e2] ea)(hl:∀env ds env',ea env = .ok ds env'->ds.length=2)(hg:Gl X "range":=by rfl)(hs:starEach [e,e2] X.env=[(false,eval e X.env),(false,eval e2 X.env)]:=by rfl)(hs2:starEach [e2] X.env=[(false,eval e2 X.env)]:=by rfl):Mf X C tg (.Call (.Name "range" p) [e,e2] [] pos) (iK ea):=Jg hg hm ha hl hs hs2
def adi{tg iter:Expr}{body:List Stmt}{it:cV}{g:GV}{bs:bW}(G:Good X C)(hi:Mf X C tg iter it)(hg:Ka X C 0 tg g)(hb:my X C body bs)(hp:PassesOwn (model X.prog X.w) X.A X.env X.xe:=by exact PassesOwn.never)
  (hs:∀x,foldedSetIterable iter X.env x=pure x:=by intro _;rfl):yw X C (.For tg iter body [] pos) (fY it g bs):=Vf hp G.calm hi hg hb hs
def Uy{cd:Expr}{body:List Stmt}{bs:bW}(m:Nat)(G:Good X C)(hc:Hx X C cd t)(hb:my X C body bs)(hp:PassesOwn (model X.prog X.w) X.A X.env X.xe:=by exact PassesOwn.never):yw X C (.While cd body [] pos) (dU t bs m):=MF m hp hc hb
def ahq{elt tg iter:Expr}{ifs:List Expr}{scope:Scope}(N':List Str){it:cV}{g:GV}{cc:d8}{ee:Ev}(lo:Nat)(ok:mz X scope N')(G:Good X C)(hi:Mf X C tg iter it)
  (bg:∀X',jD X scope N' X'->Ka X' C lo tg g) (bc:∀X',jD X scope N' X'->J9 X' C ifs cc) (be:∀X',jD X scope N' X'->PX X' C elt ee)
  (hs:∀x,foldedSetIterable iter X.env x=pure x:=by intro _;rfl):J8 X C (.ListComp elt [⟨tg,iter,ifs,0⟩] scope pos) (iD lo N'.length it g cc ee):=Zj N' lo ok G.calm hi bg bc be hs
def ahb{elt tg iter:Expr}{ifs:List Expr}{scope:Scope}(N':List Str){spos py:Pos}{it:cV}{g:GV}{cc:d8}{ee:Ev}(lo:Nat)(i:Nat)(ok:mz X scope N')(G:Good X C)(hi:Mf X C tg iter it)
  (bg:∀X',jD X scope N' X'->Ka X' C lo tg g) (bc:∀X',jD X scope N' X'->J9 X' C ifs cc) (be:∀X',jD X scope N' X'->PX X' C elt ee)
  (hnd:ig X.N=true:=by rfl) (hfx:C.fx i=none:=by rfl) (hy:X.N[i]? = some n:=by rfl) (hx:Loc X.env.scope n:=by first|exact Or.inl rfl|exact Or.inr rfl)
  (hsw:swapsWith (.ListComp elt [⟨tg,iter,ifs,0⟩] scope pos) (some (.Name n py)) spos.line X.env=pure true:=by rfl)
  (hf:X.fn n=true\/X.env.scope.names.lookup n=some .local:=by first|exact .inl rfl|exact .inr rfl)
  (hs:∀x,foldedSetIterable iter X.env x=pure x:=by intro _;rfl):yw X C (.Assign [.Name n py] (.ListComp elt [⟨tg,iter,ifs,0⟩] scope pos) spos) (dq i (iD lo N'.length it g cc ee)):=MJ N' lo ok G.calm hi bg bc be (gw hnd) hy hx hfx hsw hf hs
end
section
variable{P:Program}{w:World}{K:Fg}{mg:Str->Option Value}{base:Heap}{x:Str}{st:Stmt}{N ps:List Str}{k:Nat}{ev:bW}
def yl{x:Str}{f:Addr}{cdv:Value}{A:Around}{outer:List PySem.Env}{s:Shared}{H:Hp}{E:XK}{C:Cfg}(hC:C.K=K)(hr:fJ k (A.deeper (envOfC x (aL st) s.heap.objs.size f cdv))):Good (bx P w K mg base N x st f cdv A outer s H E) C:=⟨hC.symm,rfl,hr.units⟩
def cL(F:dI K mg x st ps)(S:bI N ps (aL st))
  (hb:∀(f:Addr) (cdv:Value) (A:Around) (outer:List PySem.Env) (s:Shared) (H:Hp) (E:XK),fJ k (A.deeper (envOfC x (aL st) s.heap.objs.size f cdv))->Good (bx P w K mg base N x st f cdv A outer s H E) (C0 K)->my (bx P w K mg base N x st f cdv A outer s H E) (C0 K) (cI st) ev) :
  Own P w K mg base x (k+1) ps (j7 K ps.length (cQ N.length ev)):=by
 obtain⟨f,fd,h1,h2,h3⟩:=F;exact⟨f,fd,Ti h1 S λcdv A outer s H E hr=>hb f cdv A outer s H E hr (yl rfl hr),h2,h1.kp,h3⟩
def VH(F:dI K mg x st ps)(S:bI N ps (aL st))
  (hb:∀(f:Addr) (cdv:Value) (A:Around) (outer:List PySem.Env) (s:Shared) (H:Hp) (E:XK),fJ k (A.deeper (envOfC x (aL st) s.heap.objs.size f cdv))->Good (bx P w K mg base N x st f cdv A outer s H E) (C0 K)->my (bx P w K mg base N x st f cdv A outer s H E) (C0 K) (cI st) ev) :
  Own P w K mg base x (k+1) ps (Xi K ps.length (runN N.length ev)):=by
 obtain⟨f,fd,h1,h2,h3⟩:=F;exact⟨f,fd,Ws h1 S λcdv A outer s H E hr=>hb f cdv A outer s H E hr (yl rfl hr),h2,h1.kp,h3⟩
def vU{y:Str}{qs:List Str}(F:dI K mg x st (y::qs))(S:bI N (y::qs) (aL st))
  (hb:∀(f:Addr) (cdv:Value) (A:Around) (outer:List PySem.Env) (s:Shared) (H:Hp) (E:XK) (a:Addr),fJ k (A.deeper (envOfC x (aL st) s.heap.objs.size f cdv))->Good (bx P w K mg base N x st f cdv A outer s H E) (C1 K a)->my (bx P w K mg base N x st f cdv A outer s H E) (C1 K a) (cI st) ev) :
  Own P w K mg base x (k+1) (y::qs) (vJ K (qs.length+1) (jF N.length ev)):=by
 obtain⟨f,fd,h1,h2,h3⟩:=F;exact⟨f,fd,abR h1 S λcdv A outer s H E a hr=>hb f cdv A outer s H E a hr (yl rfl hr),h2,h1.kp,h3⟩
def iy{sc:Scope}(h1:sc.kind = .function:=by rfl)(h2:sc.isCoroutine=false:=by rfl)(h3:sc.isGenerator=false:=by rfl)(h4:ig N=true:=by rfl)(h5:N.take ps.length=ps:=by rfl)
  (h6:(ps.all λx=>decide (sc.names.lookup x=some .local)||decide (sc.names.lookup x=some .cell))=true:=by rfl) (h7:(sc.names.all λy=>!decide (y.2 = .free))=true:=by rfl):bI N ps sc:=by
 refine⟨h1,h2,h3,gw h4,h5,λx hx=>?_,λy hy z=>?_⟩
 ·have:=List.all_eq_true.mp h6 x hx;rw[Bool.or_eq_true] at this;rcases this with z|z
  ·exact .inl (of_decide_eq_true z)
  ·exact .inr (of_decide_eq_true z)
 ·have:=List.all_eq_true.mp h7 y hy;rw[decide_eq_true z] at this;exact absurd this (by decide)
end
open PySem PySem.Spec PySem.W PySem.Calls PyProof.Rows L2
theorem wO:∀(ns:List Int) (i:Int),i∈ns->Builtin.Int.intBits i<=WData.weightAll (ns.map WData.int)
 | [],_,h=>by simp at h
 | n::ns,i,h=>by
  rw[List.map_cons,WData.weightAll];rcases List.mem_cons.mp h with rfl|h
  ·have e:WData.weight (.int i)=Builtin.Int.intBits i:=by rw[WData.weight];rfl
   rw[e];omega
  ·have:=wO ns i h;omega
def Ol(ns:List Int):Prop:=∀i∈ns,Builtin.Int.intBits i<=2^20
def Ej{l:OpenLaw}{n:Nat}{q:Program}{loose:List Str}{XP:(Str->Option Value)->Heap->Prop}{YP:World->Heap->Prop}{d:DefRec}
  (hn:l.most=some n) (hdf:d.params.defaults=[])
  (call:∀(w:World) (s₀ s₁:Shared) (mg mb:Str->Option Value) (fa:Addr) (o:Obj) (pm cd doc:Value) (a:Addr) (vs:List Value) (ns:List Int),
   Ground q loose [] XP w s₀ mg mb s₁.heap->YP w s₁.heap->
   s₁.heap.get? fa=some o->o.data = .func (docDef d.name d.params d.body d.scope pm cd doc)->s₁.heap.CodeRec cd d.name->mg d.name=some (.ref fa)->
   s₁.heap.get? a=some { cls:=.type "list",data:=.seq vs.toArray }->IntsAre vs ns->ns.length<=n->Ol ns->s₁.gens = #[]->
   codeAny (model l.prog w) callerA (.call (.ref fa) ⟨[.ref a],[]⟩) (λr s'=>r = .ok (.ret (.bool true))/\OldK s₁.heap s'.heap/\s'.os=s₁.os/\AllBare s'.gens) s₁) :
  WalkO q loose XP YP l.row.toRowW d [] (λf vs=>PySem.call f vs):=by
 intro w s₀ s₁ mg mb G Y fa o pm cd doc dV kV ho hd hcd hD hmg hg args vals as hpre hlay hrd hwl hlo;obtain rfl:dV = .none:=Dflts.none hD hdf;obtain rfl:kV = .none:=Dflts.noKw hD;obtain⟨a,vs,ns,rfl,rfl,hobj,hints,hlen⟩:=Att.Mw hn hpre hwl;have Sy:Ol ns:=λi hi=>by
  have h1:=(layableW_iff.mp (layableW_arg hlay _ (List.mem_singleton.mpr rfl))).2.2;rw[WData.weight] at h1;exact Nat.le_trans (wO ns i hi) h1
 refine enter_call (codeAny_mono (call w s₀ s₁ mg mb fa o pm cd doc a vs ns G Y ho (fd_plain hd) hcd hmg hobj hints hlen Sy hg) λr s' hq=>?_);obtain⟨rfl,h2,h3,h4⟩:=hq;exact⟨.inl ⟨.bool true,.bool true,[],rfl,λ_=>rfl,.bool true,Att.M4 l _,λ_=>⟨List.Pairwise.nil,λ_ hm=>(nomatch hm)⟩⟩,h2,h3,h4⟩
section
variable{K:Fg}{h:Heap}{mg:Str->Option Value}
def funAt{x:Str}{st:Stmt}{ps:List Str}{f:Addr}{oc:Value}{od an:Option Addr}{osl:Array (Option Value)}{kV doc pm cdv ct:Value}(X:K.In h)(G:h.Ns mainGlobals mg)
  (a:PySem.W.nsIn K mainGlobals x=some (some (.ref f))) (l:K.lookup f=some ⟨oc,od,.func (PySem.W.fnOf x x (gh st) (cI st) (aL st) .none kV doc pm an cdv ct),osl⟩)
  (c:PySem.W.codeIn K cdv x=true) (k:PySem.W.keepIn K (.ref f)=true)
  (b:∀(kV doc pm:Value) (an:Option Addr) (cdv ct:Value) (us:List Value),us.length=ps.length->bindArgs (PySem.W.fnOf x x (gh st) (cI st) (aL st) .none kV doc pm an cdv ct) ⟨us,[]⟩=pure (ps.zip us)):dI K mg x st ps:=
 ⟨f,_,zy l c k,PySem.W.mg_of X G a,(zy (st:=st) l c k).binds b⟩
def We{x s:Str}{z:List Nat}{t:Tok}(X:K.In h)(G:h.Ns mainGlobals mg)(a:PySem.W.nsIn K mainGlobals x=some (some (.str s t)))(hs:s=strOf z)(hz:z.length<=sizeLine):Glb K mg x (.str z):=
 ⟨.str s,_,PySem.W.mg_of X G a,⟨t,rfl⟩,λF=>⟨by rw[hs],hz⟩⟩
theorem xN{x:Str}(X:K.In h)(G:h.Ns mainGlobals mg)(e:PySem.W.nsIn K mainGlobals x=some none):mg x=none:=PySem.W.mg_none_of X G e
end
open PySem L2
theorem Lh{g:GV}{b:bW}{all:List D}(P:List D->Env->Prop)(h:∀done d rest,all=done++d::rest->∀env,P done env->∃e1 e2,g d env=some e1/\b e1 = .nx e2/\P (done++[d]) e2):∀(ds done:List D),all=done++ds->∀env,P done env->∃e',fM g b ds env = .nx e'/\P all e'
 | [],done,ha,env,hp=>⟨env,rfl,by rw[ha,List.append_nil];exact hp⟩
 | d::ds,done,ha,env,hp=>by
  obtain⟨e1,e2,h1,h2,h3⟩:=h done d ds ha env hp;obtain⟨e',h4,h5⟩:=Lh P h ds (done++[d]) (by rw[List.append_assoc];exact ha) e2 h3;refine⟨e',?_,h5⟩;unfold fM;rw[h1];simp only;rw[h2];exact h4
def lJ{g:GV}{b:bW}(all:List D)(P:List D->Env->Prop)(h:∀done d rest,all=done++d::rest->∀env,P done env->∃e1 e2,g d env=some e1/\b e1 = .nx e2/\P (done++[d]) e2)(env:Env)(h0:P [] env):∃e',fM g b all env = .nx e'/\P all e':=Lh P h all [] rfl env h0
def aB{a b:bW}{env e:Env}(h:a env = .nx e):aC a b env=b e:=by unfold aC;rw[h]
def eY{a b:bW}{env e:Env}{o:Bool}{d:D}(h:a env = .rt o d e):aC a b env = .rt o d e:=by unfold aC;rw[h]
def fX{it:cV}{g:GV}{b:bW}{env e:Env}{ds:List D}(h:it env = .ok ds e):fY it g b env=fM g b ds e:=by unfold fY;rw[h];rfl
def bh{a:Ev}{g:GV}{env e e':Env}{d:D}(h:a env = .ok d e)(h':g d e=some e'):aJ a g env = .nx e':=by unfold aJ;rw[h];show BK (g d e)=_;rw[h'];rfl
def eQ{t:d8}{a b:bW}{env e:Env}(h:t env = .ok true e):cY t a b env=a e:=by unfold cY;rw[h];rfl
def dW{t:d8}{a b:bW}{env e:Env}(h:t env = .ok false e):cY t a b env=b e:=by unfold cY;rw[h];rfl
def cD{a:Ev}{env e:Env}{d:D}(h:a env = .ok d e):bA a env = .rt false d e:=by unfold bA;rw[h];rfl
def aO{g:List D->Option D}{a:cV}{env e:Env}{ds:List D}{d:D}(h:a env = .ok ds e)(h':g ds=some d):au g a env = .ok d e:=by unfold au;rw[h];show dX (g ds) e=_;rw[h'];rfl
def bL{g:D->D->Option D}{a b:Ev}{env e1 e2:Env}{x y d:D}(h1:a env = .ok x e1)(h2:b e1 = .ok y e2)(h3:g x y=some d):aH g a b env = .ok d e2:=by
 unfold aH;rw[h1];show bindR (b e1) _=_;rw[h2];show dX (g x y) e2=_;rw[h3]
 rfl
def bF{g:D->D->Option D}{i:Nat}{b:Ev}{env e2:Env}{x y d:D}{o o':Bool}{x0:D}(h1:env[i]? = some (some (o',x0)))(h2:b env = .ok y e2)(h4:e2[i]? = some (some (o,x)))(h3:g x y=some d):ao g i b env = .ok d e2:=by
 unfold ao;rw[h1];show bindR (b env) _=_;rw[h2];show(match e2[i]? with|some (some (_,x))=>dX (g x y) e2|_=>.stuck)=_;rw[h4];show dX (g x y) e2=_;rw[h3]
 rfl
def aK{a:Ev}{r:cV}{env e1 e2:Env}{d:D}{ds:List D}(h1:a env = .ok d e1)(h2:r e1 = .ok ds e2):aa a r env = .ok (d::ds) e2:=by
 unfold aa;rw[h1];show bindR (r e1) _=_;rw[h2]
 rfl
def bK{env:Env}:ak env = .ok [] env:=rfl
def S8{r:cV}{env e:Env}{ds:List D}(h:r env = .ok ds e)(hz:ds.length<=sizeLine):cC r env = .ok (.lst ds) e:=by unfold cC;rw[h];show(if ds.length<=sizeLine then _ else _)=_;rw[if_pos hz]
def dO{r:cV}{env e:Env}{ds:List D}(h:r env = .ok ds e)(hz:ds.length<=sizeLine):bV r env = .ok (.tup ds) e:=by unfold bV;rw[h];show(if ds.length<=sizeLine then _ else _)=_;rw[if_pos hz]
def gf{f:List D->Option (D×D)}{i:Nat}{a:cV}{env e1:Env}{ds:List D}{x0 x d x':D}(h0:env[i]? = some (some (true,x0)))(h1:a env = .ok ds e1)(h2:e1[i]? = some (some (true,x)))(h3:f (x::ds)=some (d,x')):dC f i a env = .ok d (e1.set i (some (true,x'))):=by unfold dC;rw[h0];show bindR (a env) _=_;rw[h1];show(match e1[i]? with|some (some (true,x))=>(match f (x::ds) with|some (d,x')=>R.ok d (e1.set i (some (true,x')))|none=>R.stuck)|_=>R.stuck)=_;rw[h2];show(match f (x::ds) with|some (d,x')=>R.ok d (e1.set i (some (true,x')))|none=>.stuck)=_;rw[h3]
def Le{i j:Int}(h:jT i j=true):sZ (.int i) (.int j)=some (.int (i*j)):=by show gI jT (λi j=>D.int (i*j)) (.int i) (.int j)=_;unfold gI;simp only;rw[if_pos h]
def S5{a b:List D}(h:a.length+b.length<=sizeLine):cB (.lst a) (.lst b)=some (.lst (a++b)):=by show(if a.length+b.length<=sizeLine then _ else _)=_;rw[if_pos h]
def gk{a:Ev}{env e:Env}{b:Bool}(h:a env = .ok (.bl b) e):cP a env = .ok b e:=by unfold cP;rw[h];rfl
def ug{i:Nat}{a:Ev}{env e:Env}{d:D}(h:a env = .ok d e):dq i a env = .nx (e.set i (some (true,d))):=by unfold dq;rw[h];rfl
def DR{a:Ev}{env e:Env}{d:D}{ds:List D}(h:a env = .ok d e)(h':XN d=some ds):ik a env = .ok ds e:=by unfold ik;rw[h];show dX (XN d) e=_;rw[h'];rfl
def iW{n:Nat}{ev:bW}{x d x':D}{r:List D}{env:Env}(h:ev (xg n x r) = .rt false d env)(h0:env[0]? = some (some (true,x'))):jF n ev (x::r)=some (d,x'):=by unfold jF;simp only;rw[h];simp only;rw[h0]
def cR{n:Nat}{ev:bW}{d:D}{ds:List D}{env:Env}(h:ev (envOf n ds) = .rt false d env):cQ n ev ds=some d:=by unfold cQ;rw[h]
def Wm{a b:Ev}{env e:Env}(h:a env = .ok (.bl true) e):jY a b env=b e:=by unfold jY;rw[h];rfl
def Wn{a b:Ev}{env e:Env}(h:a env = .ok (.bl false) e):jY a b env = .ok (.bl false) e:=by unfold jY;rw[h];rfl
def abJ{a b:Ev}{env e:Env}(h:a env = .ok (.bl true) e):lq a b env = .ok (.bl true) e:=by unfold lq;rw[h];rfl
def abK{a b:Ev}{env e:Env}(h:a env = .ok (.bl false) e):lq a b env=b e:=by unfold lq;rw[h];rfl
def yo{a b:d8}{env e:Env}(h:a env = .ok false e):jX a b env=b e:=by unfold jX;rw[h];rfl
theorem yh{g:GV}{e:Ev}(P:Env->Prop)(f:D->D):∀(ds:List D) (env:Env),P env->(∀d∈ds,∀env,P env->∃e1 e2,g d env=some e1/\e e1 = .ok (f d) e2/\P e2)->∃env',Ac g fP e ds env = .ok (ds.map f) env'/\P env'
 | [],env,hp,_=>⟨env,rfl,hp⟩
 | d::ds,env,hp,h=>by
  obtain⟨e1,e2,h1,h2,h3⟩:=h d (List.mem_cons_self ..) env hp;obtain⟨e3,h4,h5⟩:=yh P f ds e2 h3 λd' hd=>h d' (List.mem_cons_of_mem _ hd);refine⟨e3,?_,h5⟩;unfold Ac;rw[h1];show bindR (e e1) _=_;rw[h2];show bindR (Ac g fP e ds e2) _=_;rw[h4]
  rfl
def uM{lo n:Nat}{it:cV}{g:GV}{c:d8}{e:Ev}{env aM dH:Env}{ds ys:List D}(h1:it env = .ok ds aM)(hl:aM.length=lo)(h2:Ac g c e ds (aM++List.replicate (n - lo) none) = .ok ys dH)(hz:ys.length<=sizeLine):iD lo n it g c e env = .ok (.lst ys) (dH.take lo):=by unfold iD;rw[h1];show(if aM.length=lo then _ else _)=_;rw[if_pos hl,h2];show(if ys.length<=sizeLine then _ else _)=_;rw[if_pos hz]
def dig(n:Int)(m:Nat)(hm:0<m):∃d:Nat,d<m/\n % (m:Int)=(d:Int):=by have h1:0<=n % (m:Int):=Int.emod_nonneg n (by omega);have h2:n % (m:Int)<m:=Int.emod_lt_of_pos n (by omega);exact⟨(n % (m:Int)).toNat,by omega,by omega⟩
def Ek{α:Type}{xs:List α}{d:Nat}(h:d<xs.length):pR xs (d:Int)=some xs[d]:=iJ (List.getElem?_eq_getElem h)
end Ev
namespace L2
open PySem PySem.Spec PyProof.Rows
section
variable{X:Cx}{pins:List (Addr×Obj)}{σ:St}{H:Hp}{s:Shared}{h':Heap}
def Inv.drawn{t':Nat}{ch:List Addr}{T:Addr}{o:HO}(I:Inv X pins σ H s)(hch:∀b∈ch,vh X pins H b)(k:∀b u,b ∉ ch->s.heap.get? b=some u->h'.get? b=some u)(hT:s.heap.objs.size<=T)
  (new:gq X.prog X.w (upd H T o) h' T o):Inv X pins σ (upd H T o) { s with heap:=h',toks:=t' }:=by
 have nT:H T=none:=I.hok.fresh hT;have Xx:∀b u,H b=some u->b ∉ ch:=λb u e z=>by rw[(hch b z).1] at e;cases e
 have up:∀b u,H b=some u->upd H T o b=some u:=λb u e=>by rw[bH (cW e nT)];exact e
 refine I.step (g':=s.gens) (d':=s.drawn) (ch:=ch) (λb hb=>?_) (λb u _ _ hc e _=>k b u hc e) (λb u _ _ hc e _=>⟨u.slots,k b u hc e⟩) (λb u hc e n=>?_)
  (λb u hc e=>⟨u,k b u hc e⟩) (λb xs e=>up b _ e) (λb u v e=>up b _ e) (λb ps e=>⟨#[],by rw[up b _ e];simp⟩) (λm hm=>?_) (λb u e=>?_) I.bare (λb qs e=>up b _ e)
 ·obtain⟨h0,h1,h2,h3,h4,h5⟩:=hch b hb;exact⟨h3,h1,h4,h5⟩
 ·have hb:b≠T:=λz=>by
   subst z;exact absurd (Heap.lt_size e) (Nat.not_lt.mpr hT)
  rw[bH hb];exact n
 ·obtain⟨u,es,ep,ho,r⟩:=hm;have hL:X.env.locals ∉ ch:=λz=>(hch _ z).2.1 rfl;exact⟨u,es,ep,k _ u hL ho,r⟩
 ·by_cases hb:b=T
  ·subst hb;rw[aZ] at e;cases e;exact new
  ·rw[bH hb] at e;refine(I.hok b u e).stay (λc v hc q=>k c v ?_ q) (λc q=>up _ _ q) (λc xs q=>up _ _ q) λc _ _ _ _ q=>up _ _ q;rcases hc with z|z
   ·rw[z];exact Xx b u e
   ·exact Xx c _ z
def Inv.Up{t':Nat}{ch:List Addr}(I:Inv X pins σ H s)(hch:∀b∈ch,vh X pins H b)(k:∀b u,b ∉ ch->s.heap.get? b=some u->h'.get? b=some u):Inv X pins σ H { s with heap:=h',toks:=t' }:=by
 have Xx:∀b u,H b=some u->b ∉ ch:=λb u e z=>by rw[(hch b z).1] at e;cases e
 refine I.step (g':=s.gens) (d':=s.drawn) (ch:=ch) (λb hb=>?_) (λb u _ _ hc e _=>k b u hc e) (λb u _ _ hc e _=>⟨u.slots,k b u hc e⟩) (λb u hc e n=>n)
  (λb u hc e=>⟨u,k b u hc e⟩) (λb xs e=>e) (λb u v e=>e) (λb ps e=>⟨#[],by rw[e];simp⟩) (λm hm=>?_) (λb u e=>?_) I.bare
 ·obtain⟨h0,h1,h2,h3,h4,h5⟩:=hch b hb;exact⟨h3,h1,h4,h5⟩
 ·obtain⟨u,es,ep,ho,r⟩:=hm;have hL:X.env.locals ∉ ch:=λz=>(hch _ z).2.1 rfl;exact⟨u,es,ep,k _ u hL ho,r⟩
 ·refine(I.hok b u e).stay (λc v hc q=>k c v ?_ q) (λ_ q=>q) λ_ _ q=>q;rcases hc with z|z
  ·rw[z];exact Xx b u e
  ·exact Xx c _ z
end
open PySem PySem.Spec PyProof.Rows PySem.Builtin PySem.Builtin.Str
section
variable{X:Cx}{pins:List (Addr×Obj)}{σ:St}{H:Hp}{s:Shared}{a:Addr}{xs:List V}
def Inv.YJ(I:Inv X pins σ H s)(h:lB X.K H a xs):∃its:List Value,Vals xs its/\Bh s.heap a its.toArray:=by
 rcases h with h|⟨o,its,n,hk,hc,hdn,hs,hz,r⟩
 ·obtain⟨z,its,r,p⟩:=h.ok I.hok;exact⟨its,r,p⟩
 ·exact⟨its.toList,r,⟨o,I.RP a o hk,hc,⟨n,by simpa using hs⟩,hdn⟩⟩
end
section
variable{X:Cx}{o e:Expr}{to te:TE}{name:Str}{apos cpos:Pos}{id:String}{r:V->List V->Hp->VK->Prop}{t:TA}
def agX(te ts:TE):TE:=λσ H Q=>te σ H λx H1=>ts σ H1 λy H2=>∃z,x = .str z/\z.length<=sizeLine/\y = .int (-1)/\Q (.str ⟨z.cps.toList.reverse.toArray⟩) H2
def Jb(z:Str)(u:Tok):(⟨((slicePicked z none none (some (-1,u))).filterMap (z.cps[·]?)).toArray⟩:Str)=⟨z.cps.toList.reverse.toArray⟩:=by
 have h:=PyProof.Rows.step_rev_list z u;unfold Txt.sliceBy at h;have h1:¬(((((some ((-1:Int),u)).map (·.1)).getD 1 == 1)&&((slicePicked z none none (some (-1,u))).length == z.length))=true):=by have:((((some ((-1:Int),u)).map (·.1)).getD 1 == 1))=false:=rfl;rw[this];simp
 rw[if_neg h1] at h;have h2:((slicePicked z none none (some (-1,u))).filterMap (z.cps[·]?))=z.cps.toList.reverse:=by
  have h3:((slicePicked z none none (some (-1,u))).filterMap (z.cps[·]?))=(List.range z.length).map λk=>z.cps.getD (z.length - 1 - k) 0:=by simpa using h
  rw[h3];apply List.ext_getElem
  ·simp[Str.length]
  ·intro i h4 h5;have hi:i<z.cps.size:=by simpa[Str.length] using h4
   simp[Str.length,Array.getD,List.getElem_reverse];rw[dif_pos (by omega)]
 rw[h2]
def Z3{st:Expr}{ts:TE}{p2 pos:Pos}(he:PE X e te)(hst:PE X st ts):PE X (.Subscript e (.Slice none none (some st) p2) pos) (agX te ts):=by
 intro pins s σ H Q I h;refine Subscript_ (gr (he pins s σ H _ I h) λv s1 ⟨x,H1,I1,r1,q1⟩=>?_);refine wpAny_Slice ?_;rw[evalPart_none,evalPart_some];refine wpAny_pure (wpAny_pure (gr (hst pins s1 σ H1 _ I1 q1) λw s2 ⟨y,H2,I2,r2,q2⟩=>?_));obtain⟨z,ex,hz,ey,q⟩:=q2;subst ex;subst ey;obtain⟨t,rfl⟩:=r1;obtain⟨t',rfl⟩:=r2;have I4:Inv X pins σ H2 { s2 with heap:=s2.heap.push { cls:=.type "slice",data:=.fields #[.none,.none,.int (-1) t'] } }:=I2.kept (t':=s2.toks) λb ob q=>Heap.get?_push_of_some _ q;show wpAny (model X.prog X.w) X.A (subscriptTail e (.Slice none none (some st) p2) (.str z t) (.ref s2.heap.objs.size)) (EP X pins σ Q) X.xe { s2 with heap:=s2.heap.push { cls:=.type "slice",data:=.fields #[.none,.none,.int (-1) t'] } };refine tail_any (ops:=[.ref s2.heap.objs.size,.str z t]) (typeIs_str _ z t) PySem.F.slot_str_getitem.lookup ?_ (by with_unfolding_all rfl);refine wpAny_getItem_str_slice (l:=none) (u:=none) (st:=some (-1,t')) ⟨_,Heap.get?_push_size _ rfl,rfl,rfl⟩ rfl ?_;unfold sliceMade;have h1:¬(((((some ((-1:Int),t')).map (·.1)).getD 1 == 1)&&((slicePicked z none none (some (-1,t'))).length == z.length))=true):=by have:((((some ((-1:Int),t')).map (·.1)).getD 1 == 1))=false:=rfl;rw[this];simp
 rw[if_neg h1,Jb];refine⟨?_,⟨.str ⟨z.cps.toList.reverse.toArray⟩,H2,I4.tok _,⟨_,rfl⟩,q⟩⟩;show z.cps.toList.reverse.toArray.size<=sizeLine
 simpa[Str.length] using hz
end
end L2
namespace Ev
open PySem PySem.Spec PyProof.Rows L2 PySem.Builtin
section
variable{X:Cx}{C:Cfg}{pos:Pos}{e x y:Expr}{a b:Ev}
def Bc:D->Option D
 | .int i=>some (.int (-i))
 | _=>none
def YF:UnD C (rU λi=>.int (-i)) Bc:=by
 intro Pr F env σ H x d vx Q r px e q;cases x with
 | int i=>cases e;exact⟨i,px.int,q _ H F r (aQ.refl F) rfl⟩
 | _=>cases e
def acS(ha:PX X C x a):PX X C (.UnaryOp .USub x pos) (uJ Bc a):=adK O6 YF ha
def aby:D->Option D
 | .str z=>some (.str z.reverse)
 | _=>none
def rJ(a:Ev):Ev:=λenv=>bindR (a env) λd aM=>dX (aby d) aM
def acQ{p2 p3 p4:Pos}{k:Nat}(ha:PX X C x a):PX X C (.Subscript x (.Slice none none (some (.UnaryOp .USub (.Constant (.int 1) k p4) p3)) p2) pos) (rJ a):=by
 refine(Z3 (p2:=p2) (pos:=pos) ha (Xp (pos:=p3) O6 (Ra (i:=1) (j:=k) (pos:=p4)))).imp λσ H Q hq=>?_;obtain⟨Pr,F,env,env',d,r,e,q⟩:=hq;obtain⟨z,aM,e1,e2⟩:=aW e;obtain⟨e3,rfl⟩:=eZ e2;cases z with
 | str z=>
  cases e3;refine⟨Pr,F,env,env',.str z,r,e1,λv H1 F1 r1 s1 p1=>?_⟩;obtain⟨rfl,hz⟩:=p1;refine⟨1,rfl,strOf z,rfl,by rw[dY];exact hz,rfl,q _ H1 F1 r1 s1 ⟨by simp[strOf],by rw[List.length_reverse];exact hz⟩⟩
 | _=>cases e3
def Td(x:List Nat):List D:=x.zipIdx.map λp=>.tup [.int (p.2:Nat),.str [p.1]]
def abM(a:cV):cV:=λenv=>bindR (a env) λds aM=>match ds with
 | [.str x]=>.ok (Td x) aM
 | _=>.stuck
end
def Nq{prog:Program}{w:World}{A:Around}{E:Value->Shared->Prop}{s:Shared}{a:Addr}{o:Obj}{xs:Array Value}{k:Nat}{Q:Option Value->Shared->Prop}
  (hx:s.heap.get? a=some o) (hc:o.cls = .type "tuple") (hdat:o.data = .seq xs k) (hd:o.dict=none) (hA:A.handled=none)
  (h:∀h' tk,(∀b u,s.heap.get? b=some u->h'.get? b=some u)->Q none { s with heap:=h',toks:=tk }):wpAny (model prog w) A (getAttr? (.ref a) "keys") Q E s:=by
 obtain⟨hp,g,d,tk,os⟩:=s;obtain⟨oc,od,dt,sl⟩:=o;cases hc;cases hdat;cases hd;have hT:∀tk',(⟨hp,g,d,tk',os⟩:Shared).TypeIs (.ref a) "tuple":=λ_=>⟨_,hx,rfl⟩;have f1:=sub_AttributeError;have f3:=F.slot_tuple_getattribute.lookup;have f4:=F.slot_tuple_getattribute.bind (.ref a);have f5:=am_tuple_getattr_none;have hmiss:typeLookup (.type "tuple") "keys" = pure none:=by rw[typeLookup_type,builtinLookup_eq_fast];kernel_rfl
 unfold getAttr? getAttrBy? getAttrBy
 repeat (any_goals (first|assumption|exact hT _|((with_reducible show wpAny _ _ (call (Value.builtin "tuple.__getattribute__") _ _) _ _ _);refine call_meets F.slot_tuple_getattribute (hT _) am_entry_tuple_getattribute (F.args_tuple_getattribute_2 _ _) (meets_getattribute_miss_tuple a xs k sl "keys" _ hmiss (by decide +kernel) (by decide +kernel)) ⟨hx,hA,λh' tk' e hx'=>?_⟩)|wp_step))
 obtain⟨t',u',he⟩:=hx'.there;show wpAny _ _ (getattributeRaised _ _ _ _ _ _ _) _ _ _;unfold getattributeRaised
 repeat (any_goals (first|assumption|wp_step))
 exact h _ _ hx'.keeps
structure Pr where
 p:Addr
 k:Key
 kv:Value
 v:Value
def T4(h:Heap)(r:Pr):Prop:=h.IsTuple r.p #[r.kv,r.v]/\zp r.k r.kv=true
def T4.keep{h h':Heap}{r:Pr}{c d:Addr}(x:T4 h r)(n1:r.p≠c)(n2:r.p≠d)(k:∀b o,b≠c->b≠d->h.get? b=some o->h'.get? b=some o):T4 h' r:=
 let ⟨⟨o,ho,q⟩,y⟩:=x;⟨⟨o,k _ o n1 n2 ho,q⟩,y⟩
def putAll(kvs:List (Key×Value))(rs:List Pr):List (Key×Value):=rs.foldl (λacc r=>stored acc r.k r.v) kvs
def jy:plainId "dict.update.loop" = true:=by decide +kernel
def qI:entryFor table "dict.update.loop" = some Builtin.«dict.update.loop»:=entryFor_of_tree (by kernel_rfl)
theorem Fd{prog:Program}{w:World}{d it a:Addr}{its:List Value}(hdi:d≠it)(hda:d≠a)(hia:it≠a):∀(rs:List Pr) (i:Nat) (kvs:List (Key×Value)) (A:Around) (R:Result->Shared->Prop) (s:Shared),
  A.handled=none->its.drop i=rs.map (λr=>Value.ref r.p)->s.heap.IsTuple a its.toArray->s.heap.IsTupleIter it a i->s.heap.DictOf (dZ prog w) d kvs->(∀r∈rs,T4 s.heap r/\r.p≠d/\r.p≠it)->kvs.length+rs.length<=sizeLine->
  (∀h' tk,h'.DictOf (dZ prog w) d (putAll kvs rs)->(∀b o,b≠d->b≠it->s.heap.get? b=some o->h'.get? b=some o)->R (.ok (.ret .none)) { s with heap:=h',toks:=tk })->
  wpAny (model prog w) A.in1 (Builtin.«dict.update.loop» ⟨[.ref d,.ref it,rawInt i,.none],[]⟩) (λfin s'=>match fin with|.done f=>R (.ok f) s'|.again c'=>c'.quiet=true/\codeAny (model prog w) A c' R s') (λe s'=>R (.error e) s') s
 | [],i,kvs,A,R,s,hh,hdr,ht,hit,hD,_,_,h=>by
  unfold Builtin.«dict.update.loop»;have hx:its.toArray[i]? = none:=by
   have:its.length<=i:=by have:=congrArg List.length hdr;rw[List.length_drop] at this;simp at this;omega
   simp;omega
  refine wpAny_bind (wpAny_pyNext_tuple_end hh hit ht hx λh' hex=>?_);show wpAny _ _ (Builtin.Dict.addKeywords d [] >>= _) _ _ _;refine wpAny_bind (wpAny_pure (wpAny_pure ?_));exact h h' s.toks (hD.extBut hex hdi) λb o _ h2 e=>hex b o h2 e
 | r::rs,i,kvs,A,R,s,hh,hdr,ht,hit,hD,hrs,hz,h=>by
  unfold Builtin.«dict.update.loop»;obtain⟨⟨hpt,hkey⟩,n1,n2⟩:=hrs r (List.mem_cons_self ..);have hlt:i<its.length:=by have:=congrArg List.length hdr;rw[List.length_drop,List.map_cons,List.length_cons] at this;omega
  have hx0:its[i]? = some (.ref r.p):=by
   have:=congrArg (λl=>l[0]?) hdr
   simpa using this
  have hx:its.toArray[i]? = some (.ref r.p):=by simpa using hx0
  have ail:its.drop (i+1)=rs.map (λr=>Value.ref r.p):=by
   have:=congrArg List.tail hdr;rw[List.tail_drop] at this
   simpa using this
  refine wpAny_bind (wpAny_pyNext_tuple_item hit ht hx λh' hit' hs'=>?_);have k1:∀b o,b≠it->s.heap.get? b=some o->h'.get? b=some o:=λb o hb e=>(hs'.2 b hb).trans e;obtain⟨op,hop,hcp,np,hdp⟩:=hpt;have hop':h'.get? r.p=some op:=k1 _ _ n2 hop;dsimp only;refine wpAny_bind (wpAny_holding (wpAny_bind (wpAny_tryCatch ?_)));unfold Builtin.Dict.pairItems;refine wpAny_bind (wpAny_typeOf (T:="tuple") ⟨op,hop',hcp⟩ ?_);rw[if_pos (by decide)];unfold seqItems?;refine wpAny_bind (wpAny_bind (wpAny_load hop' ?_));rw[hdp];refine wpAny_pure (wpAny_pure ?_);show wpAny _ _ (holding [r.kv,r.v] (dictSet d r.kv r.v)) _ _ _;have hzk:kvs.length<=sizeLine:=by rw[List.length_cons] at hz;omega
  refine wpAny_holding (wpAny_dictSet_pairs (knd:=dZ prog w) (kvs:=kvs) (k:=r.k) (hsz:=hzk) hkey (hD.sameBut hs' hdi) λh'' ais hs''=>?_);have k2:∀b o,b≠d->b≠it->s.heap.get? b=some o->h''.get? b=some o:=λb o hb1 hb2 e=>(hs''.2 b hb1).trans (k1 b o hb2 e);have hc:((i:Int)+1)=((i+1:Nat):Int):=by push_cast;rfl
  rw[hc];refine wpAny_pure ⟨plainId_quiet jy _,codeAny_builtin qI ?_⟩;rw[Around.under_plainId jy _];have hln:(stored kvs r.k r.v).length<=kvs.length+1:=by have:=stored_length_le kvs r.k r.v;exact this
  refine Fd hdi hda hia rs (i+1) (stored kvs r.k r.v) A R _ hh ail ?_ ?_ ais (λq hq=>?_) (by rw[List.length_cons] at hz;omega) λh3 tk hD3 k3=>?_
  ·obtain⟨o,ho,q⟩:=ht;exact⟨o,k2 a o hda.symm hia.symm ho,q⟩
  ·obtain⟨o,ho,q⟩:=hit';exact⟨o,(hs''.2 it hdi.symm).trans ho,q⟩
  ·obtain⟨p1,p2,p3⟩:=hrs q (List.mem_cons_of_mem _ hq);exact⟨p1.keep p2 p3 k2,p2,p3⟩
  ·exact h h3 tk hD3 λb o hb1 hb2 e=>k3 b o hb1 hb2 (k2 b o hb1 hb2 e)
section
variable{X:Cx}{C:Cfg}{pos:Pos}
abbrev Pv:=Addr×Key×V
def mH(kvs:List (Key×V))(rs:List Pv):List (Key×V):=rs.foldl (λacc r=>putK acc r.2.1 r.2.2) kvs
def Qt(K:Fg):List V->Hp->VK->Prop:=λxs H Q=>∃(a:Addr) (rs:List Pv),xs=[.ref a]/\lB K H a (rs.map λr=>V.ref r.1)/\(∀r∈rs,lB K H r.1 [kV r.2.1,r.2.2])/\rs.length<=sizeLine/\∀l,H l=none->Q (.ref l) (upd H l (.dK (mH [] rs)))
theorem Gs{pins:List (Addr×Obj)}{σ:L2.St}{H:Hp}{s:Shared}(I:L2.Inv X pins σ H s):∀(rs:List Pv) (us:List Value),Vals (rs.map λr=>V.ref r.1) us->(∀r∈rs,lB X.K H r.1 [kV r.2.1,r.2.2])->∃ps:List Pr,us=ps.map (λr=>Value.ref r.p)/\(∀r∈ps,T4 s.heap r)/\Paired (λ(r:Pv) (q:Pr)=>r.2.1=q.k/\RelV r.2.2 q.v) rs ps
 | [],us,h,_=>by cases h;exact⟨[],rfl,λr hr=>by simp at hr,.nil⟩
 | r::rs,us,h,hp=>by
  cases h with
  | cons h1 h2=>
   cases h1;obtain⟨ps,rfl,q1,q2⟩:=Gs I rs _ h2 λr' hr=>hp r' (List.mem_cons_of_mem _ hr);obtain⟨its,rv,ht,_⟩:=I.tuple (hp r (List.mem_cons_self ..));obtain⟨u1,u2,rfl,r1,r2⟩:=rv.two;refine⟨⟨r.1,r.2.1,u1,u2⟩::ps,rfl,λq hq=>?_,.cons ⟨rfl,r2⟩ q2⟩;rcases List.mem_cons.mp hq with rfl|hq
   ·exact⟨ht,BP (P:=X.prog) (w:=X.w) r1⟩
   ·exact q1 q hq
theorem Bt:∀{rs:List Pv} {ps:List Pr} {kvs:List (Key×V)} {vs:List (Key×Value)},Paired (λ(r:Pv) (q:Pr)=>r.2.1=q.k/\RelV r.2.2 q.v) rs ps->KV kvs vs->KV (mH kvs rs) (putAll vs ps)
 | _,_,_,_,.nil,h=>h
 | _,_,kvs,vs,.cons (a:=r) (b:=q) ⟨h1,h2⟩ hr,h=>by
  show KV (mH (putK kvs r.2.1 r.2.2) _) (putAll (stored vs q.k q.v) _);refine Bt hr ?_;rw[h1];exact h.put q.k h2
theorem wU:∀(rs:List Pv) (kvs:List (Key×V)),(mH kvs rs).length<=kvs.length+rs.length
 | [],kvs=>Nat.le_refl _
 | r::rs,kvs=>by
  have h1:=wU rs (putK kvs r.2.1 r.2.2);have h2:=qw kvs r.2.1 r.2.2;show(mH (putK kvs r.2.1 r.2.2) rs).length<=_;rw[List.length_cons];omega
def Od(hc:X.calm=true):jo X (.type "dict") (Qt X.K):=by
 intro pins s σ H xs us Q I r h;obtain⟨a,rs,rfl,hq,hp,hz,q⟩:=h;obtain⟨u,rfl,rx⟩:=vals1 r;cases rx;obtain⟨its,rv,ob,h1,h2,⟨n,h3⟩,h4⟩:=I.YJ hq;obtain⟨ps,rfl,hps,hpr⟩:=Gs I rs its rv hp;have hA:=I.ok.hd hc;have hlt:a<s.heap.objs.size:=Heap.lt_size h1;refine callType_codes (Q₁:=λobj s₁=>obj = .ref s.heap.objs.size/\s₁ = { s with heap:=s.heap.push { cls:=.type "dict",data:=.dict #[] } }) F.kt_called_dict (F.kt_typeCall_dict_1 _) F.entry_dict_init (kt_code_dict_new _ ⟨rfl,rfl⟩) ?_;rintro obj s₁ ⟨rfl,rfl⟩;have hnew:(s.heap.push { cls:=.type "dict",data:=.dict #[] }).DictOf (dZ X.prog X.w) s.heap.objs.size []:=Heap.DictOf.new s.heap;have k0:∀b o,s.heap.get? b=some o->(s.heap.push { cls:=.type "dict",data:=.dict #[] }).get? b=some o:=λb o e=>Heap.get?_push_of_some _ e;refine⟨hnew.typeIs,F.args_dict_init_2 _ _,?_⟩;unfold Builtin.«dict.__init__»;refine wpAny_bind ?_;unfold Builtin.Dict.selfAndRest;refine wpAny_bind (wpAny_notOrdered_dict hnew.typeIs ?_);show wpAny _ _ (pure (s.heap.objs.size,[Value.ref a])) _ _ _;refine wpAny_pure ?_;show wpAny _ _ (Builtin.Dict.updateFrom "dict.__init__" s.heap.objs.size (.ref a) [] .none) _ _ _;unfold Builtin.Dict.updateFrom;refine wpAny_bind (wpAny_typeOf (T:="tuple") ⟨ob,k0 _ _ h1,h2⟩ ?_);rw[if_pos (by decide)];refine wpAny_bind (Nq (k0 _ _ h1) h2 h3 h4 hA λh' tk hk=>?_);simp only[Option.isNone_none,if_true];refine wpAny_bind (wpAny_rule (wpAny_bind ?_));have hT:h'.IsTuple a (ps.map λr=>Value.ref r.p).toArray:=⟨ob,hk _ _ (k0 _ _ h1),h2,n,h3⟩;refine wpAny_pyIter_tuple hT ?_;refine wpAny_pure ⟨plainId_quiet jy _,codeAny_builtin qI ?_⟩;rw[Around.under_plainId jy _];have hD0:h'.DictOf (dZ X.prog X.w) s.heap.objs.size []:=hnew.keep hk;have abr:s.heap.objs.size<h'.objs.size:=by obtain⟨o,_,_,ho,_⟩:=hD0;exact Heap.lt_size ho
 have halt:a<h'.objs.size:=Heap.lt_size (hk _ _ (k0 _ _ h1));have hda:s.heap.objs.size≠a:=Nat.ne_of_gt hlt;refine Fd (Nat.ne_of_lt abr) hda (Nat.ne_of_gt halt) ps 0 [] X.A.in1 _ _ hA rfl ?_ ⟨_,Heap.get?_push_size _ rfl,rfl,rfl⟩ (hD0.push _) (λq hq=>?_) ?_ λh3 tk' hD3 k3=>?_
 ·obtain⟨o,ho,r⟩:=hT;exact⟨o,Heap.get?_push_of_some _ ho,r⟩
 ·obtain⟨⟨o,ho,r⟩,y⟩:=hps q hq;have aeM:q.p<s.heap.objs.size:=Heap.lt_size ho;refine⟨⟨⟨o,Heap.get?_push_of_some _ (hk _ _ (k0 _ _ ho)),r⟩,y⟩,Nat.ne_of_lt aeM,Nat.ne_of_lt (Nat.lt_trans aeM abr)⟩
 ·rw[<-Paired.length hpr]
  simpa using hz
 ·refine⟨rfl,?_⟩;have kk:∀b u,s.heap.get? b=some u->h3.get? b=some u:=λb u e=>by
   have hb:b<s.heap.objs.size:=Heap.lt_size e;exact k3 b u (Nat.ne_of_lt hb) (Nat.ne_of_lt (Nat.lt_trans hb abr)) (Heap.get?_push_of_some _ (hk _ _ (k0 _ _ e)))
  have hsys:(s.heap.objs.size == sysModules)=false:=by rw[beq_eq_false_iff_ne];exact Nat.ne_of_gt I.big
  refine⟨.ref s.heap.objs.size,upd H s.heap.objs.size (.dK (mH [] rs)),I.laid (t':=tk') kk (Nat.le_refl _) ⟨?_,hsys,_,Bt hpr .nil,hD3⟩,rfl,q _ (I.hok.fresh (Nat.le_refl _))⟩;have:=wU rs [];exact Nat.le_trans this (by simpa using hz)
def K5:D->Option (D×D)
 | .tup [k,v]=>(nQ k).map λ_=>(k,v)
 | _=>none
def oN:List D->Option (List (D×D))
 | []=>some []
 | d::ds=>match K5 d,oN ds with
  | some p,some r=>some (p::r)
  | _,_=>none
def jR(kvs : List (D × D)) : List (D × D) → List (D × D)
  | [] => kvs
  | (k, v) :: r => (match nQ k with
    | some q => jR (putD kvs k q v) r
    | none => jR kvs r)
def nW:List D->Option D
 | [.tup ds]=>(oN ds).map λps=>.dct (jR [] ps)
 | _=>none
theorem qg:∀(ps:List (D×D)) (kvs:List (D×D)),(jR kvs ps).length<=kvs.length+ps.length
 | [],kvs=>Nat.le_refl _
 | (k,v)::r,kvs=>by
  unfold jR;split
  ·rename_i q hq;have h1:=qg r (putD kvs k q v);have h2:=Gm kvs k q v;rw[List.length_cons];omega
  ·have h1:=qg r kvs;rw[List.length_cons];omega
theorem yS:∀{ds:List D} {ps:List (D×D)},oN ds=some ps->ps.length=ds.length
 | [],ps,h=>by cases h;rfl
 | d::ds,ps,h=>by
  unfold oN at h;split at h
  ·rename_i p r h1 h2;cases h;rw[List.length_cons,List.length_cons,yS h2]
  ·cases h
theorem Bu{K:Fg}{F:Hp}:∀{ds:List D} {ps:List (D×D)} {vs:List V} {kvs:List (D×D)} {ks:List (Key×V)},oN ds=some ps->bT K F ds vs->dR K F kvs ks->
  ∃rs:List Pv,vs=rs.map (λr=>V.ref r.1)/\(∀r∈rs,lB K F r.1 [kV r.2.1,r.2.2])/\dR K F (jR kvs ps) (mH ks rs)
 | [],ps,vs,kvs,ks,h,hr,hk=>by cases h;cases hr;exact⟨[],rfl,λr hr=>by simp at hr,hk⟩
 | d::ds,ps,vs,kvs,ks,h,hr,hk=>by
  unfold oN at h;split at h
  ·rename_i p r h1 h2;cases h;obtain⟨v,w,rfl,p1,p2⟩:=hr;unfold K5 at h1;split at h1
   ·rename_i k x;obtain⟨q,hq,rfl⟩:=Option.map_eq_some_iff.mp h1;obtain⟨_,a,us,rfl,h3,h4⟩:=p1;obtain⟨u1,w1,rfl,q1,u2,w2,rfl,q2,q3⟩:=h4;cases q3;cases RL hq q1;obtain⟨rs,rfl,g1,g2⟩:=Bu (kvs:=putD kvs k q x) (ks:=putK ks q u2) h2 p2 (hk.put hq q2);refine⟨(a,q,u2)::rs,rfl,λr hr=>?_,?_⟩
    ·rcases List.mem_cons.mp hr with rfl|hr
     ·exact h3
     ·exact g1 r hr
    ·unfold jR;rw[hq];exact g2
   ·cases h1
  ·cases h
def Wz:CallD C (Qt C.K) nW:=by
 intro Pr F env σ H ds d vs Q r p e q;unfold nW at e;split at e
 ·rename_i ds;obtain⟨v,w,rfl,p1,p2⟩:=p;cases p2;obtain⟨ps,e1,rfl⟩:=Option.map_eq_some_iff.mp e;obtain⟨z,a,us,rfl,h1,h1F,h2⟩:=p1.tup r.fr;obtain⟨rs,rfl,g1,g2⟩:=Bu (kvs:=[]) (ks:=[]) e1 h2 rfl;have hl:rs.length=ds.length:=by
   have:=h2.length
   rwa [List.length_map] at this
  refine⟨a,rs,rfl,h1,λr' hr=>aQ.tupK r.fr (g1 r' hr),by rw[hl];exact z,λl hlf=>?_⟩;obtain⟨F2,r2,s2,p2⟩:=(r.fresh (o:=.dK (mH [] rs)) hlf).keep (Ug.of (d:=.dct (jR [] ps)) r hlf ⟨by
   have h5:=qg ps [];rw[yS e1] at h5;exact Nat.le_trans h5 (by simpa using z),_,aZ,g2⟩)
  exact q _ _ F2 r2 s2 p2
 ·cases e
def Yv{p:Pos}{e:Expr}{ea:cV}(G:Good X C)(hm:X.mg "dict" = none)(ha:rD X C [e] ea)(hg:Gl X "dict":=by rfl)(he:xG e X.env:=by rfl):PX X C (.Call (.Name "dict" p) [e] [] pos) (au nW ea):=
 nJ (T:="dict") (r:=Qt C.K) (by rw[<-G.K];exact Od G.calm) Wz hg hm (by decide +kernel) ha (by decide) (by decide) he rfl
end
end Ev
namespace L2
open PySem PySem.Spec PyProof.Rows PySem.Builtin PySem.Builtin.Str
section
variable{X:Cx}
def Qs:R2:=λx y H Q=>∃a o,y = .ref a/\HF H a x o/\Q (.bl o.isSome) H
def Rm(hu:X.A.units+1<cLine):nu X (compareOp .In) Qs:=by intro pins s σ H x y v u Q I rx ry h;obtain⟨a,o,rfl,g,q⟩:=h;cases ry;exact aiY hu I g rx λs' I'=>⟨.bl o.isSome,H,I',rfl,q⟩
def Hq(v:Int)(n d:Nat):max 0 (min (if v<0 then v+(n:Int) else v) (n:Int))=((HT.fU n d (some v):Nat):Int):=by
 show _=(((if v<0 then (v+(n:Int)).toNat else min v.toNat n):Nat):Int);by_cases hv:v<0
 ·simp only[if_pos hv];omega
 ·simp only[if_neg hv];omega
def range_one(a b:Nat):sliceRange (a:Int) (b:Int) 1=List.range' a (b - a):=by
 unfold sliceRange;have h1:(1:Int) > 0:=by decide
 simp only[if_pos h1];have hc:(if (a:Int)<(b:Int) then ((b:Int) - (a:Int)+1 - 1) / 1 else 0).toNat=b - a:=by
  by_cases h:(a:Int)<(b:Int)
  ·rw[if_pos h,Int.ediv_one];omega
  ·rw[if_neg h];omega
 rw[hc,List.range'_eq_map_range];apply List.map_congr_left;intro k _;omega
def Q7(lo hi:Option Int)(n:Nat):strSliceIndices lo hi 1 n=List.range' (HT.fU n 0 lo) (HT.fU n n hi - HT.fU n 0 lo):=by
 have h1:(1:Int) > 0:=by decide
 unfold strSliceIndices;simp only[if_pos h1];rw[<-range_one]
 congr 1
 ·cases lo with
  | none=>rfl
  | some v=>exact Hq v n 0
 ·cases hi with
  | none=>rfl
  | some v=>exact Hq v n n
theorem Hg(c:List Nat):∀(m a:Nat),a+m<=c.length->(List.range' a m).filterMap (c.toArray[·]?)=(c.drop a).take m
 | 0,a,_=>by simp
 | m+1,a,h=>by
  rw[List.range'_succ,List.filterMap_cons];have e:c.toArray[a]? = some c[a]:=by simp
  rw[e,Hg c m (a+1) (by omega),List.drop_eq_getElem_cons (l:=c) (i:=a) (by omega),List.take_succ_cons]
def tH(z:List Nat)(lo hi:Option Int):List Nat:=(z.drop (HT.fU z.length 0 lo)).take (HT.fU z.length z.length hi - HT.fU z.length 0 lo)
def ahi:V->Option Int->Option Int->Hp->VK->Prop:=λx lo hi H Q=>∃z:List Nat,x = .str ⟨z.toArray⟩/\z.length<=sizeLine/\Q (.str ⟨(tH z lo hi).toArray⟩) H
def part_of{v:Value}{o:Option Int}(p:IsPart v o):∃l:Option (Int×Tok),v=partValue l/\l.map (·.1)=o:=by
 cases p with
 | none=>exact⟨none,rfl,rfl⟩
 | int i t=>exact⟨some (i,t),rfl,rfl⟩
def Pn:LK X ahi:=by
 intro pins s σ H x v vl vu lo hi sl Q I rx hs pl pu h;obtain⟨z,rfl,hz,q⟩:=h;obtain⟨t,rfl⟩:=rx;obtain⟨l,rfl,el⟩:=part_of pl;obtain⟨u,rfl,eu⟩:=part_of pu;refine⟨"str",_,PySem.F.slot_str_getitem.lookup,typeIs_str s _ t,?_⟩;obtain⟨o,h1,h2,h3⟩:=hs;refine wpAny_getItem_str_slice (l:=l) (u:=u) (st:=none) ⟨o,h1,h2,h3⟩ rfl ?_;have hp:slicePicked ⟨z.toArray⟩ l u none=List.range' (HT.fU z.length 0 lo) (HT.fU z.length z.length hi - HT.fU z.length 0 lo):=by unfold slicePicked;rw[el,eu];show strSliceIndices lo hi 1 z.toArray.size=_;rw[List.size_toArray,Q7]
 have hle:HT.fU z.length 0 lo+(HT.fU z.length z.length hi - HT.fU z.length 0 lo)<=z.length\/HT.fU z.length z.length hi - HT.fU z.length 0 lo=0:=by have a1:=HT.Dh z.length 0 (Nat.zero_le _) lo;have a2:=HT.Dh z.length z.length (Nat.le_refl _) hi;omega
 have aim:((slicePicked ⟨z.toArray⟩ l u none).filterMap ((⟨z.toArray⟩:Str).cps[·]?))=tH z lo hi:=by
  rw[hp];unfold tH;rcases hle with hle|hle
  ·exact Hg z _ _ hle
  ·rw[hle];simp
 unfold sliceMade;split
 ·rename_i hc;have hlen:(slicePicked ⟨z.toArray⟩ l u none).length=z.length:=by
   have:=(Bool.and_eq_true_iff.mp hc).2;have:=eq_of_beq this
   simpa[Str.length] using this
  have hw:tH z lo hi=z:=by
   rw[hp,List.length_range'] at hlen;unfold tH;have a2:=HT.Dh z.length z.length (Nat.le_refl _) hi;have a0:HT.fU z.length 0 lo=0\/z.length=0:=by omega
   rcases a0 with a0|a0
   ·rw[a0,List.drop_zero,List.take_of_length_le (by omega)]
   ·have:z=[]:=List.eq_nil_of_length_eq_zero a0;subst this;simp
  rw[hw] at q;exact⟨.str ⟨z.toArray⟩,H,I,⟨t,rfl⟩,q⟩
 ·rw[aim];refine⟨?_,⟨.str ⟨(tH z lo hi).toArray⟩,H,I.tok _,⟨_,rfl⟩,q⟩⟩;show(tH z lo hi).toArray.size<=sizeLine;rw[List.size_toArray];unfold tH;rw[List.length_take,List.length_drop];omega
end
end L2
namespace Ev
open PySem PySem.Spec PyProof.Rows L2 PySem.Builtin
section
variable{X:Cx}{C:Cfg}{pos:Pos}{x y:Expr}{a b:Ev}
def qF(k y:D):Option D:=match y with
 | .dct kvs=>(nQ k).map λq=>.bl (lM kvs q).isSome
 | _=>none
def Rp:pQ C Qs qF:=by
 intro Pr F env σ H x y d vx vy Q r px py e q;cases y with
 | dct kvs=>
  obtain⟨k,hk,rfl⟩:=Option.map_eq_some_iff.mp (show(nQ x).map (λq=>D.bl (lM kvs q).isSome)=some d from e);obtain⟨z,p,ks,rfl,h1,h2⟩:=py.dct r.fr;cases JC hk px;refine⟨p,rR ks k,rfl,.inl ⟨ks,k,h1,rfl,rfl⟩,?_⟩;have e2:(rR ks k).isSome=(lM kvs k).isSome:=by rcases h2.val k with ⟨g1,g2⟩|⟨d',v',g1,g2,_⟩<;>rw[g1,g2]<;>rfl
  rw[e2];exact q _ H F r (aQ.refl F) rfl
 | _=>cases e
def WL(G:Good X C):Cm X C .In qF:=⟨_,Rm G.u1,Rp⟩
def abx:D->Option Int->Option Int->Option D
 | .str z,lo,hi=>some (.str (tH z lo hi))
 | _,_,_=>none
def uK(a:Ev)(lo hi:yx):Ev:=λenv=>bindR (a env) λd aM=>bindR (lo aM) λl dH=>bindR (hi dH) λu zH=>dX (abx d l u) zH
def Ho(z:List Nat)(lo hi:Option Int):(tH z lo hi).length<=z.length:=by unfold tH;rw[List.length_take,List.length_drop];omega
def acO{lo hi:Option Expr}{el eh:yx}{p2:Pos}(ha:PX X C x a)(hl:T5 X C lo el)(hh:T5 X C hi eh):PX X C (.Subscript x (.Slice lo hi none p2) pos) (uK a el eh):=by
 refine(yR (pos:=pos) (p2:=p2) Pn ha hl hh).imp λσ H Q hq=>?_;obtain⟨Pr,F,env,env',d,r,e,q⟩:=hq;obtain⟨z,aM,e1,e2⟩:=aW e;obtain⟨l,dH,e3,e4⟩:=aW e2;obtain⟨u,zH,e5,e6⟩:=aW e4;obtain⟨e7,rfl⟩:=eZ e6;cases z with
 | str z=>
  cases e7;refine⟨Pr,F,env,aM,.str z,r,e1,λv H1 F1 r1 s1 p1=>⟨Pr,F1,aM,dH,l,r1,e3,λH2 F2 r2 s2=>⟨Pr,F2,dH,env',u,r2,e5,λH3 F3 r3 s3=>?_⟩⟩⟩;obtain⟨rfl,hz⟩:=p1;exact⟨z,rfl,hz,q _ H3 F3 r3 ((s1.trans s2).trans s3) ⟨rfl,Nat.le_trans (Ho _ _ _) hz⟩⟩
 | _=>cases e7
def aiJ:D->D->Option D
 | .lst a,.lst b=>if a.length+b.length<=sizeLine then some (.lst (a++b)) else none
 | _,_=>none
end
end Ev
namespace HT
open PySem PySem.Spec PyProof PyProof.Rows PySem.Builtin
section
variable{prog:Program}{w:World}{A:Around}{E:Value->Shared->Prop}{s:Shared}
def rC{t sl:Addr}{items:Array Value}{vl vu:Value}{lo hi:Option Int}{Q:Value->Shared->Prop}(ht:IsTup s.heap t items)(hs:s.heap.IsSliceOf sl vl vu .none)(pl:IsPart vl lo)(pu:IsPart vu hi)
  (hw:fU items.size 0 lo=0/\fU items.size items.size hi=items.size)
  (h:Q (.ref t) s):wpAny (model prog w) A (getItem (.ref t) (.ref sl)) Q E s:=by
 obtain⟨os,hos,hcs,hds⟩:=id hs;have hTs:s.TypeIs (.ref sl) "slice":=⟨os,hos,hcs⟩;unfold getItem
 try with_reducible refine wpAny_holding ?_
 first|refine wpAny_bind (wpAny_pure ?_)|skip
 refine wpAny_bind (wpAny_sequenceKey ht.typeIs (by decide) ?_);refine wpAny_bind (wpAny_callSpecial?_slot (name:=Str.ofString "__getitem__") ht.typeIs PyProof.Rows.slot_tuple_getitem
  (wpAny_call_entry PyProof.Rows.slot_tuple_getitem ht.typeIs entry_tuple_getitem ?_ (args_tuple_getitem _ _)))
 show wpAny _ _ (Builtin.Tuple.tupleItemsOf (.ref t) >>= _) _ _ s;refine wpAny_bind (tupleItemsOf_ ht ?_);refine wpAny_bind (wpAny_typeOf hTs ?_);rw[if_pos (by decide)];refine wpAny_bind (nH hs pl pu ?_);have aic:(((fU items.size 0 lo:Nat):Int) == 0&&(1:Int) == 1&&(fU items.size items.size hi - fU items.size 0 lo) == items.size)=true:=by rw[hw.1,hw.2];simp
 show wpAny _ _ (if (((fU items.size 0 lo:Nat):Int) == 0&&(1:Int) == 1&&(fU items.size items.size hi - fU items.size 0 lo) == items.size)=true then _ else _) _ _ s;rw[if_pos aic];refine wpAny_bind (m:=Builtin.Tuple.tupleIsExact (.ref t)) ?_;unfold Builtin.Tuple.tupleIsExact;refine wpAny_bind (wpAny_typeOf ht.typeIs ?_);refine wpAny_pure ?_;rw[if_pos (by decide)];exact wpAny_bind (wpAny_rule (wpAny_pure ⟨_,rfl,wpAny_pure h⟩))
end
end HT
namespace L2
open PySem PySem.Spec PyProof.Rows
section
variable{X:Cx}
def adv(K:PySem.W.Frag):V->Option Int->Option Int->Hp->VK->Prop:=λx lo hi H Q=>∃a xs,x = .ref a/\lB K H a xs/\(HT.fU xs.length 0 lo=0/\HT.fU xs.length xs.length hi=xs.length)/\Q (.ref a) H
def Pk:LK X (adv X.K):=by
 intro pins s σ H x v vl vu lo hi sl Q I rx hs pl pu h;obtain⟨a,xs,rfl,hx,hw,q⟩:=h;cases rx;obtain⟨its,r,ht,hz⟩:=I.tuple hx;have hlen:its.toArray.size=xs.length:=by rw[List.size_toArray];exact r.length.symm
 refine⟨"tuple",_,PyProof.Rows.slot_tuple_getitem.lookup,ht.typeIs,?_⟩;refine HT.rC ht hs pl pu (by rw[hlen];exact hw) ?_;exact⟨.ref a,H,I,rfl,q⟩
end
end L2
namespace Ev
open PySem PySem.Spec PyProof.Rows L2
section
variable{X:Cx}{C:Cfg}{pos:Pos}{x:Expr}{a:Ev}{y z:Expr}{b c:Ev}{apos:Pos}
def SN:D->Option Int->Option Int->Option D
 | .tup xs,lo,hi=>if HT.fU xs.length 0 lo=0/\HT.fU xs.length xs.length hi=xs.length then some (.tup xs) else some (.tup (cutD xs lo hi))
 | _,_,_=>none
def ae3(a:Ev)(lo hi:yx):Ev:=λenv=>bindR (a env) λd aM=>bindR (lo aM) λl dH=>bindR (hi dH) λu zH=>dX (SN d l u) zH
def Y6{Pr F:Hp}{env:Env}{σ:L2.St}{H:Hp}{x d:D}{v:V}{lo hi:Option Int}{Q:VK}(r:Rel C Pr F env σ H)(p:Rep C.K F x v)(e:SN x lo hi=some d)(q:∀v H' F',Rel C Pr F' env σ H'->aQ F F'->Rep C.K F' d v->Q v H') :
  Zd C.K v lo hi H Q\/adv C.K v lo hi H Q:=by
 unfold SN at e;split at e
 ·obtain⟨z,a,vs,rfl,h1,_,h2⟩:=gY.tup r.fr (.inl p);split at e
  ·rename_i hn;cases e;exact .inr ⟨a,vs,rfl,h1,by rw[h2.length];exact hn,q _ H F r (aQ.refl F) p⟩
  ·rename_i hn;cases e;refine .inl ⟨a,vs,rfl,h1,by rw[h2.length];exact hn,λb hb=>?_⟩;obtain⟨r2,s2⟩:=r.new (o:=.tup (xU vs lo hi)) hb;exact q _ _ _ r2 s2 ⟨Nat.le_trans (qK _ _ _) z,b,_,rfl,lB.of aZ,bT.mono s2 _ _ (h2.cut lo hi)⟩
 ·cases e
def Lk(g g':D->D->Option D)(a b c:Ev):Ev:=λenv=>bindR (a env) λu e1=>bindR (b e1) λv e2=>match g u v with
 | some (.bl k)=>if k=true then bindR (c e2) λt e3=>dX (g' v t) e3 else .ok (.bl false) e2
 | _=>.stuck
def SQ:D->D->D->Option D
 | .dct kvs,k,t=>(nQ k).map λq=>(lM kvs q).getD t
 | _,_,_=>none
def wG(a b c:Ev):Ev:=λenv=>bindR (a env) λd e1=>bindR (b e1) λk e2=>bindR (c e2) λt e3=>match d with
 | .dct kvs=>dX (SQ (.dct kvs) k t) e3
 | _=>.stuck
def Yu(G:Good X C)(ha:PX X C x a)(hb:PX X C y b)(hc:PX X C z c)(m:M2 X x "get" apos y z pos:=by exact⟨by rfl,by rfl,by rfl,by rfl⟩):PX X C (.Call (.Attribute x "get" apos) [y,z] [] pos) (wG a b c):=by
 refine(Rg G.u1 ha hb hc m).imp λσ H Q hq=>?_;obtain⟨Pr,F,env,env',d,rl,e,q⟩:=hq;obtain⟨u,aM,e1,e2⟩:=aW e;obtain⟨k,dH,e3,e4⟩:=aW e2;obtain⟨t,zH,e5,e6⟩:=aW e4;split at e6
 ·rename_i kvs;obtain⟨e7,rfl⟩:=eZ e6;obtain⟨kk,hk,rfl⟩:=Option.map_eq_some_iff.mp (show(nQ k).map (λq=>(lM kvs q).getD t)=some d from e7);refine⟨Pr,F,env,aM,.dct kvs,rl,e1,λvu H1 F1 r1 s1 p1=>?_⟩;obtain⟨z1,a1,ks,rfl,h1,h2⟩:=gY.dct r1.fr (.inl p1);refine⟨a1,rfl,.inl ⟨ks,h1⟩,Pr,F1,aM,dH,k,r1,e3,λvk H2 F2 r2 s2 p2=>⟨Pr,F2,dH,env',t,r2,e5,λvt H3 F3 r3 s3 p3=>?_⟩⟩;obtain⟨z2,a2,ks2,ea,h3,h4⟩:=gY.dct r3.fr (.inl (Rep.mono (s2.trans s3) _ _ p1));cases ea;cases JC hk (.inl (Rep.mono s3 _ _ p2):gY C.K F3 H3 k vk);refine⟨rR ks2 kk,.inl ⟨ks2,kk,h3,rfl,rfl⟩,?_⟩;rcases h4.val kk with ⟨g1,g2⟩|⟨d',v',g1,g2,g3⟩
  ·rw[g2];rw[g1] at q;exact q _ H3 F3 r3 ((s1.trans s2).trans s3) p3
  ·rw[g2];rw[g1] at q;exact q _ H3 F3 r3 ((s1.trans s2).trans s3) g3
 ·cases e6
end
end Ev
namespace ZT
open PySem PySem.Spec PyProof.Rows L2 PySem.Builtin
section
variable{prog:Program}{w:World}{A:Around}{E:Value->Shared->Prop}{s:Shared}
def Rx{j t:Addr}{n:Nat}{its:Array Value}{x:Value}{Q:Value->Shared->Prop}(hj:s.heap.IsTupleIter j t n)(ht:s.heap.IsTuple t its)(hx:its[n]? = some x)
  (q:∀g,g.IsTupleIter j t (n+1)->Heap.SameBut j s.heap g->Q x { s with heap:=g }):wpAny (model prog w) A (Builtin.SmallTypes.nextOf (.ref j)) Q E s:=by
 obtain⟨u,hu,uc,ud⟩:=id hj;obtain⟨ut,hut,_,m,mt⟩:=ht;unfold Builtin.SmallTypes.nextOf;refine wpAny_bind (wpAny_callSpecial?_slot (name:=Str.ofString "__next__") hj.typeIs F.slot_tuple_iterator_next (wpAny_call_entry F.slot_tuple_iterator_next hj.typeIs F.entry_tuple_iterator_next ?_ (F.args_tuple_iterator_next_1 _)));show wpAny _ _ (field (.ref j) 0 >>= _) _ _ s;refine wpAny_bind (wpAny_field hu ud (x:=.ref t) rfl ?_);show wpAny _ _ (if (Value.ref t == Value.none)=true then _ else _) _ _ s;rw[if_neg (show ¬((Value.ref t == Value.none)=true) from Bool.false_ne_true)];show wpAny _ _ (field (.ref j) 1 >>= _) _ _ s;refine wpAny_bind (wpAny_field hu ud (x:=.int n 0) rfl ?_);show wpAny _ _ (seqItems? (.ref t) >>= _) _ _ s;refine wpAny_bind (wpAny_seqItems hut mt ?_);simp only[Int.toNat_natCast,hx];refine wpAny_bind (wpAny_setField hu ud (by simp) (wpAny_pure ⟨x,rfl,wpAny_pure (q _ ?_ (Heap.SameBut.update ..))⟩));exact⟨_,Heap.get?_update_self _ hu (Obj.isFreed_of_fields (Obj.data_mapFields ud _)),(Obj.cls_mapFields ..).trans uc,by rw[Obj.data_mapFields ud];simp[rawInt]⟩
def Dv{j t:Addr}{n:Nat}{its:Array Value}{Q:Value->Shared->Prop}(hh:A.handled=none)(hj:s.heap.IsTupleIter j t n)(ht:s.heap.IsTuple t its)(hx:its[n]? = none)
  (q:∀g e,Heap.ExtBut j s.heap g->(∃o,g.get? e=some o/\o.cls = .type "StopIteration")->E (.ref e) { s with heap:=g }):wpAny (model prog w) A (Builtin.SmallTypes.nextOf (.ref j)) Q E s:=by
 obtain⟨u,hu,uc,ud⟩:=id hj;obtain⟨ut,hut,_,m,mt⟩:=ht;unfold Builtin.SmallTypes.nextOf;refine wpAny_bind (wpAny_callSpecial?_slot (name:=Str.ofString "__next__") hj.typeIs F.slot_tuple_iterator_next (wpAny_call_entry F.slot_tuple_iterator_next hj.typeIs F.entry_tuple_iterator_next ?_ (F.args_tuple_iterator_next_1 _)));show wpAny _ _ (field (.ref j) 0 >>= _) _ _ s;refine wpAny_bind (wpAny_field hu ud (x:=.ref t) rfl ?_);show wpAny _ _ (if (Value.ref t == Value.none)=true then _ else _) _ _ s;rw[if_neg (show ¬((Value.ref t == Value.none)=true) from Bool.false_ne_true)];show wpAny _ _ (field (.ref j) 1 >>= _) _ _ s;refine wpAny_bind (wpAny_field hu ud (x:=.int n 0) rfl ?_);show wpAny _ _ (seqItems? (.ref t) >>= _) _ _ s;refine wpAny_bind (wpAny_seqItems hut mt ?_);simp only[Int.toNat_natCast,hx];refine wpAny_bind (wpAny_rule (wpAny_bind (wpAny_setField hu ud (by simp) ?_)));show wpAny _ _ (newExc (.type "StopIteration") [] >>= _) _ _ _;refine wpAny_bind ?_;simp only[newExc,newTuple];refine wpAny_bind (wpAny_newObj_type ?_ (by size_fits));refine wpAny_bind (m:=firstArgMember _ _) (wpAny_of_eq (a:=Value.none) (by first|rfl|(simp only[firstArgMember];rfl)) ?_);refine wpAny_newObj_type ?_ (by size_fits);simp only[raiseNew];refine wpAny_bind (wpAny_handled ?_)
 first|rw[show A.in1.handled=none from hh]|rw[hh]
 refine wpAny_bind (wpAny_pure (wpAny_throw ?_));exact q _ _ (((Heap.SameBut.update ..).extBut.push _).push _) ⟨_,Heap.get?_push_size _ rfl,rfl⟩
end
def rn{prog:Program}{w:World}{A:Around}(hh:A.handled=none)(j t:Addr)(hne:t≠j)(its:Array Value) :
  Draws prog w A j [j,t] its.size (λi v=>its[i]? = some v) (λi h=>h.IsTupleIter j t i/\h.IsTuple t its) where
 live:=λ_ _ st=>let ⟨o,ho,_⟩:=st.1;⟨o,ho⟩
 frame:=λ_ _ _ st hk=>by
  obtain⟨⟨o,ho,r⟩,o2,ho2,r2⟩:=st;exact⟨⟨o,hk j (by simp) o ho,r⟩,o2,hk t (by simp) o2 ho2,r2⟩
 item:=λi s Q E hi st hQ=>by
  refine Rx st.1 st.2 (x:=its[i]) (by simp[hi]) λh' hit' hs'=>?_;exact hQ _ h' s.toks (by simp[hi]) ⟨hit',st.2.extBut hs'.extBut hne⟩ hs'
 done:=λs Q E st hE=>Dv hh st.1 st.2 (by simp) hE
structure Ap(z TI TO j1 j2:Addr)(f1 f2:List Addr):Prop where
 a1:TI≠z
 a2:TO≠z
 a3:TI≠TO
 a4:j1≠j2
 b1:j1∈f1
 b2:j2∈f2
 c1:z ∉ f1
 c2:z ∉ f2
 c3:TO ∉ f1
 c4:TO ∉ f2
 c5:TI ∉ f1
 c6:TI ∉ f2
 c7:j2 ∉ f1
 c8:j1 ∉ f2
section
variable{prog:Program}{w:World}{A:Around}{E:Value->Shared->Prop}{s:Shared}{z TI TO j1 j2:Addr}{f1 f2:List Addr}{n1 n2 k:Nat}{P1 P2:Nat->Value->Prop}{S1 S2:Nat->Heap->Prop}{a b:Value}
def fL{c d:Addr}{f:List Addr}(h:c∈f)(h':d ∉ f):c≠d:=λe=>h' (e ▸ h)
def Ou{Q:Value->Shared->Prop}(D:Ap z TI TO j1 j2 f1 f2)(D1:Draws prog w A j1 f1 n1 P1 S1)(D2:Draws prog w A j2 f2 n2 P2 S2)(k1:k<n1)(k2:k<n2)
  (hz:IsZip s.heap z TI TO .none) (hTI:IsPair s.heap TI (.ref j1) (.ref j2)) (hTO:IsPair s.heap TO a b) (s1:S1 k s.heap) (s2:S2 k s.heap)
  (q:∀x y g tk,P1 k x->P2 k y->IsZip g z TI TO (rawInt s.heap.objs.size)->IsPair g TO x y->S1 (k+1) g->S2 (k+1) g->IsPair g s.heap.objs.size x y->g.objs.size=s.heap.objs.size+1->
   (∀c o,c≠z->c≠TO->c≠j1->c≠j2->s.heap.get? c=some o->g.get? c=some o)->Q (.ref s.heap.objs.size) { s with heap:=g,toks:=tk }) :
  wpAny (model prog w) A (Builtin.«zip.__next__» ⟨[.ref z],[]⟩) (λfin s'=>∃v,fin = .done (.ret v)/\Q v s') E s:=by
 have Wq:j1≠z:=fL D.b1 D.c1;have abO:j2≠z:=fL D.b2 D.c2;have abP:j1≠TO:=fL D.b1 D.c3;have afi:j2≠TO:=fL D.b2 D.c4;show wpAny _ _ (field (.ref z) 2 >>= _) _ _ _;refine wpAny_bind (wpAny_field hz rfl (x:=.bool false) rfl ?_);show wpAny _ _ (field (.ref z) 3 >>= _) _ _ _;refine wpAny_bind (wpAny_field hz rfl (x:=.ref TI) rfl ?_);refine wpAny_bind (wpAny_seqItems hTI rfl ?_);show wpAny _ _ (Builtin.SmallTypes.ownedTupleIsFree (.ref z) >>= _) _ _ _;refine wpAny_bind ?_;unfold Builtin.SmallTypes.ownedTupleIsFree;refine wpAny_bind (wpAny_field hz rfl (x:=.none) rfl (wpAny_pure ?_));simp only[if_true];refine wpAny_bind (wpAny_rule ?_);refine wpAny_bind (wpAny_field hz rfl (x:=.ref TO) rfl ?_);refine wpAny_bind (wpAny_setField_rec hz (by simp) λg1 hz1 e1=>?_)
 replace hz1:IsZip g1 z TI TO .ellipsis:=hz1
 refine wpAny_bind ?_;simp only[List.zipIdx_cons,List.zipIdx_nil,List.forIn_cons,List.forIn_nil];refine wpAny_bind (wpAny_bind (wpAny_onRaise ?_));show wpAny _ _ (Builtin.SmallTypes.nextOf (.ref j1) >>= _) _ _ _;have s1':S1 k g1:=D1.frame k _ _ s1 λc hc o e=>e1.extBut _ _ (fL hc D.c1) e;refine wpAny_bind (D1.item k { s with heap:=g1 } _ _ k1 s1' λx g2 tk2 px sx e2=>wpAny_pure ?_);have t2:IsPair g2 TO a b:=e2.extBut _ _ abP.symm (e1.extBut _ _ D.a2 hTO);refine wpAny_bind (wpAny_seqItems t2 rfl ?_);refine wpAny_bind (wpAny_updateSeq_pair t2 λg3 t3 e3=>?_)
 replace t3:IsPair g3 TO x b:=t3
 refine wpAny_bind (wpAny_letGo (wpAny_pure ?_));refine wpAny_bind (wpAny_bind (wpAny_onRaise ?_));show wpAny _ _ (Builtin.SmallTypes.nextOf (.ref j2) >>= _) _ _ _;have UJ:S2 k g3:=D2.frame k _ _ s2 λc hc o e=>e3.extBut _ _ (fL hc D.c4) (e2.extBut _ _ (fL hc D.c8) (e1.extBut _ _ (fL hc D.c2) e));refine wpAny_bind (D2.item k { s with heap:=g3,toks:=tk2 } _ _ k2 UJ λy g4 tk4 py sy e4=>wpAny_pure ?_);have t4:IsPair g4 TO x b:=e4.extBut _ _ afi.symm t3;refine wpAny_bind (wpAny_seqItems t4 rfl ?_);refine wpAny_bind (wpAny_updateSeq_pair t4 λg5 t5 e5=>?_)
 replace t5:IsPair g5 TO x y:=t5
 refine wpAny_bind (wpAny_letGo (wpAny_pure (wpAny_pure ?_)));refine wpAny_bind (wpAny_seqItems t5 rfl ?_);refine wpAny_bind (wpAny_newTuple ?_);have hsz:g5.objs.size=s.heap.objs.size:=by rw[e5.1,e4.1,e3.1,e2.1,e1.1]
 have hz5:IsZip g5 z TI TO .ellipsis:=e5.extBut _ _ D.a2.symm (e4.extBut _ _ abO.symm (e3.extBut _ _ D.a2.symm (e2.extBut _ _ Wq.symm hz1)));have aej:∀c o,c≠z->c≠TO->c≠j1->c≠j2->s.heap.get? c=some o->g5.get? c=some o:=λc o c1 c2 c3 c4 e=>
  e5.extBut _ _ c2 (e4.extBut _ _ c4 (e3.extBut _ _ c2 (e2.extBut _ _ c3 (e1.extBut _ _ c1 e))))
 have s15:S1 (k+1) g5:=D1.frame _ _ _ sx λc hc o e=>e5.extBut _ _ (fL hc D.c3) (e4.extBut _ _ (fL hc D.c7) (e3.extBut _ _ (fL hc D.c3) e));have s25:S2 (k+1) g5:=D2.frame _ _ _ sy λc hc o e=>e5.extBut _ _ (fL hc D.c4) e;have zlt:z<g5.objs.size:=Heap.lt_size hz5;show wpAny _ _ (Builtin.SmallTypes.ownedTupleHandOut (.ref z) (.ref g5.objs.size) >>= _) _ _ _;refine wpAny_bind ?_;unfold Builtin.SmallTypes.ownedTupleHandOut;have hz6:IsZip (g5.push { cls:=.type "tuple",data:=.seq #[x,y] }) z TI TO .ellipsis:=Heap.get?_push_of_some _ hz5;refine wpAny_bind (wpAny_setField_rec hz6 (by simp) λg7 hz7 e7=>?_)
 replace hz7:IsZip g7 z TI TO (rawInt g5.objs.size):=hz7
 refine wpAny_setField_rec hz7 (by simp) λg8 hz8 e8=>?_
 replace hz8:IsZip g8 z TI TO (rawInt g5.objs.size):=hz8
 have up:∀c o,c≠z->g5.get? c=some o->g8.get? c=some o:=λc o c1 e=>e8.extBut _ _ c1 (e7.extBut _ _ c1 (Heap.get?_push_of_some _ e));have t8:IsPair g8 g5.objs.size x y:=e8.extBut _ _ (Nat.ne_of_gt zlt) (e7.extBut _ _ (Nat.ne_of_gt zlt) (Heap.get?_push_size _ rfl));have l8:g8.objs.size=g5.objs.size+1:=by rw[e8.1,e7.1,Heap.size_push]
 rw[hsz] at hz8 t8 l8;refine wpAny_pure ⟨_,rfl,?_⟩;show Q (.ref g5.objs.size) _;rw[hsz];exact q x y g8 _ px py hz8 (up _ _ D.a2 t5) (D1.frame _ _ _ s15 λc hc o e=>up c o (fL hc D.c1) e) (D2.frame _ _ _ s25 λc hc o e=>up c o (fL hc D.c2) e) t8 l8 λc o c1 c2 c3 c4 e=>up c o c1 (aej c o c1 c2 c3 c4 e)
def Ui{Q:Fin->Shared->Prop}(D:Ap z TI TO j1 j2 f1 f2)(D1:Draws prog w A j1 f1 n1 P1 S1)(D2:Draws prog w A j2 f2 n2 P2 S2)(hk:k=n1\/(k<n1/\k=n2))
  (hz:IsZip s.heap z TI TO .none) (hTI:IsPair s.heap TI (.ref j1) (.ref j2)) (hTO:IsPair s.heap TO a b) (s1:S1 k s.heap) (s2:S2 k s.heap)
  (q:∀g e tk,(∀c o,c≠z->c≠TO->c≠j1->c≠j2->s.heap.get? c=some o->g.get? c=some o)->(∃o,g.get? e=some o/\o.cls = .type "StopIteration")->E (.ref e) { s with heap:=g,toks:=tk }) :
  wpAny (model prog w) A (Builtin.«zip.__next__» ⟨[.ref z],[]⟩) Q E s:=by
 have Wq:j1≠z:=fL D.b1 D.c1;have abO:j2≠z:=fL D.b2 D.c2;have abP:j1≠TO:=fL D.b1 D.c3;have afi:j2≠TO:=fL D.b2 D.c4;show wpAny _ _ (field (.ref z) 2 >>= _) _ _ _;refine wpAny_bind (wpAny_field hz rfl (x:=.bool false) rfl ?_);show wpAny _ _ (field (.ref z) 3 >>= _) _ _ _;refine wpAny_bind (wpAny_field hz rfl (x:=.ref TI) rfl ?_);refine wpAny_bind (wpAny_seqItems hTI rfl ?_);show wpAny _ _ (Builtin.SmallTypes.ownedTupleIsFree (.ref z) >>= _) _ _ _;refine wpAny_bind ?_;unfold Builtin.SmallTypes.ownedTupleIsFree;refine wpAny_bind (wpAny_field hz rfl (x:=.none) rfl (wpAny_pure ?_));simp only[if_true];refine wpAny_bind (wpAny_rule ?_);refine wpAny_bind (wpAny_field hz rfl (x:=.ref TO) rfl ?_);refine wpAny_bind (wpAny_setField_rec hz (by simp) λg1 hz1 e1=>?_)
 replace hz1:IsZip g1 z TI TO .ellipsis:=hz1
 refine wpAny_bind ?_;simp only[List.zipIdx_cons,List.zipIdx_nil,List.forIn_cons,List.forIn_nil];refine wpAny_bind (wpAny_bind (wpAny_onRaise ?_));show wpAny _ _ (Builtin.SmallTypes.nextOf (.ref j1) >>= _) _ _ _;have s1':S1 k g1:=D1.frame k _ _ s1 λc hc o e=>e1.extBut _ _ (fL hc D.c1) e;rcases hk with rfl|⟨k1,rfl⟩
 ·refine wpAny_bind (D1.done { s with heap:=g1 } _ _ s1' λg2 e x2 he=>?_);obtain⟨oe,hoe,hce⟩:=he;have hz2:IsZip g2 z TI TO .ellipsis:=x2 _ _ Wq.symm hz1;have hez:e≠z:=λx=>by subst x;rw[hz2] at hoe;cases hoe;simp at hce
  exact wpAny_setField_rec hz2 (by simp) λg3 _ e3=>q g3 e s.toks (λc o c1 _ c3 _ x=>e3.extBut _ _ c1 (x2 _ _ c3 (e1.extBut _ _ c1 x))) ⟨oe,e3.extBut _ _ hez hoe,hce⟩
 ·refine wpAny_bind (D1.item k { s with heap:=g1 } _ _ k1 s1' λx g2 tk2 px sx e2=>wpAny_pure ?_);have t2:IsPair g2 TO a b:=e2.extBut _ _ abP.symm (e1.extBut _ _ D.a2 hTO);refine wpAny_bind (wpAny_seqItems t2 rfl ?_);refine wpAny_bind (wpAny_updateSeq_pair t2 λg3 t3 e3=>?_);refine wpAny_bind (wpAny_letGo (wpAny_pure ?_));refine wpAny_bind (wpAny_bind (wpAny_onRaise ?_));show wpAny _ _ (Builtin.SmallTypes.nextOf (.ref j2) >>= _) _ _ _;have UJ:S2 k g3:=D2.frame k _ _ s2 λc hc o e=>e3.extBut _ _ (fL hc D.c4) (e2.extBut _ _ (fL hc D.c8) (e1.extBut _ _ (fL hc D.c2) e));refine wpAny_bind (D2.done { s with heap:=g3,toks:=tk2 } _ _ UJ λg4 e x4 he=>?_);obtain⟨oe,hoe,hce⟩:=he;have hz4:IsZip g4 z TI TO .ellipsis:=x4 _ _ abO.symm (e3.extBut _ _ D.a2.symm (e2.extBut _ _ Wq.symm hz1));have hez:e≠z:=λx=>by subst x;rw[hz4] at hoe;cases hoe;simp at hce
  exact wpAny_setField_rec hz4 (by simp) λg5 _ e5=>q g5 e tk2 (λc o c1 c2 c3 c4 x=>e5.extBut _ _ c1 (x4 _ _ c4 (e3.extBut _ _ c2 (e2.extBut _ _ c3 (e1.extBut _ _ c1 x))))) ⟨oe,e5.extBut _ _ hez hoe,hce⟩
def xH{Q:Option Value->Shared->Prop}(D:Ap z TI TO j1 j2 f1 f2)(D1:Draws prog w A.in1 j1 f1 n1 P1 S1)(D2:Draws prog w A.in1 j2 f2 n2 P2 S2)(k1:k<n1)(k2:k<n2)
  (hz:IsZip s.heap z TI TO .none) (hTI:IsPair s.heap TI (.ref j1) (.ref j2)) (hTO:IsPair s.heap TO a b) (s1:S1 k s.heap) (s2:S2 k s.heap)
  (q:∀x y g tk,P1 k x->P2 k y->IsZip g z TI TO (rawInt s.heap.objs.size)->IsPair g TO x y->S1 (k+1) g->S2 (k+1) g->IsPair g s.heap.objs.size x y->g.objs.size=s.heap.objs.size+1->
   (∀c o,c≠z->c≠TO->c≠j1->c≠j2->s.heap.get? c=some o->g.get? c=some o)->Q (some (.ref s.heap.objs.size)) { s with heap:=g,toks:=tk }) :
  wpAny (model prog w) A (pyNext (.ref z)) Q E s:=by
 have hT:s.TypeIs (.ref z) "zip":=⟨_,hz,rfl⟩;unfold pyNext;exact wpAny_bind (wpAny_attempt (wpAny_callSpecial?_slot (name:=Str.ofString "__next__") hT F.slot_zip_next (wpAny_call_entry F.slot_zip_next hT F.entry_zip_next
  (Ou D D1 D2 k1 k2 hz hTI hTO s1 s2 λx y g tk u1 u2 u3 u4 u5 u6 u7 u8 u9=>wpAny_pure (q x y g tk u1 u2 u3 u4 u5 u6 u7 u8 u9)) (F.args_zip_next_1 _))))
def yP{Q:Option Value->Shared->Prop}(D:Ap z TI TO j1 j2 f1 f2)(D1:Draws prog w A.in1 j1 f1 n1 P1 S1)(D2:Draws prog w A.in1 j2 f2 n2 P2 S2)(hk:k=n1\/(k<n1/\k=n2))
  (hz:IsZip s.heap z TI TO .none) (hTI:IsPair s.heap TI (.ref j1) (.ref j2)) (hTO:IsPair s.heap TO a b) (s1:S1 k s.heap) (s2:S2 k s.heap)
  (q:∀g tk,(∀c o,c≠z->c≠TO->c≠j1->c≠j2->s.heap.get? c=some o->g.get? c=some o)->Q none { s with heap:=g,toks:=tk }):wpAny (model prog w) A (pyNext (.ref z)) Q E s:=by
 have hT:s.TypeIs (.ref z) "zip":=⟨_,hz,rfl⟩;unfold pyNext;refine wpAny_bind (wpAny_attempt (wpAny_callSpecial?_slot (name:=Str.ofString "__next__") hT F.slot_zip_next (wpAny_call_entry F.slot_zip_next hT F.entry_zip_next
  (Ui D D1 D2 hk hz hTI hTO s1 s2 λg e tk hkp he=>?_) (F.args_zip_next_1 _))))
 obtain⟨o,ho,hc⟩:=he;refine wpAny_bind (wpAny_isInstance (T:="StopIteration") (b:=true) ⟨o,ho,hc⟩ isSubtype_stop ?_);exact wpAny_pure (q _ _ hkp)
end
end ZT
namespace L2
open PySem PySem.Spec PyProof.Rows PySem.Builtin ZT
def Itz(K:PySem.W.Frag)(a1 a2:Addr):It:=
 ⟨λi H=>∃xs ys x y,lB K H a1 xs/\lB K H a2 ys/\xs[i]? = some x/\ys[i]? = some y,
 λi H v H'=>∃p x y,(∀xs,lB K H a1 xs->xs[i]? = some x)/\(∀ys,lB K H a2 ys->ys[i]? = some y)/\H p=none/\H'=upd H p (.tup [x,y])/\v = .ref p,
 λi H=>∃xs ys,lB K H a1 xs/\lB K H a2 ys/\(i=xs.length\/(i<xs.length/\i=ys.length))⟩
structure Apz(z TI TO j1 j2 a1 a2:Addr):Prop where
 t1:TI≠z
 t2:TO≠z
 t3:TI≠TO
 t4:j1≠j2
 b1:z ∉ [j1,a1]
 b2:z ∉ [j2,a2]
 b3:TO ∉ [j1,a1]
 b4:TO ∉ [j2,a2]
 b5:TI ∉ [j1,a1]
 b6:TI ∉ [j2,a2]
 b7:j2 ∉ [j1,a1]
 b8:j1 ∉ [j2,a2]
 c1:a1≠j1
 c2:a2≠j2
def Apz.ap{z TI TO j1 j2 a1 a2:Addr}(D:Apz z TI TO j1 j2 a1 a2):Ap z TI TO j1 j2 [j1,a1] [j2,a2]:=⟨D.t1,D.t2,D.t3,D.t4,by simp,by simp,D.b1,D.b2,D.b3,D.b4,D.b5,D.b6,D.b7,D.b8⟩
theorem O7{P:Program}{w:World}{K:PySem.W.Frag}{elts:List Expr}{kk:Nat}{pos:Pos}(z TI TO j1 j2 a1 a2:Addr)(D:Apz z TI TO j1 j2 a1 a2) :
  Turn P w K (.Tuple elts kk pos) (Itz K a1 a2) [z,TI,TO,j1,j2] z (λi h=>IsZip h z TI TO .none/\IsPair h TI (.ref j1) (.ref j2)/\(∃a b,IsPair h TO a b)/\h.IsTupleIter j1 a1 i/\h.IsTupleIter j2 a2 i) where
 mem:=by simp
 obj:=λi h st b hb=>by
  obtain⟨hz,hTI,⟨a,c,hTO⟩,⟨o1,e1,_,d1⟩,o2,e2,_,d2⟩:=st;simp only[List.mem_cons,List.not_mem_nil,or_false] at hb;rcases hb with rfl|rfl|rfl|rfl|rfl
  ·exact⟨_,hz,λv q=>by cases q⟩
  ·exact⟨_,hTI,λv q=>by cases q⟩
  ·exact⟨_,hTO,λv q=>by cases q⟩
  ·exact⟨o1,e1,λv q=>by rw[d1] at q;cases q⟩
  ·exact⟨o2,e2,λv q=>by rw[d2] at q;cases q⟩
 keep:=λi h h' st k=>by
  obtain⟨hz,hTI,⟨a,c,hTO⟩,⟨o1,e1,r1⟩,o2,e2,r2⟩:=st;exact⟨k z (by simp) _ hz,k TI (by simp) _ hTI,⟨a,c,k TO (by simp) _ hTO⟩,⟨o1,k j1 (by simp) _ e1,r1⟩,o2,k j2 (by simp) _ e2,r2⟩
 item:=by
  intro X hP hw hK hc i pins s σ H E I hf st hg;subst hP hw hK;obtain⟨hz,hTI,⟨a,b,hTO⟩,i1,i2⟩:=st;obtain⟨xs,ys,x,y,hx,hy,gx,gy⟩:=hg;obtain⟨us,ru,pu,zu⟩:=I.tuple hx;obtain⟨vs,rv,pv,zv⟩:=I.tuple hy;obtain⟨u,hu,rxu⟩:=ru.get gx;obtain⟨v,hv,ryv⟩:=rv.get gy;have lu:i<us.toArray.size:=by rw[List.size_toArray];exact(List.getElem?_eq_some_iff.mp hu).1
  have lv:i<vs.toArray.size:=by rw[List.size_toArray];exact(List.getElem?_eq_some_iff.mp hv).1
  have D1:Draws X.prog X.w X.A.in1 j1 [j1,a1] _ _ _:=rn (A:=X.A.in1) (show X.A.in1.handled=none from I.ok.hd hc) j1 a1 D.c1 us.toArray;have D2:Draws X.prog X.w X.A.in1 j2 [j2,a2] _ _ _:=rn (A:=X.A.in1) (show X.A.in1.handled=none from I.ok.hd hc) j2 a2 D.c2 vs.toArray;refine xH (A:=X.A) D.ap D1 D2 lu lv hz hTI hTO ⟨i1,pu⟩ ⟨i2,pv⟩ λx' y' g tk px py hz' aip s1 s2 hT hsz hk=>?_;have ex:x'=u:=by have:us.toArray[i]? = some x':=px;rw[List.getElem?_toArray,hu] at this;exact(Option.some.inj this).symm
  have ey:y'=v:=by have:vs.toArray[i]? = some y':=py;rw[List.getElem?_toArray,hv] at this;exact(Option.some.inj this).symm
  subst ex ey;refine⟨_,rfl,?_⟩;refine wpAny_letOwnedTupleGo_zip (s:={ s with heap:=g,toks:=tk }) hz' λg' hz'' e'=>?_;have BL:∀b o,b≠z->g.get? b=some o->g'.get? b=some o:=λb o hb q=>(e'.2 b hb).trans q;have lts:∀b ∈ [z,TI,TO,j1,j2],b<s.heap.objs.size:=λb hb=>by
   simp only[List.mem_cons,List.not_mem_nil,or_false] at hb;rcases hb with rfl|rfl|rfl|rfl|rfl
   ·exact Heap.lt_size hz
   ·exact Heap.lt_size hTI
   ·exact Heap.lt_size hTO
   ·obtain⟨_,q,_⟩:=i1;exact Heap.lt_size q
   ·obtain⟨_,q,_⟩:=i2;exact Heap.lt_size q
  have nT:H s.heap.objs.size=none:=I.hok.fresh (Nat.le_refl _);refine⟨.ref s.heap.objs.size,upd H s.heap.objs.size (.tup [x,y]),I.drawn (t':=tk) (ch:=[z,TI,TO,j1,j2]) hf (λb o hb q=>?_) (Nat.le_refl _) ?_,rfl,⟨_,x,y,λzs hq=>by rw[I.vA hq hx];exact gx,λzs hq=>by rw[I.vA hq hy];exact gy,nT,rfl,rfl⟩,⟨hz'',?_,⟨_,_,BL TO _ D.t2 aip⟩,?_,?_⟩,λb hb=>?_⟩
  ·have n1:b≠z:=λq=>hb (by simp[q]);exact BL b o n1 (hk b o n1 (λq=>hb (by simp[q])) (λq=>hb (by simp[q])) (λq=>hb (by simp[q])) q)
  ·exact⟨by show 2<=sizeLine;decide,[x',y'],.cons rxu (.cons ryv .nil),_,BL _ _ (Nat.ne_of_gt (lts z (by simp))) hT,rfl,⟨_,rfl⟩,rfl⟩
  ·exact BL TI _ D.t1 (hk TI _ D.t1 D.t3 (λq=>D.b5 (by simp[q])) (λq=>D.b6 (by simp[q])) hTI)
  ·obtain⟨o,q,r⟩:=s1.1;exact⟨o,BL j1 o (λq=>D.b1 (by simp[q])) q,r⟩
  ·obtain⟨o,q,r⟩:=s2.1;exact⟨o,BL j2 o (λq=>D.b2 (by simp[q])) q,r⟩
  ·rw[bH (Nat.ne_of_lt (lts b hb))];exact(hf b hb).1
 done:=by intro X hP hw hK hc i pins s σ H E I hf st hg;subst hP hw hK;obtain⟨hz,hTI,⟨a,b,hTO⟩,i1,i2⟩:=st;obtain⟨xs,ys,hx,hy,hi⟩:=hg;obtain⟨us,ru,pu,zu⟩:=I.tuple hx;obtain⟨vs,rv,pv,zv⟩:=I.tuple hy;have l1:=ru.length;have l2:=rv.length;have D1:Draws X.prog X.w X.A.in1 j1 [j1,a1] _ _ _:=rn (A:=X.A.in1) (show X.A.in1.handled=none from I.ok.hd hc) j1 a1 D.c1 us.toArray;have D2:Draws X.prog X.w X.A.in1 j2 [j2,a2] _ _ _:=rn (A:=X.A.in1) (show X.A.in1.handled=none from I.ok.hd hc) j2 a2 D.c2 vs.toArray;refine yP (A:=X.A) (k:=i) D.ap D1 D2 (by rw[List.size_toArray,List.size_toArray];omega) hz hTI hTO ⟨i1,pu⟩ ⟨i2,pv⟩ λg tk hk=>⟨rfl,I.Up (t':=tk) (ch:=[z,TI,TO,j1,j2]) hf λb o hb e=>?_⟩;exact hk b o (λq=>hb (by simp[q])) (λq=>hb (by simp[q])) (λq=>hb (by simp[q])) (λq=>hb (by simp[q])) e
 self:=λA i s Q E st h=>wpAny_pyIter_zip st.1 h
end L2
namespace ZT
open PySem PySem.Spec PyProof.Rows L2 PySem.Builtin
abbrev h1T(h:Heap)(l1:Addr):Heap:=h.push { cls:=.type "tuple_iterator",data:=.fields #[.ref l1,.int 0 0] }
abbrev h2T(h:Heap)(l1 l2:Addr):Heap:=(h1T h l1).push { cls:=.type "tuple_iterator",data:=.fields #[.ref l2,.int 0 0] }
abbrev h3T(h:Heap)(l1 l2:Addr):Heap:=(h2T h l1 l2).push { cls:=.type "tuple",data:=.seq #[.ref h.objs.size,.ref (h1T h l1).objs.size] }
abbrev h4T(h:Heap)(l1 l2:Addr):Heap:=(h3T h l1 l2).push { cls:=.type "tuple",data:=.seq #[.none,.none] }
abbrev h5T(h:Heap)(l1 l2:Addr):Heap:=(h4T h l1 l2).push { cls:=.type "zip",data:=.fields #[.none,.bool false,.bool false,.ref (h2T h l1 l2).objs.size,.ref (h3T h l1 l2).objs.size] }
def aaG(l1 l2:Addr)(xs ys:Array Value):Meets (Builtin.«zip.__new__» ⟨[.type "zip",.ref l1,.ref l2],[]⟩) (λ_ R s=>s.heap.IsTuple l1 xs/\s.heap.IsTuple l2 ys/\
   R (.ok (.ret (.ref (h4T s.heap l1 l2).objs.size))) { s with heap:=h5T s.heap l1 l2 }):=
 .of_wp λprog w A R s h=>by
  obtain⟨hp,g,d,tk,os⟩:=s;obtain⟨hl1,hl2,h⟩:=h;have hsub:=sub_zip;have hL1:Heap.IsTuple (Shared.heap ⟨hp,g,d,tk,os⟩) l1 xs:=hl1;have hL2:Heap.IsTuple (Shared.heap ⟨hp.push { cls:=.type "tuple_iterator",data:=.fields #[.ref l1,.int 0 0] },g,d,tk,os⟩) l2 ys:=Heap.IsTuple.push hl2 _
  wp_walk using wpAny_pyIter_tuple hL1,wpAny_pyIter_tuple hL2
  exact⟨_,rfl,h⟩
section
variable{prog:Program}{w:World}{A:Around}{E:Value->Shared->Prop}{s:Shared}
def WK{l1 l2:Addr}{xs ys:Array Value}{Q:Value->Shared->Prop}(hl1:s.heap.IsTuple l1 xs)(hl2:s.heap.IsTuple l2 ys)
  (h:∀g,IsZip g (s.heap.objs.size+4) (s.heap.objs.size+2) (s.heap.objs.size+3) .none->IsPair g (s.heap.objs.size+2) (.ref s.heap.objs.size) (.ref (s.heap.objs.size+1))->
   IsPair g (s.heap.objs.size+3) .none .none->g.IsTupleIter s.heap.objs.size l1 0->g.IsTupleIter (s.heap.objs.size+1) l2 0->g.objs.size=s.heap.objs.size+5->
   (∀c o,s.heap.get? c=some o->g.get? c=some o)->Q (.ref (s.heap.objs.size+4)) { s with heap:=g }) :
  wpAny (model prog w) A (call (.type "zip") [.ref l1,.ref l2]) Q E s:=by
 refine callType_new F.called_zip (by decide) (F.typeCall_zip_2 _ _) (F.newCall_zip_2 _ _) (λobj=>F.args_object_init_3 obj _ _) F.entry_zip_new (aaG l1 l2 xs ys) ⟨hl1,hl2,?_⟩;have z1:(h1T s.heap l1).objs.size=s.heap.objs.size+1:=Heap.size_push ..;have z2:(h2T s.heap l1 l2).objs.size=s.heap.objs.size+2:=by rw[Heap.size_push,z1]
 have z3:(h3T s.heap l1 l2).objs.size=s.heap.objs.size+3:=by rw[Heap.size_push,z2]
 have z4:(h4T s.heap l1 l2).objs.size=s.heap.objs.size+4:=by rw[Heap.size_push,z3]
 have z5:(h5T s.heap l1 l2).objs.size=s.heap.objs.size+5:=by rw[Heap.size_push,z4]
 have g5:(h5T s.heap l1 l2).get? (h4T s.heap l1 l2).objs.size=some _:=Heap.get?_push_size _ rfl;have g4:(h5T s.heap l1 l2).get? (h3T s.heap l1 l2).objs.size=some _:=Heap.get?_push_of_some _ (Heap.get?_push_size _ rfl);have g3:(h5T s.heap l1 l2).get? (h2T s.heap l1 l2).objs.size=some _:=Heap.get?_push_of_some _ (Heap.get?_push_of_some _ (Heap.get?_push_size _ rfl));have g2:(h5T s.heap l1 l2).get? (h1T s.heap l1).objs.size=some _:=Heap.get?_push_of_some _ (Heap.get?_push_of_some _ (Heap.get?_push_of_some _ (Heap.get?_push_size _ rfl)));have g1:(h5T s.heap l1 l2).get? s.heap.objs.size=some _:=Heap.get?_push_of_some _ (Heap.get?_push_of_some _ (Heap.get?_push_of_some _ (Heap.get?_push_of_some _ (Heap.get?_push_size _ rfl))));show _/\_;rw[z2,z3,z4] at g5;rw[z1,z2] at g3;rw[z3] at g4;rw[z1] at g2;rw[z4];exact⟨⟨_,g5,rfl⟩,h _ g5 g3 g4 ⟨_,g1,rfl,rfl⟩ ⟨_,g2,rfl,rfl⟩ z5 λc o x=>Heap.get?_push_of_some _ (Heap.get?_push_of_some _ (Heap.get?_push_of_some _ (Heap.get?_push_of_some _ (Heap.get?_push_of_some _ x))))⟩
end
end ZT
namespace L2
open PySem PySem.Spec PyProof.Rows PySem.Builtin ZT
section
variable{X:Cx}
def ah9(K:PySem.W.Frag)(ta:TA):TI:=λσ H R=>ta σ H λvs H1=>∃a1 a2,vs=[.ref a1,.ref a2]/\(∃xs,lB K H1 a1 xs)/\(∃ys,lB K H1 a2 ys)/\R (Itz K a1 a2) H1
def ZW{elts:List Expr}{k:Nat}{tp:Pos}{a b:Expr}{ta:TA}{p pos:Pos}(hg:Gl X "zip")(hm:X.mg "zip" = none)(ha:PA X [a,b] ta)(hs:starEach [a,b] X.env=(false,eval a X.env)::starEach [b] X.env:=by rfl)(hs2:starEach [b] X.env=[(false,eval b X.env)]:=by rfl):PI X (.Tuple elts k tp) (.Call (.Name "zip" p) [a,b] [] pos) (ah9 X.K ta):=by
 intro pins s σ H R I h;refine Call_ (wg I hg hm PyProof.Rows.boot_zip (PyProof.Rows.callWith_type1 (gr (ha pos pins s σ H _ I h) λus s1 ⟨vs,H1,I1,r1,q1⟩=>?_) hs (by rw[hs2];rfl)));obtain⟨a1,a2,e,⟨xs,hx⟩,⟨ys,hy⟩,q⟩:=q1;subst e;cases r1 with
 | cons r rr=>
  cases rr with
  | cons r' rr'=>
   cases rr';cases r;cases r';obtain⟨u1,ru1,p1,z1⟩:=I1.tuple hx;obtain⟨u2,ru2,p2,z2⟩:=I1.tuple hy;have lt1:a1<s1.heap.objs.size:=by obtain⟨_,e,_⟩:=p1;exact Heap.lt_size e
   have Xy:a2<s1.heap.objs.size:=by obtain⟨_,e,_⟩:=p2;exact Heap.lt_size e
   refine WK p1 p2 λg hz hTI hTO i1 i2 hsz hk=>?_;refine wpAny_pyIter_zip hz ?_;have I2:Inv X pins σ H1 { s1 with heap:=g }:=I1.kept (t':=s1.toks) hk;have own:∀b,s1.heap.objs.size<=b->vh X pins H1 b:=λb hb=>I1.abE hb (I1.hok.fresh hb);generalize hn:s1.heap.objs.size=n at *;have ne:∀{c d:Nat},c<d->(c:Addr)≠d:=λh e=>Nat.lt_irrefl _ (by subst e;exact h);have ne':∀{c d:Nat},d<c->(c:Addr)≠d:=λh e=>Nat.lt_irrefl _ (by subst e;exact h);have D:Apz (n+4) (n+2) (n+3) n (n+1) a1 a2:={
    t1:=ne (by omega),t2:=ne (by omega),t3:=ne (by omega),t4:=ne (by omega)
    b1:=by simp only[List.mem_cons,List.not_mem_nil,or_false,not_or];exact⟨ne' (by omega),ne' (Nat.lt_of_lt_of_le lt1 (by omega))⟩
    b2:=by simp only[List.mem_cons,List.not_mem_nil,or_false,not_or];exact⟨ne' (by omega),ne' (Nat.lt_of_lt_of_le Xy (by omega))⟩
    b3:=by simp only[List.mem_cons,List.not_mem_nil,or_false,not_or];exact⟨ne' (by omega),ne' (Nat.lt_of_lt_of_le lt1 (by omega))⟩
    b4:=by simp only[List.mem_cons,List.not_mem_nil,or_false,not_or];exact⟨ne' (by omega),ne' (Nat.lt_of_lt_of_le Xy (by omega))⟩
    b5:=by simp only[List.mem_cons,List.not_mem_nil,or_false,not_or];exact⟨ne' (by omega),ne' (Nat.lt_of_lt_of_le lt1 (by omega))⟩
    b6:=by simp only[List.mem_cons,List.not_mem_nil,or_false,not_or];exact⟨ne' (by omega),ne' (Nat.lt_of_lt_of_le Xy (by omega))⟩
    b7:=by simp only[List.mem_cons,List.not_mem_nil,or_false,not_or];exact⟨ne' (by omega),ne' (Nat.lt_of_lt_of_le lt1 (by omega))⟩
    b8:=by simp only[List.mem_cons,List.not_mem_nil,or_false,not_or];exact⟨ne (by omega),ne' Xy⟩
    c1:=ne lt1,c2:=ne (Nat.lt_of_lt_of_le Xy (by omega)) }
   refine⟨n+4,[n+4,n+2,n+3,n,n+1],_,_,H1,rfl,I2,O7 _ _ _ _ _ a1 a2 D,⟨hz,hTI,⟨_,_,hTO⟩,i1,i2⟩,λb hb=>own b ?_,q⟩;simp only[List.mem_cons,List.not_mem_nil,or_false] at hb;rcases hb with rfl|rfl|rfl|rfl|rfl
   ·exact Nat.le_add_right _ _
   ·exact Nat.le_add_right _ _
   ·exact Nat.le_add_right _ _
   ·exact Nat.le_refl _
   ·exact Nat.le_add_right _ _
end
end L2
namespace Ev
open PySem PySem.Spec PyProof.Rows L2 PySem.Builtin
section
variable{X:Cx}{C:Cfg}{pos:Pos}{e e2:Expr}
def tU(x y:List D):List D:=(x.zip y).map λp=>.tup [p.1,p.2]
def wZ(a:cV):cV:=λenv=>bindR (a env) λds aM=>match ds with
 | [.tup x,.tup y]=>.ok (tU x y) aM
 | _=>.stuck
theorem Di{K:Fg}{F:Hp}:∀{ds:List D} {vs:List V},bT K F ds vs->∀{i:Nat} {d:D},ds[i]? = some d->∃v,vs[i]? = some v/\Rep K F d v
 | [],vs,_,i,d,h=>by simp at h
 | x::ds,vs,r,i,d,h=>by
  obtain⟨v,w,rfl,p,q⟩:=r;cases i with
  | zero=>simp at h;subst h;exact⟨v,rfl,p⟩
  | succ i=>obtain⟨u,h1,h2⟩:=Di q (i:=i) (by simpa using h);exact⟨u,by simpa using h1,h2⟩
def aeH{elts:List Expr}{k:Nat}{tp p:Pos}{ea:cV}(G:Good X C)(hm:X.mg "zip" = none)(ha:Cr X C [e,e2] ea)(hg:Gl X "zip":=by rfl)(hs:starEach [e,e2] X.env=(false,eval e X.env)::starEach [e2] X.env:=by rfl)(hs2:starEach [e2] X.env=[(false,eval e2 X.env)]:=by rfl):Mf X C (.Tuple elts k tp) (.Call (.Name "zip" p) [e,e2] [] pos) (wZ ea):=by
 have h:=ZW (elts:=elts) (k:=k) (tp:=tp) (p:=p) (pos:=pos) hg hm ha hs hs2;rw[G.K] at h;refine h.imp λσ H R hq=>?_;obtain⟨Pr,F,env,env',ds,r,e,q⟩:=hq;obtain⟨as,aM,e1,e2⟩:=aW e;refine⟨Pr,F,env,aM,as,r,e1,λvs H1 F1 r1 s1 p1=>?_⟩;split at e2
 ·rename_i xs ys;cases e2;obtain⟨v,w,rfl,p2,v2,w2,rfl,p3,p4⟩:=p1;cases p4;obtain⟨z1,a1,us,rfl,h1,h2⟩:=p2;obtain⟨z2,a2,ws,rfl,h3,h4⟩:=p3;have l1:=h2.length;have l2:=h4.length;refine⟨a1,a2,rfl,⟨us,aQ.tupK r1.fr h1⟩,⟨ws,aQ.tupK r1.fr h3⟩,q _ H1 F1 r1 s1 λi H2 s2=>⟨λ_ ei=>⟨us,ws,aQ.tupK s2 h1,aQ.tupK s2 h3,?_⟩,λd hd=>?_⟩⟩
  ·have:(tU xs ys).length=min xs.length ys.length:=by unfold tU;rw[List.length_map,List.length_zip]
   omega
  ·unfold tU at hd;rw[List.getElem?_map] at hd;obtain⟨⟨c,j⟩,hc,rfl⟩:=Option.map_eq_some_iff.mp hd;obtain⟨g1,g2⟩:=List.getElem?_zip_eq_some.mp hc;obtain⟨v1,k1,k2⟩:=Di h2 g1;obtain⟨v2,k3,k4⟩:=Di h4 g2;refine⟨⟨us,ws,v1,v2,aQ.tupK s2 h1,aQ.tupK s2 h3,k1,k3⟩,λy H3 hy=>.inr ?_⟩;obtain⟨p,x',y',m1,m2,m3,rfl,rfl⟩:=hy;have n1:=m1 us (aQ.tupK s2 h1);have n2:=m2 ws (aQ.tupK s2 h3);rw[k1] at n1;rw[k3] at n2;cases n1;cases n2;exact⟨p,_,_,m3,rfl,rfl,rfl,by show 2<=sizeLine;decide,_,_,rfl,k2,_,_,rfl,k4,rfl⟩
 ·cases e2
end
end Ev
namespace L2
open PySem PySem.Spec PyProof.Rows PySem.Builtin
section
variable{X:Cx}
def Qq:List V->Hp->VK->Prop:=λxs H Q=>∃b:Bool,xs=[.bl b]/\Q (.int (if b then 1 else 0)) H
def Oc:jo X (.type "int") Qq:=by
 intro pins s σ H vs us Q I r h;obtain⟨b,rfl,q⟩:=h;cases r with
 | cons r rr=>
  cases rr;cases r;exact call_int_bool ⟨.int (if b then 1 else 0),H,I.tok _,⟨_,rfl⟩,q⟩
end
end L2
namespace Ev
open PySem PySem.Spec PyProof.Rows L2 PySem.Builtin
section
variable{X:Cx}{C:Cfg}{pos p:Pos}{e:Expr}{ea:cV}
def G8:List D->Option D
 | [.bl b]=>some (.int (if b then 1 else 0))
 | _=>none
def Wy:CallD C Qq G8:=by
 intro Pr F env σ H ds d vs Q r hs h q;unfold G8 at h;split at h
 ·rename_i b;cases h;obtain⟨v,rfl,hv⟩:=jL hs;exact⟨b,by rw[hv.bl],q _ H F r (aQ.refl F) rfl⟩
 ·cases h
def Yt(G:Good X C)(hm:X.mg "int" = none)(ha:rD X C [e] ea)(hg:Gl X "int":=by rfl)(he:xG e X.env:=by rfl):PX X C (.Call (.Name "int" p) [e] [] pos) (au G8 ea):=
 nJ (T:="int") (r:=Qq) Oc Wy hg hm (by decide +kernel) ha (by decide) (by decide) he rfl
end
end Ev
namespace L2
open PySem PySem.Spec PyProof.Rows PySem.Builtin
section
variable{X:Cx}
def Qn:R2:=λx y H Q=>∃(z:Str) (b:Bool),x = .str z/\y = .int (if b then 1 else 0)/\z.length<=sizeLine/\Q (.str (if b then z else ⟨#[]⟩)) H
def Rk:nu X (binaryOp .Mult) Qn:=by
 intro pins s σ H x y v u Q I rx ry h;obtain⟨z,b,rfl,rfl,hz,q⟩:=h;obtain⟨t,rfl⟩:=rx;obtain⟨t',rfl⟩:=ry;have hn:=vZ;cases b with
 | false=>
  refine PySem.P.mul_str (by decide) (λh _=>absurd (by decide) h) (λh _=>absurd (by decide) h) ?_;exact⟨by show 0<=sizeLine;decide,⟨.str ⟨#[]⟩,H,I.tok _,⟨_,rfl⟩,q⟩⟩
 | true=>
  refine PySem.P.mul_str (by decide) (λ_ h=>absurd h (by simp)) (λ_ h=>absurd h (by simp)) ?_;exact⟨.str z,H,I,⟨_,rfl⟩,q⟩
end
end L2
namespace Ev
open PySem PySem.Spec PyProof.Rows L2 PySem.Builtin
section
variable{X:Cx}{C:Cfg}
def DP:D->D->Option D
 | .str z,.int i=>if i=0 then some (.str []) else if i=1 then some (.str z) else none
 | _,_=>none
def Ro:pQ C Qn DP:=by
 intro Pr F env σ H x y d vx vy Q r px py e q;unfold DP at e;split at e
 ·rename_i z i;obtain⟨rfl,hz⟩:=px.str;cases py.int;split at e
  ·rename_i h0;cases e;subst h0;exact⟨strOf z,false,rfl,rfl,by rw[dY];exact hz,q _ H F r (aQ.refl F) ⟨rfl,Nat.zero_le _⟩⟩
  ·split at e
   ·rename_i h1;cases e;subst h1;exact⟨strOf z,true,rfl,rfl,by rw[dY];exact hz,q _ H F r (aQ.refl F) ⟨rfl,hz⟩⟩
   ·cases e
 ·cases e
def WN:Bi X C .Mult DP:=⟨_,Rk,Ro⟩
end
open PySem PySem.Spec PyProof.Rows L2
def ae5(f:List D->Option (D×D))(c:Ev)(a:cV):Ev:=λenv=>bindR (c env) λx aM=>bindR (a aM) λds dH=>match f (x::ds) with
 | some (d,_)=>.ok d dH
 | none=>.stuck
section
variable{X:Cx}{C:Cfg}{pos:Pos}{n:Str}
def Xh(i:Nat)(a:Ev):bW:=λenv=>match env[i]? with
 | some (some (true,.lst _))=>dD (a env) λd aM=>(match aM[i]?,d with
  | some (some (true,.lst xs)),.lst zs=>if xs.length+zs.length<=sizeLine then .nx (aM.set i (some (true,.lst (xs++zs)))) else .stuck
  | _,_=>.stuck)
 | _=>.stuck
end
end Ev
namespace SX
open PySem PySem.Spec PyProof.Rows L2 PySem.Builtin
def led(w:World):Bool:=!(w.params.followText "set-order")
structure TOk(P:Program)(w:World)(es:Array (Int×Value))(t:SetTable)(ys:List Str):Prop where
 el:ElemsOf (strKind P w) es.toList
 tx:∃ss:List Str,StrsAre (es.toList.map (·.2)) ss/\ss.Perm ys
 fit:t.fits es.size=true
 ld:t.led=led w
 pl:es.size≠0->t.plain=false
def J6(P:Program)(w:World)(h:Heap)(a:Addr)(ys:List Str):Prop:=
 ∃o es ep t,h.get? a=some o/\o.ExactSet/\o.data = .set es ep t/\TOk P w es t ys
open PySem PySem.Spec PyProof.Rows L2 PySem.Builtin Ev
def afs(P:Program)(w:World)(a:Addr)(ys:List Str):HO:=.ext λh=>J6 P w h a ys
def qR{x y:List Nat}(h:Ev.strOf x=Ev.strOf y):x=y:=by
 have:=congrArg (λs:Str=>s.cps.toList) h
 simpa[Ev.strOf] using this
end SX
namespace Ev
open PySem PySem.Spec PyProof.Rows L2 PySem.Builtin
section
variable{X:Cx}{C:Cfg}{pos:Pos}{x:Expr}{a:Ev}
structure PXL(X:Cx)(C:Cfg)(es:List Expr)(ev:cV):Prop where
 go:Cr X C es ev
def Vj:PXL X C [] ak:=⟨KC⟩
def QH{e:Expr}{es:List Expr}{a:Ev}{r:cV}(ha:PX X C e a)(hr:PXL X C es r)(hs:starEach (e::es) X.env=(false,eval e X.env)::starEach es X.env:=by rfl):PXL X C (e::es) (aa a r):=⟨Gi ha hr.go hs⟩
def aaL{es:List Expr}{a:cV}(h:PXL X C es a):J8 X C (.List es pos) (cC a):=Kz h.go
def aeY:D->Option D
 | .tup xs=>some (.tup xs.reverse)
 | _=>none
end
open PySem L2
def nr{α:Type}{a b:α}(h:a=b):a=b:=h
def bR{α β:Type}(a:α)(e:Env)(f:α->Env->R β):bindR (.ok a e) f=f a e:=nr rfl
def bO{α:Type}(a:α)(e:Env)(f:α->Env->Out):dD (.ok a e) f=f a e:=nr rfl
def lR{α:Type}(a:α)(e:Env):dX (some a) e = .ok a e:=nr rfl
def lO(e:Env):BK (some e) = .nx e:=nr rfl
def eF{α:Type}(_:Env):R α:=.stuck
def Pz(o:Out)(b:bW):Out:=match o with
 | .nx e=>b e
 | .rt o d e=>.rt o d e
 | .bk e=>.bk e
 | .ct e=>.ct e
 | .stuck=>.stuck
def afC(a b:bW)(env:Env):aC a b env=Pz (a env) b:=nr rfl
def sNx(e:Env)(b:bW):Pz (.nx e) b=b e:=nr rfl
def sRt(o:Bool)(d:D)(e:Env)(b:bW):Pz (.rt o d e) b = .rt o d e:=nr rfl
def sBk(e:Env)(b:bW):Pz (.bk e) b = .bk e:=nr rfl
def sCt(e:Env)(b:bW):Pz (.ct e) b = .ct e:=nr rfl
def K8{α:Type}(c:Bool)(a b:Env->α)(env:Env):α:=if c=true then a env else b env
def iT{α:Type}(a b:Env->α)(env:Env):K8 true a b env=a env:=nr rfl
def iF{α:Type}(a b:Env->α)(env:Env):K8 false a b env=b env:=nr rfl
def kIf{α:Type}(a b:Env->α)(c:Bool)(e:Env):α:=K8 c a b e
def ajP{α:Type}(a b:Env->α)(c:Bool)(e:Env):kIf a b c e=K8 c a b e:=nr rfl
def ag9(t:d8)(a b:bW)(env:Env):cY t a b env=dD (t env) (kIf a b):=nr rfl
def aiT(t:d8)(a b:Ev)(env:Env):Wk t a b env=bindR (t env) (kIf a b):=nr rfl
def okT(b:Bool):d8:=λe=>.ok b e
def ajv(b:Bool)(e:Env):okT b e = .ok b e:=nr rfl
def afa(a b:d8)(env:Env):fC a b env=bindR (a env) (kIf b (okT false)):=nr rfl
def agw(a b:d8)(env:Env):jX a b env=bindR (a env) (kIf (okT true) b):=nr rfl
def blR{α:Type}(d:D)(f:Bool->R α):R α:=match d with
 | .bl b=>f b
 | _=>.stuck
def bB{α:Type}(b:Bool)(f:Bool->R α):blR (.bl b) f=f b:=nr rfl
def okB(b:Bool):Ev:=λe=>.ok (.bl b) e
def ajw(b:Bool)(e:Env):okB b e = .ok (.bl b) e:=nr rfl
def GX(a b:Ev)(d:D)(e:Env):R D:=blR d (JF a b e)
where JF (a b:Ev) (e:Env) (c:Bool):R D:=K8 c a b e
def af1(a b:Ev)(d:D)(e:Env):GX a b d e=blR d (GX.JF a b e):=nr rfl
def aev(a b:Ev)(e:Env)(c:Bool):GX.JF a b e c=K8 c a b e:=nr rfl
def agD(a b:Ev)(env:Env):jY a b env=bindR (a env) (GX b (okB false)):=by
 unfold jY
 congr 1
 funext d e
 cases d with
 | bl b=>cases b<;>rfl
 | _=>rfl
def aiR(a b:Ev)(env:Env):lq a b env=bindR (a env) (GX (okB true) b):=by
 unfold lq
 congr 1
 funext d e
 cases d with
 | bl b=>cases b<;>rfl
 | _=>rfl
def RN(e:Env)(c:Bool):R D:=.ok (.bl (!c)) e
def aep(d:D)(e:Env):R D:=blR d (RN e)
def afT(e:Env)(c:Bool):RN e c = .ok (.bl (!c)) e:=nr rfl
def ahE(d:D)(e:Env):aep d e=blR d (RN e):=nr rfl
def agx(a:Ev)(env:Env):zB a env=bindR (a env) aep:=by
 unfold zB
 congr 1
def kB2(e:Env)(c:Bool):R Bool:=.ok c e
def kB(d:D)(e:Env):R Bool:=blR d (kB2 e)
def ajV(e:Env)(c:Bool):kB2 e c = .ok c e:=nr rfl
def alk(d:D)(e:Env):kB d e=blR d (kB2 e):=nr rfl
def akx(a:Ev)(env:Env):cP a env=bindR (a env) kB:=by
 unfold cP
 congr 1
def Jc{α:Type}(o:Option (Option (Bool×D)))(f:Bool->D->R α):R α:=match o with
 | some (some (o,d))=>f o d
 | _=>.stuck
def rS{α:Type}(o:Bool)(d:D)(f:Bool->D->R α):Jc (some (some (o,d))) f=f o d:=nr rfl
def kRd(env:Env)(_:Bool)(d:D):R D:=.ok d env
def ajK(env:Env)(o:Bool)(d:D):kRd env o d = .ok d env:=nr rfl
def aiQ(i:Nat)(env:Env):bf i env=Jc env[i]? (kRd env):=by unfold bf Jc;rfl
def ael(i:Nat)(env:Env)(o:Bool)(d:D):R D:=.ok d (bif o then env.set i (some (false,d)) else env)
def ahx(i:Nat)(env:Env)(o:Bool)(d:D):ael i env o d = .ok d (bif o then env.set i (some (false,d)) else env):=nr rfl
def agp(i:Nat)(env:Env):aP i env=Jc env[i]? (ael i env):=by
 unfold aP Jc;cases env[i]? with
 | none=>rfl
 | some o=>
  cases o with
  | none=>rfl
  | some p=>obtain⟨b,d⟩:=p;cases b<;>rfl
def JG(g:D->D->Option D)(y:D)(e:Env)(_:Bool)(x:D):R D:=dX (g x y) e
def JH(g:D->D->Option D)(i:Nat)(y:D)(e:Env):R D:=Jc e[i]? (JG g y e)
def XM(g:D->D->Option D)(i:Nat)(b:Ev)(env:Env)(_:Bool)(_:D):R D:=bindR (b env) (JH g i)
def aew(g:D->D->Option D)(y:D)(e:Env)(o:Bool)(x:D):JG g y e o x=dX (g x y) e:=nr rfl
def aex(g:D->D->Option D)(i:Nat)(y:D)(e:Env):JH g i y e=Jc e[i]? (JG g y e):=nr rfl
def af2(g:D->D->Option D)(i:Nat)(b:Ev)(env:Env)(o:Bool)(d:D):XM g i b env o d=bindR (b env) (JH g i):=nr rfl
def ae9(g:D->D->Option D)(i:Nat)(b:Ev)(env:Env):ao g i b env=Jc env[i]? (XM g i b env):=by unfold ao Jc;rfl
def ioR{α:Type}(o:Option (D×D))(f:D->D->R α):R α:=match o with
 | some (d,x)=>f d x
 | none=>.stuck
def oS{α:Type}(d x:D)(f:D->D->R α):ioR (some (d,x)) f=f d x:=nr rfl
def aa3(i:Nat)(e:Env)(d x':D):R D:=.ok d (e.set i (some (true,x')))
def aa4(f:List D->Option (D×D))(i:Nat)(x:D)(ds:List D)(e:Env):R D:=ioR (f (x::ds)) (aa3 i e)
def RV(f:List D->Option (D×D))(i:Nat)(ds:List D)(e:Env)(o:Bool)(x:D):R D:=K8 o (aa4 f i x ds) eF e
def aa5(f:List D->Option (D×D))(i:Nat)(ds:List D)(e:Env):R D:=Jc e[i]? (RV f i ds e)
def aa6(f:List D->Option (D×D))(i:Nat)(a:cV)(env:Env):R D:=bindR (a env) (aa5 f i)
def kIO(f:List D->Option (D×D))(i:Nat)(a:cV)(env:Env)(o:Bool)(_:D):R D:=K8 o (aa6 f i a) eF env
def ahK(i:Nat)(e:Env)(d x':D):aa3 i e d x' = .ok d (e.set i (some (true,x'))):=nr rfl
def ahL(f:List D->Option (D×D))(i:Nat)(x:D)(ds:List D)(e:Env):aa4 f i x ds e=ioR (f (x::ds)) (aa3 i e):=nr rfl
def ahM(f:List D->Option (D×D))(i:Nat)(ds:List D)(e:Env)(o:Bool)(x:D):RV f i ds e o x=K8 o (aa4 f i x ds) eF e:=nr rfl
def ahN(f:List D->Option (D×D))(i:Nat)(ds:List D)(e:Env):aa5 f i ds e=Jc e[i]? (RV f i ds e):=nr rfl
def ahO(f:List D->Option (D×D))(i:Nat)(a:cV)(env:Env):aa6 f i a env=bindR (a env) (aa5 f i):=nr rfl
def ajQ(f:List D->Option (D×D))(i:Nat)(a:cV)(env:Env)(o:Bool)(d:D):kIO f i a env o d=K8 o (aa6 f i a) eF env:=nr rfl
def aiU(f:List D->Option (D×D))(i:Nat)(a:cV)(env:Env):dC f i a env=Jc env[i]? (kIO f i a env):=by
 unfold dC Jc kIO K8;cases env[i]? with
 | none=>rfl
 | some o=>
  cases o with
  | none=>rfl
  | some p=>
   obtain⟨b,d⟩:=p;cases b with
   | false=>rfl
   | true=>
    show bindR (a env) _=bindR (a env) _
    congr 1
    funext ds e
    show _=Jc e[i]? (RV f i ds e);unfold Jc RV K8;cases e[i]? with
    | none=>rfl
    | some o=>
     cases o with
     | none=>rfl
     | some p=>obtain⟨b,d⟩:=p;cases b<;>rfl
def RQ(e:Env)(d _:D):R D:=.ok d e
def RT(f:List D->Option (D×D))(x:D)(ds:List D)(e:Env):R D:=ioR (f (x::ds)) (RQ e)
def aer(f:List D->Option (D×D))(a:cV)(x:D)(e:Env):R D:=bindR (a e) (RT f x)
def afU(e:Env)(d x:D):RQ e d x = .ok d e:=nr rfl
def afV(f:List D->Option (D×D))(x:D)(ds:List D)(e:Env):RT f x ds e=ioR (f (x::ds)) (RQ e):=nr rfl
def ahJ(f:List D->Option (D×D))(a:cV)(x:D)(e:Env):aer f a x e=bindR (a e) (RT f x):=nr rfl
def agB(f:List D->Option (D×D))(c:Ev)(a:cV)(env:Env):ae5 f c a env=bindR (c env) (aer f a):=nr rfl
def abn{α:Type}(d:D)(f:Int->R α):R α:=match d with
 | .int i=>f i
 | _=>.stuck
def nS{α:Type}(i:Int)(f:Int->R α):abn (.int i) f=f i:=nr rfl
def kP2(e:Env)(i:Int):R (Option Int):=.ok (some i) e
def kP(d:D)(e:Env):R (Option Int):=abn d (kP2 e)
def ajM(e:Env)(i:Int):kP2 e i = .ok (some i) e:=nr rfl
def ali(d:D)(e:Env):kP d e=abn d (kP2 e):=nr rfl
def aku(a:Ev)(env:Env):vo a env=bindR (a env) kP:=nr rfl
def obR{α:Type}(o:Option D)(f:Bool->R α):R α:=match o with
 | some (.bl k)=>f k
 | _=>.stuck
def obS{α:Type}(k:Bool)(f:Bool->R α):obR (some (.bl k)) f=f k:=nr rfl
def aba(g':D->D->Option D)(v t:D)(e:Env):R D:=dX (g' v t) e
def abb(g':D->D->Option D)(c:Ev)(v:D)(e:Env):R D:=bindR (c e) (aba g' v)
def R3(g':D->D->Option D)(c:Ev)(v:D)(e:Env)(k:Bool):R D:=K8 k (abb g' c v) (okB false) e
def abd(g g':D->D->Option D)(c:Ev)(u v:D)(e:Env):R D:=obR (g u v) (R3 g' c v e)
def kCh(g g':D->D->Option D)(b c:Ev)(u:D)(e:Env):R D:=bindR (b e) (abd g g' c u)
def ahY(g':D->D->Option D)(v t:D)(e:Env):aba g' v t e=dX (g' v t) e:=nr rfl
def ahZ(g':D->D->Option D)(c:Ev)(v:D)(e:Env):abb g' c v e=bindR (c e) (aba g' v):=nr rfl
def af0(g':D->D->Option D)(c:Ev)(v:D)(e:Env)(k:Bool):R3 g' c v e k=K8 k (abb g' c v) (okB false) e:=nr rfl
def ah0(g g':D->D->Option D)(c:Ev)(u v:D)(e:Env):abd g g' c u v e=obR (g u v) (R3 g' c v e):=nr rfl
def ajT(g g':D->D->Option D)(b c:Ev)(u:D)(e:Env):kCh g g' b c u e=bindR (b e) (abd g g' c u):=nr rfl
def acG(g g':D->D->Option D)(a b c:Ev)(env:Env):Lk g g' a b c env=bindR (a env) (kCh g g' b c):=by
 unfold Lk
 congr 1
def uC(o:Out)(k:bW):Out:=match o with
 | .nx e=>k e
 | .ct e=>k e
 | .bk e=>.nx e
 | .rt o d e=>.rt o d e
 | .stuck=>.stuck
def kNx(e:Env)(b:bW):uC (.nx e) b=b e:=nr rfl
def kRt(o:Bool)(d:D)(e:Env)(b:bW):uC (.rt o d e) b = .rt o d e:=nr rfl
def kBk(e:Env)(b:bW):uC (.bk e) b = .nx e:=nr rfl
def kCt(e:Env)(b:bW):uC (.ct e) b=b e:=nr rfl
def gvK(o:Option Env)(b:bW):Out:=match o with
 | none=>.stuck
 | some e=>b e
def vS(e:Env)(b:bW):gvK (some e) b=b e:=nr rfl
def kFor(g:GV)(b:bW)(ds:List D)(e:Env):Out:=uC (b e) (fM g b ds)
def ahQ(g:GV)(b:bW)(ds:List D)(e:Env):kFor g b ds e=uC (b e) (fM g b ds):=nr rfl
def aiL(g:GV)(b:bW)(env:Env):fM g b [] env = .nx env:=nr rfl
def aiM(g:GV)(b:bW)(d:D)(ds:List D)(env:Env):fM g b (d::ds) env=gvK (g d env) (kFor g b ds):=by
 rw[fM];cases g d env with
 | none=>rfl
 | some e=>
  show(match b e with|.nx e2=>fM g b ds e2|.ct e2=>fM g b ds e2|.bk e2=>.nx e2|.rt o d e2=>.rt o d e2|.stuck=>.stuck)=uC (b e) (fM g b ds);cases b e<;>rfl
def kWh(t:d8)(b:bW)(n:Nat):bW:=λe=>uC (b e) (dU t b n)
def ajH(t:d8)(b:bW)(n:Nat)(e:Env):kWh t b n e=uC (b e) (dU t b n):=nr rfl
def gvR{α:Type}(o:Option Env)(b:Env->R α):R α:=match o with
 | none=>.stuck
 | some e=>b e
def wS{α:Type}(e:Env)(b:Env->R α):gvR (some e) b=b e:=nr rfl
def aaZ(y:D)(ys:List D)(e:Env):R (List D):=.ok (y::ys) e
def aa0(g:GV)(c:d8)(el:Ev)(ds:List D)(y:D)(e:Env):R (List D):=bindR (Ac g c el ds e) (aaZ y)
def aa1(g:GV)(c:d8)(el:Ev)(ds:List D)(e:Env):R (List D):=bindR (el e) (aa0 g c el ds)
def kLc(g:GV)(c:d8)(el:Ev)(ds:List D)(e:Env):R (List D):=bindR (c e) (kIf (aa1 g c el ds) (Ac g c el ds))
def ahG(y:D)(ys:List D)(e:Env):aaZ y ys e = .ok (y::ys) e:=nr rfl
def ahH(g:GV)(c:d8)(el:Ev)(ds:List D)(y:D)(e:Env):aa0 g c el ds y e=bindR (Ac g c el ds e) (aaZ y):=nr rfl
def ahI(g:GV)(c:d8)(el:Ev)(ds:List D)(e:Env):aa1 g c el ds e=bindR (el e) (aa0 g c el ds):=nr rfl
def ajN(g:GV)(c:d8)(el:Ev)(ds:List D)(e:Env):kLc g c el ds e=bindR (c e) (kIf (aa1 g c el ds) (Ac g c el ds)):=nr rfl
def ajE(g:GV)(c:d8)(e:Ev)(env:Env):Ac g c e [] env = .ok [] env:=nr rfl
def ajF(g:GV)(c:d8)(e:Ev)(d:D)(ds:List D)(env:Env):Ac g c e (d::ds) env=gvR (g d env) (kLc g c e ds):=by rw[Ac];cases g d env<;>rfl
def Zc(o:Out):Option D:=match o with
 | .rt false d _=>some d
 | .nx _=>some .non
 | _=>none
def ahe(n:Nat)(ev:bW)(ds:List D):cQ n ev ds=Zc (ev (envOf n ds)):=nr rfl
def dRt(d:D)(e:Env):Zc (.rt false d e)=some d:=nr rfl
def dNx(e:Env):Zc (.nx e)=some .non:=nr rfl
def szR{α:Type}(n:Nat)(x:R α):R α:=if n<=sizeLine then x else .stuck
def zR{α:Type}{n:Nat}{x:R α}(h:n<=sizeLine):szR n x=x:=if_pos h
def aem(ds:List D)(e:Env):R D:=szR ds.length (.ok (.tup ds) e)
def ahy(ds:List D)(e:Env):aem ds e=szR ds.length (.ok (.tup ds) e):=nr rfl
def agq(r:cV)(env:Env):bV r env=bindR (r env) aem:=nr rfl
def aeq(ds:List D)(e:Env):R D:=szR ds.length (.ok (.lst ds) e)
def ahF(ds:List D)(e:Env):aeq ds e=szR ds.length (.ok (.lst ds) e):=nr rfl
def agA(r:cV)(env:Env):cC r env=bindR (r env) aeq:=nr rfl
def Ub(o:Option (Option (Bool×D)))(f:List D->Out):Out:=match o with
 | some (some (true,.lst xs))=>f xs
 | _=>.stuck
def lS(xs:List D)(f:List D->Out):Ub (some (some (true,.lst xs))) f=f xs:=nr rfl
def YZ(n:Nat)(x:Out):Out:=if n<=sizeLine then x else .stuck
def zO{n:Nat}{x:Out}(h:n<=sizeLine):YZ n x=x:=if_pos h
def R5(i:Nat)(d:D)(e:Env)(xs:List D):Out:=YZ (xs.length+1) (.nx (e.set i (some (true,.lst (xs++[d])))))
def R6(i:Nat)(d:D)(e:Env):Out:=Ub e[i]? (R5 i d e)
def aeA(i:Nat)(a:Ev)(env:Env)(_:List D):Out:=dD (a env) (R6 i)
def af4(i:Nat)(d:D)(e:Env)(xs:List D):R5 i d e xs=YZ (xs.length+1) (.nx (e.set i (some (true,.lst (xs++[d]))))):=nr rfl
def af5(i:Nat)(d:D)(e:Env):R6 i d e=Ub e[i]? (R5 i d e):=nr rfl
def ah4(i:Nat)(a:Ev)(env:Env)(xs:List D):aeA i a env xs=dD (a env) (R6 i):=nr rfl
def afI(i:Nat)(a:Ev)(env:Env):gG i a env=Ub env[i]? (aeA i a env):=nr rfl
def ldO(d:D)(f:List D->Out):Out:=match d with
 | .lst xs=>f xs
 | _=>.stuck
def eS(xs:List D)(f:List D->Out):ldO (.lst xs) f=f xs:=nr rfl
def RW(i:Nat)(e:Env)(xs zs:List D):Out:=YZ (xs.length+zs.length) (.nx (e.set i (some (true,.lst (xs++zs)))))
def GR(i:Nat)(d:D)(e:Env)(xs:List D):Out:=ldO d (RW i e xs)
def RX(i:Nat)(d:D)(e:Env):Out:=Ub e[i]? (GR i d e)
def aa7(i:Nat)(a:Ev)(env:Env)(_:List D):Out:=dD (a env) (RX i)
def afW(i:Nat)(e:Env)(xs zs:List D):RW i e xs zs=YZ (xs.length+zs.length) (.nx (e.set i (some (true,.lst (xs++zs))))):=nr rfl
def afX(i:Nat)(d:D)(e:Env)(xs:List D):GR i d e xs=ldO d (RW i e xs):=nr rfl
def afY(i:Nat)(d:D)(e:Env):RX i d e=Ub e[i]? (GR i d e):=nr rfl
def ahR(i:Nat)(a:Ev)(env:Env)(xs:List D):aa7 i a env xs=dD (a env) (RX i):=nr rfl
def afG(i:Nat)(a:Ev)(env:Env):Xh i a env=Ub env[i]? (aa7 i a env):=by
 unfold Xh Ub aa7;cases env[i]? with
 | none=>rfl
 | some o=>
  cases o with
  | none=>rfl
  | some p=>
   obtain⟨b,d⟩:=p;cases b with
   | false=>rfl
   | true=>
    cases d with
    | lst xs=>
     show dD (a env) _=dD (a env) _
     congr 1
     funext d e
     show _=Ub e[i]? (GR i d e);unfold Ub GR;cases e[i]? with
     | none=>rfl
     | some o=>
      cases o with
      | none=>rfl
      | some p=>
       obtain⟨b,u⟩:=p;cases b with
       | false=>rfl
       | true=>
        cases u with
        | lst ys=>cases d<;>rfl
        | _=>rfl
    | _=>rfl
def agl{a b:List Nat}(h:a.length+b.length<=sizeLine):cB (.str a) (.str b)=some (.str (a++b)):=if_pos h
def agk{a b:List D}(h:a.length+b.length<=sizeLine):cB (.tup a) (.tup b)=some (.tup (a++b)):=if_pos h
def agm{a b:List D}(h:a.length+b.length<=sizeLine):cB (.lst a) (.lst b)=some (.lst (a++b)):=if_pos h
def agj{a b:List D}(h:a.length+b.length<=sizeLine):aiJ (.lst a) (.lst b)=some (.lst (a++b)):=if_pos h
def ake(xs:List D)(lo hi:Option Int):gSl (.lst xs) lo hi=some (.lst (cutD xs lo hi)):=nr rfl
def akf(xs:List D)(lo hi:Option Int):gSl (.arr xs) lo hi=some (.lst (cutD xs lo hi)):=nr rfl
def aiw(x:List Nat)(lo hi:Option Int):abx (.str x) lo hi=some (.str (cutD x lo hi)):=nr rfl
def aiB(x:List Nat):aby (.str x)=some (.str x.reverse):=nr rfl
def agf(x:List D):aeY (.tup x)=some (.tup x.reverse):=nr rfl
def ajZ(xs:List D):XN (.lst xs)=some xs:=nr rfl
def aj0(xs:List D):XN (.arr xs)=some xs:=nr rfl
def ajX(xs:List D):XN (.tup xs)=some xs:=nr rfl
def ajY(x:List Nat):XN (.str x)=some (pP x):=nr rfl
def SM(xs:List D)(lo hi:Option Int):SN (.tup xs) lo hi=some (.tup (cutD xs lo hi)):=by
 show(if HT.fU xs.length 0 lo=0/\HT.fU xs.length xs.length hi=xs.length then some (D.tup xs) else some (D.tup (cutD xs lo hi)))=_;split
 ·rename_i h;unfold cutD;rw[h.1,h.2];simp
 ·rfl
def akl(xs:List D)(k:Int):bY (.tup xs) (.int k)=pR xs k:=nr rfl
def akn(xs:List D)(k:Int):bY (.lst xs) (.int k)=pR xs k:=nr rfl
def akm(x:List Nat)(k:Int):bY (.str x) (.int k)=(pR x k).map λc=>.str [c]:=nr rfl
def at0{α:Type}(x:α)(r:List α):pR (x::r) 0=some x:=iJ (j:=0) rfl
def at1{α:Type}(x y:α)(r:List α):pR (x::y::r) 1=some y:=iJ (j:=1) rfl
def at2{α:Type}(x y z:α)(r:List α):pR (x::y::z::r) 2=some z:=iJ (j:=2) rfl
def at3{α:Type}(x y z u:α)(r:List α):pR (x::y::z::u::r) 3=some u:=iJ (j:=3) rfl
def aiK(i j:Int):cB (.int i) (.int j)=some (.int (i+j)):=nr rfl
def aiF(x:List Nat):gU [.str x]=some (.int x.length):=nr rfl
def aiE(x:List D):gU [.tup x]=some (.int x.length):=nr rfl
def aiG(x:List D):gU [.lst x]=some (.int x.length):=nr rfl
def aiH(x:List D):gU [.arr x]=some (.int x.length):=nr rfl
def aeX(x:List D):dG [.lst x]=some (.tup x):=nr rfl
def aeW(x:List D):dG [.tup x]=some (.tup x):=nr rfl
def agg(x:List D):qD [.tup x]=some (.lst x):=nr rfl
def agi(x:List D):qD [.lst x]=some (.lst x):=nr rfl
def agh(x:List Nat):qD [.str x]=some (.lst (signs x)):=nr rfl
def akr(a b:List Nat):j4 (.str a) (.str b)=some (.bl (a == b)):=nr rfl
def akg(a b:List Nat):qC (.str a) (.str b)=some (.bl (!(a == b))):=nr rfl
def aks(a b:Int):j4 (.int a) (.int b)=some (.bl (a == b)):=nr rfl
def akh(a b:Int):qC (.int a) (.int b)=some (.bl (!(a == b))):=nr rfl
def akk(a b:Int):gLe (.int a) (.int b)=some (.bl (decide (a<=b))):=nr rfl
def akj(a b:Int):Ud (.int a) (.int b)=some (.bl (decide (a<b))):=nr rfl
def akp(a b:Int):gGt (.int a) (.int b)=some (.bl (decide (b<a))):=nr rfl
def akq(a b:Int):gGe (.int a) (.int b)=some (.bl (decide (b<=a))):=nr rfl
def aki(a b:List Nat):Ud (.str a) (.str b)=some (.bl (decide (a<b))):=nr rfl
def aiv(a b:Int):qz (.int a) (.int b)=some (.int (a - b)):=nr rfl
def ako(c:Nat)(z:List Nat):gIn (.str [c]) (.str z)=some (.bl (decide (c∈z))):=nr rfl
theorem afn{α:Type}(p:α->Bool):∀l:List α,qL (l.map λa=>D.bl (p a))=some (l.map p)
 | []=>rfl
 | a::l=>by
  rw[List.map_cons];unfold qL;rw[afn p l]
  rfl
def ae1{α:Type}(p:α->Bool)(l:List α):Hd [.lst (l.map λa=>D.bl (p a))]=some (.bl (l.all p)):=by show(qL _).map _=_;rw[afn];simp[List.all_map]
def ahp:D->Bool
 | .clo _ _=>false
 | _=>true
def aiI(T:String)(d:D)(h:ahp d=true):JN T d=some (.bl (uG d T)):=by cases d<;>first|rfl|cases h
def alP(n:Nat)(gs:Mg)(xs:List D)(env:Env)(h:xs.length=n):cJ n gs (.tup xs) env=gs xs env:=if_pos h
def gvB(o:Option Env)(f:Env->Option Env):Option Env:=o.bind f
def gB(e:Env)(f:Env->Option Env):gvB (some e) f=f e:=nr rfl
def aeT(g:GV)(gs:Mg)(d:D)(ds:List D)(env:Env):aG g gs (d::ds) env=gvB (g d env) (gs ds):=nr rfl
def age(env:Env):cN [] env=some env:=nr rfl
def aeo(d:D)(e:Env):Out:=.rt false d e
def ahB(d:D)(e:Env):aeo d e = .rt false d e:=nr rfl
def afD(a:Ev)(env:Env):bA a env=dD (a env) aeo:=nr rfl
def adb(env:Env):Y5 env = .rt false .non env:=nr rfl
def aez(g:GV)(d:D)(e:Env):Out:=BK (g d e)
def ah3(g:GV)(d:D)(e:Env):aez g d e=BK (g d e):=nr rfl
def afH(a:Ev)(g:GV)(env:Env):aJ a g env=dD (a env) (aez g):=nr rfl
def kOwn(i:Nat)(d:D)(e:Env):Out:=.nx (e.set i (some (true,d)))
def ahD(i:Nat)(d:D)(e:Env):kOwn i d e = .nx (e.set i (some (true,d))):=nr rfl
def afE(i:Nat)(a:Ev)(env:Env):dq i a env=dD (a env) (kOwn i):=nr rfl
def ade(env:Env):bN env = .nx env:=nr rfl
def afF(it:cV)(g:GV)(b:bW)(env:Env):fY it g b env=dD (it env) (fM g b):=nr rfl
def akv(d:D)(env:Env):jg d env = .ok d env:=nr rfl
def ae6(env:Env):zE env = .ok (.dct []) env:=nr rfl
def agz(env:Env):ak env = .ok [] env:=nr rfl
def ae2(env:Env):fP env = .ok true env:=nr rfl
def agy(env:Env):kO env = .ok none env:=nr rfl
def JD(d:D)(ds:List D)(e:Env):R (List D):=.ok (d::ds) e
def XJ(r:cV)(d:D)(e:Env):R (List D):=bindR (r e) (JD d)
def aeu(d:D)(ds:List D)(e:Env):JD d ds e = .ok (d::ds) e:=nr rfl
def afZ(r:cV)(d:D)(e:Env):XJ r d e=bindR (r e) (JD d):=nr rfl
def ae7(a:Ev)(r:cV)(env:Env):aa a r env=bindR (a env) (XJ r):=nr rfl
def R4(g:D->D->Option D)(x y:D)(e:Env):R D:=dX (g x y) e
def aey(g:D->D->Option D)(b:Ev)(x:D)(e:Env):R D:=bindR (b e) (R4 g x)
def af3(g:D->D->Option D)(x y:D)(e:Env):R4 g x y e=dX (g x y) e:=nr rfl
def ah1(g:D->D->Option D)(b:Ev)(x:D)(e:Env):aey g b x e=bindR (b e) (R4 g x):=nr rfl
def agC(g:D->D->Option D)(a b:Ev)(env:Env):aH g a b env=bindR (a env) (aey g b):=nr rfl
def kUn{α β:Type}(g:α->Option β)(x:α)(e:Env):R β:=dX (g x) e
def ajI{α β:Type}(g:α->Option β)(x:α)(e:Env):kUn g x e=dX (g x) e:=nr rfl
def aiO(g:D->Option D)(a:Ev)(env:Env):uJ g a env=bindR (a env) (kUn g):=nr rfl
def ae8(g:List D->Option D)(a:cV)(env:Env):au g a env=bindR (a env) (kUn g):=nr rfl
def XH(b:Bool)(e:Env):R Bool:=.ok (!b) e
def afS(b:Bool)(e:Env):XH b e = .ok (!b) e:=nr rfl
def ae4(a:d8)(env:Env):qH a env=bindR (a env) XH:=nr rfl
def aaX(s:D->Option Int->Option Int->Option D)(d:D)(l u:Option Int)(e:Env):R D:=dX (s d l u) e
def aaY(s:D->Option Int->Option Int->Option D)(hi:yx)(d:D)(l:Option Int)(e:Env):R D:=bindR (hi e) (aaX s d l)
def kSl(s:D->Option Int->Option Int->Option D)(lo hi:yx)(d:D)(e:Env):R D:=bindR (lo e) (aaY s hi d)
def ahz(s:D->Option Int->Option Int->Option D)(d:D)(l u:Option Int)(e:Env):aaX s d l u e=dX (s d l u) e:=nr rfl
def ahA(s:D->Option Int->Option Int->Option D)(hi:yx)(d:D)(l:Option Int)(e:Env):aaY s hi d l e=bindR (hi e) (aaX s d l):=nr rfl
def ajJ(s:D->Option Int->Option Int->Option D)(lo hi:yx)(d:D)(e:Env):kSl s lo hi d e=bindR (lo e) (aaY s hi d):=nr rfl
def aiP(a:Ev)(lo hi:yx)(env:Env):uL a lo hi env=bindR (a env) (kSl gSl lo hi):=nr rfl
def ags(a:Ev)(lo hi:yx)(env:Env):uK a lo hi env=bindR (a env) (kSl abx lo hi):=nr rfl
def agr(a:Ev)(lo hi:yx)(env:Env):ae3 a lo hi env=bindR (a env) (kSl SN lo hi):=nr rfl
def agv(a:Ev)(env:Env):rJ a env=bindR (a env) (kUn aby):=nr rfl
def aiS(a:Ev)(env:Env):ik a env=bindR (a env) (kUn XN):=nr rfl
def agu(a:cV)(env:Env):iK a env=bindR (a env) (kUn Aq):=nr rfl
def aeS(i:Nat)(d:D)(env:Env):aj i d env=some (env.set i (some (false,d))):=nr rfl
def gt0{α:Type}(a:α)(l:List α):(a::l)[0]? = some a:=nr rfl
def gtS{α:Type}(a:α)(l:List α)(i:Nat):(a::l)[i+1]? = l[i]?:=nr rfl
def st0{α:Type}(a b:α)(l:List α):(a::l).set 0 b=b::l:=nr rfl
def stS{α:Type}(a b:α)(l:List α)(i:Nat):(a::l).set (i+1) b=a::l.set i b:=nr rfl
def cdT{α:Type}(a b:α):(bif true then a else b)=a:=nr rfl
def cdF{α:Type}(a b:α):(bif false then a else b)=b:=nr rfl
theorem XC{α:Type}{g:GV}{c:d8}{e:Ev}(enc:α->D)(ext:α->Env)(p:α->Bool)(out:α->D)(env:Env)(k:Nat):∀(l:List α) (vs:Env),vs.length=k->
  (∀a∈l,(ext a).length=k/\(∀vs:Env,vs.length=k->g (enc a) (env++vs)=some (env++ext a))/\c (env++ext a) = .ok (p a) (env++ext a)/\(p a=true->e (env++ext a) = .ok (out a) (env++ext a)))->
  ∃vs',vs'.length=k/\Ac g c e (l.map enc) (env++vs) = .ok ((l.filter p).map out) (env++vs')
 | [],vs,hv,_=>⟨vs,hv,rfl⟩
 | a::l,vs,hv,h=>by
  obtain⟨h1,h2,h3,h4⟩:=h a List.mem_cons_self;obtain⟨vs',h5,h6⟩:=XC enc ext p out env k l (ext a) h1 λb hb=>h b (List.mem_cons_of_mem _ hb);refine⟨vs',h5,?_⟩;rw[List.map_cons];unfold Ac;rw[h2 vs hv];show bindR (c (env++ext a)) _=_;rw[h3,bR];cases hp:p a with
  | true=>rw[if_pos rfl,h4 hp,bR,h6,bR,List.filter_cons_of_pos hp,List.map_cons]
  | false=>rw[if_neg Bool.false_ne_true,h6,List.filter_cons_of_neg (by rw[hp];exact Bool.false_ne_true)]
def abL{α:Type}{lo n:Nat}{it:cV}{g:GV}{c:d8}{e:Ev}{env aM:Env}(l:List α)(enc:α->D)(ext:α->Env)(p:α->Bool)(out:α->D)(hit:it env = .ok (l.map enc) aM)(hlo:aM.length=lo)
  (h:∀a∈l,(ext a).length=n - lo/\(∀vs:Env,vs.length=n - lo->g (enc a) (aM++vs)=some (aM++ext a))/\c (aM++ext a) = .ok (p a) (aM++ext a)/\(p a=true->e (aM++ext a) = .ok (out a) (aM++ext a)))
  (hz:l.length<=sizeLine):iD lo n it g c e env = .ok (.lst ((l.filter p).map out)) aM:=by
 obtain⟨vs',h5,h6⟩:=XC enc ext p out aM (n - lo) l (List.replicate (n - lo) none) List.length_replicate h;have:=uM hit hlo h6 (Nat.le_trans (by rw[List.length_map];exact List.length_filter_le _ _) hz);rw[this,<-hlo,List.take_left]
def S9{α:Type}{lo n:Nat}{it:cV}{e:Ev}{env aM:Env}(l:List α)(enc:α->D)(out:α->D)(hit:it env = .ok (l.map enc) aM)(hlo:aM.length=lo)(hn:n=lo+1)
  (h:∀a∈l,e (aM++[some (false,enc a)]) = .ok (out a) (aM++[some (false,enc a)])) (hz:l.length<=sizeLine):iD lo n it (aj lo) fP e env = .ok (.lst (l.map out)) aM:=by
 subst hn hlo;have:=abL (lo:=aM.length) (n:=aM.length+1) (it:=it) (g:=aj aM.length) (c:=fP) (e:=e) (env:=env) l enc (λa=>[some (false,enc a)]) (λ_=>true) out hit rfl (λa ha=>⟨by simp,λvs hv=>?_,rfl,λ_=>h a ha⟩) hz
 ·rw[this,List.filter_eq_self.mpr (λ_ _=>rfl)]
 ·have hv:vs.length=1:=by omega
  obtain⟨v,rfl⟩:=List.length_eq_one_iff.mp hv;unfold aj;rw[List.set_append_right _ _ (Nat.le_refl _),Nat.sub_self]
  rfl
open PySem PySem.Spec PyProof.Rows L2
section
variable{X:Cx}{C:Cfg}
def nc0:((0:Nat):Int)=0:=nr rfl
def nc1:((1:Nat):Int)=1:=nr rfl
def nc2:((2:Nat):Int)=2:=nr rfl
def nc3:((3:Nat):Int)=3:=nr rfl
def nc4:((4:Nat):Int)=4:=nr rfl
def nc5:((5:Nat):Int)=5:=nr rfl
def nc6:((6:Nat):Int)=6:=nr rfl
def nc7:((7:Nat):Int)=7:=nr rfl
def nc8:((8:Nat):Int)=8:=nr rfl
end
def Qf(o:Out):Option (D×D):=match o with
 | .rt false d env=>(match env[0]? with
  | some (some (true,x'))=>some (d,x')
  | _=>none)
 | .nx env=>(match env[0]? with
  | some (some (true,x'))=>some (.non,x')
  | _=>none)
 | _=>none
def afM(n:Nat)(ev:bW)(x:D)(r:List D):jF n ev (x::r)=Qf (ev (xg n x r)):=nr rfl
def alo(d x:D)(e:Env):Qf (.rt false d (some (true,x)::e))=some (d,x):=nr rfl
def alp(x:D)(e:Env):Qf (.nx (some (true,x)::e))=some (.non,x):=nr rfl
def adt(o:Out):Option D:=match o with
 | .rt true d _=>some d
 | _=>none
def ahf(n:Nat)(ev:bW)(ds:List D):runN n ev ds=adt (ev (envOf n ds)):=nr rfl
def nRt(d:D)(e:Env):adt (.rt true d e)=some d:=nr rfl
def XF(d:D)(e:Env):Out:=.rt true d e
def afR(d:D)(e:Env):XF d e = .rt true d e:=nr rfl
def Y4(a:Ev)(env:Env):pW a env=dD (a env) XF:=nr rfl
def U0(o:Option (Option (Bool×D)))(f:Bool->D->Out):Out:=match o with
 | some (some (o,d))=>f o d
 | _=>.stuck
def pS(o:Bool)(d:D)(f:Bool->D->Out):U0 (some (some (o,d))) f=f o d:=nr rfl
def dcO(o:Bool)(d:D)(f:List (D×D)->Out):Out:=match o,d with
 | true,.dct kvs=>f kvs
 | _,_=>.stuck
def cS(kvs:List (D×D))(f:List (D×D)->Out):dcO true (.dct kvs) f=f kvs:=nr rfl
def kyO(d:D)(f:Key->Out):Out:=match nQ d with
 | some q=>f q
 | none=>.stuck
def alh(z:List Nat)(f:Key->Out):kyO (.str z) f=f (.inr (strOf z)):=nr rfl
def alj(i:Int)(f:Key->Out):kyO (.int i) f=f (.inl i):=nr rfl
def aa8(i:Nat)(d kd:D)(e:Env)(kvs:List (D×D))(q:Key):Out:=YZ (kvs.length+1) (.nx (e.set i (some (true,.dct (putD kvs kd q d)))))
def V9(i:Nat)(d kd:D)(e:Env)(kvs:List (D×D)):Out:=kyO kd (aa8 i d kd e kvs)
def RZ(i:Nat)(d kd:D)(e:Env)(o:Bool)(x:D):Out:=dcO o x (V9 i d kd e)
def aa9(i:Nat)(d kd:D)(e:Env):Out:=U0 e[i]? (RZ i d kd e)
def R0(i:Nat)(k:Ev)(d:D)(e:Env)(_:Bool)(_:D):Out:=dD (k e) (aa9 i d)
def kDp(i:Nat)(k:Ev)(d:D)(e:Env):Out:=U0 e[i]? (R0 i k d e)
def ahT(i:Nat)(d kd:D)(e:Env)(kvs:List (D×D))(q:Key):aa8 i d kd e kvs q=YZ (kvs.length+1) (.nx (e.set i (some (true,.dct (putD kvs kd q d))))):=nr rfl
def ahU(i:Nat)(d kd:D)(e:Env)(kvs:List (D×D)):V9 i d kd e kvs=kyO kd (aa8 i d kd e kvs):=nr rfl
def ahV(i:Nat)(d kd:D)(e:Env)(o:Bool)(x:D):RZ i d kd e o x=dcO o x (V9 i d kd e):=nr rfl
def ahW(i:Nat)(d kd:D)(e:Env):aa9 i d kd e=U0 e[i]? (RZ i d kd e):=nr rfl
def ahX(i:Nat)(k:Ev)(d:D)(e:Env)(o:Bool)(x:D):R0 i k d e o x=dD (k e) (aa9 i d):=nr rfl
def ajR(i:Nat)(k:Ev)(d:D)(e:Env):kDp i k d e=U0 e[i]? (R0 i k d e):=nr rfl
def adf(i:Nat)(k a:Ev)(env:Env):mX i k a env=dD (a env) (kDp i k):=by
 unfold mX
 congr 1
 funext d e1
 show _=U0 e1[i]? (R0 i k d e1);unfold U0 R0;cases e1[i]? with
 | none=>rfl
 | some o=>
  cases o with
  | none=>rfl
  | some p=>
   obtain⟨b,x⟩:=p;show dD (k e1) _=dD (k e1) _
   congr 1
   funext kd e2
   show _=U0 e2[i]? (RZ i d kd e2);unfold U0 RZ dcO V9;cases e2[i]? with
   | none=>rfl
   | some o=>
    cases o with
    | none=>rfl
    | some p=>
     obtain⟨b,u⟩:=p;cases b with
     | false=>rfl
     | true=>
      cases u with
      | dct kvs=>
       show _=kyO kd _;unfold kyO;cases nQ kd<;>rfl
      | _=>rfl
section
variable{X:Cx}{C:Cfg}{pos:Pos}{x:Expr}{a:Ev}
def NB:D->Option Int->Option Int->Option D
 | .str z,lo,hi=>some (.str (cutD z lo hi))
 | .tup xs,lo,hi=>some (.tup (cutD xs lo hi))
 | .lst xs,lo,hi=>some (.lst (cutD xs lo hi))
 | .arr xs,lo,hi=>some (.lst (cutD xs lo hi))
 | _,_,_=>none
def xf(a:Ev)(lo hi:yx):Ev:=λenv=>bindR (a env) λd aM=>bindR (lo aM) λl dH=>bindR (hi dH) λu zH=>dX (NB d l u) zH
def acP{lo hi:Option Expr}{el eh:yx}{p2:Pos}(G:Good X C)(ha:PX X C x a)(hl:T5 X C lo el)(hh:T5 X C hi eh):PX X C (.Subscript x (.Slice lo hi none p2) pos) (xf a el eh):=by
 have h:=yR (pos:=pos) (p2:=p2) (LK.or (LK.or Kw IK) (LK.or (LK.or IK Pk) Pn)) ha hl hh;rw[G.K] at h;refine h.imp λσ H Q hq=>?_;obtain⟨Pr,F,env,env',d,r,e,q⟩:=hq;obtain⟨x,aM,e1,e2⟩:=aW e;obtain⟨l,dH,e3,e4⟩:=aW e2;obtain⟨u,zH,e5,e6⟩:=aW e4;obtain⟨e7,rfl⟩:=eZ e6;refine⟨Pr,F,env,aM,x,r,e1,λv H1 F1 r1 s1 p1=>⟨Pr,F1,aM,dH,l,r1,e3,λH2 F2 r2 s2=>⟨Pr,F2,dH,env',u,r2,e5,λH3 F3 r3 s3=>?_⟩⟩⟩;have p3:=Rep.mono (s2.trans s3) _ _ p1;have q3:∀v H' F',Rel C Pr F' env' σ H'->aQ F3 F'->Rep C.K F' d v->Q v H':=λv H' F' r' s' p'=>q v H' F' r' (((s1.trans s2).trans s3).trans s') p';cases x with
 | str z=>
  cases e7;obtain⟨rfl,hz⟩:=p1;exact .inr (.inr ⟨z,rfl,hz,q3 _ H3 F3 r3 (aQ.refl _) ⟨rfl,Nat.le_trans (Ho _ _ _) hz⟩⟩)
 | tup xs=>
  exact .inr (.inl (Y6 r3 p3 (by rw[SM];exact e7) q3))
 | lst xs=>exact .inl (Pq r3 (.inl p3) e7 q3)
 | arr xs=>exact .inl (Pq r3 (.inl p3) e7 q3)
 | _=>cases e7
def aiy(z:List Nat)(lo hi:Option Int):NB (.str z) lo hi=some (.str (cutD z lo hi)):=nr rfl
def aix(z:List D)(lo hi:Option Int):NB (.tup z) lo hi=some (.tup (cutD z lo hi)):=nr rfl
def aiz(z:List D)(lo hi:Option Int):NB (.lst z) lo hi=some (.lst (cutD z lo hi)):=nr rfl
def aiA(z:List D)(lo hi:Option Int):NB (.arr z) lo hi=some (.lst (cutD z lo hi)):=nr rfl
def agt(a:Ev)(lo hi:yx)(env:Env):xf a lo hi env=bindR (a env) (kSl NB lo hi):=nr rfl
end
structure SX(X:Cx)(C:Cfg)(e:Expr)(ev:Ev):Prop where
 u:Ev.PX X C e ev
structure Oh(X:Cx)(C:Cfg)(e:Expr)(ev:Ev):Prop where
 u:Ev.Aa X C e ev
structure WY(X:Cx)(C:Cfg)(e:Expr)(ev:Ev):Prop where
 u:Ev.J8 X C e ev
structure LR(X:Cx)(C:Cfg)(e:Expr)(ev:d8):Prop where
 u:Ev.Hx X C e ev
structure SXW(X:Cx)(C:Cfg)(e:Expr)(ev:d8):Prop where
 u:Ev.Ue X C e ev
structure J7(X:Cx)(C:Cfg)(e:List Expr)(ev:cV):Prop where
 u:Ev.Cr X C e ev
structure xV(X:Cx)(C:Cfg)(e:List Expr)(ev:cV):Prop where
 u:Ev.rD X C e ev
structure SXL(X:Cx)(C:Cfg)(e:List Expr)(ev:cV):Prop where
 u:Ev.PXL X C e ev
structure HN(X:Cx)(C:Cfg)(e:Stmt)(ev:bW):Prop where
 u:Ev.yw X C e ev
structure fK(X:Cx)(C:Cfg)(e:List Stmt)(ev:bW):Prop where
 u:Ev.my X C e ev
structure W0(X:Cx)(C:Cfg)(e:List Expr)(ev:d8):Prop where
 u:Ev.J9 X C e ev
structure Yj(X:Cx)(C:Cfg)(e:Option Expr)(ev:yx):Prop where
 u:Ev.T5 X C e ev
structure SXI(X:Cx)(C:Cfg)(tg e:Expr)(ev:cV):Prop where
 u:Ev.Mf X C tg e ev
structure Yk(X:Cx)(C:Cfg)(lo:Nat)(e:Expr)(ev:GV):Prop where
 u:Ev.Ka X C lo e ev
structure W2(X:Cx)(C:Cfg)(lo:Nat)(e:List Expr)(ev:Mg):Prop where
 u:Ev.Oi X C lo e ev
section
variable{X:Cx}{C:Cfg}{pos p px:Pos}{x y z:Expr}{a b c:Ev}{t u:d8}{i:Nat}{n:Str}{e:Expr}{es:List Expr}{ea:cV}{apos:Pos}{e2:Expr}
def aA{e:Expr}{es:List Expr}{a:Ev}{r:cV}(ha:SX X C e a)(hr:J7 X C es r)(hs:starEach (e::es) X.env=(false,eval e X.env)::starEach es X.env:=by rfl):J7 X C (e::es) (aa a r):=⟨Ev.Gi ha.u hr.u hs⟩
def bz(i:Nat)(hN:X.N[i]? = some n:=by rfl)(hv:pD X.env.scope n:=by first|exact Or.inl rfl|exact Or.inr (Or.inl rfl)|exact Or.inr (Or.inr rfl))(hd:iZ n:=by decide)(hcd:oU n:=by decide):SX X C (.Name n pos) (aP i):=⟨Ev.acN i hN hv hd hcd⟩
def cH{X:Cx}{C:Cfg}{n:Str}{pos:Pos}{es:List Expr}{r:cV}(i:Nat)(hr:J7 X C es r)(hN:X.N[i]? = some n:=by rfl)(hv:pD X.env.scope n:=by first|exact Or.inl rfl|exact Or.inr (Or.inl rfl)|exact Or.inr (Or.inr rfl))(hd:iZ n:=by decide)(hcd:oU n:=by decide)(hs:starEach (.Name n pos::es) X.env=(false,eval (.Name n pos) X.env)::starEach es X.env:=by rfl):J7 X C (.Name n pos::es) (aa (aP i) r):=aA (bz i hN hv hd hcd) hr hs
def az  : J7 X C [] ak:=⟨Ev.KC ⟩
def aV{e:Expr}{ev:Ev}(h:SX X C e ev):Oh X C e ev:=⟨Ev.PX.b h.u⟩
def aN{i:Int}{j:Nat}:SX X C (.Constant (.int i) j pos) (jg (.int i)):=⟨Ev.ZF ⟩
def aq{st:Stmt}{rest:List Stmt}{a b:bW}(h1:HN X C st a)(h2:fK X C rest b):fK X C (st::rest) (aC a b):=⟨Ev.My h1.u h2.u⟩
def aD{st:Stmt}{a:bW}(h1:HN X C st a):fK X C [st] a:=⟨Ev.Qx h1.u⟩
def aR{lo:Nat}(i:Nat)(hnd:ig X.N=true:=by rfl)(hlo:Nat.ble lo i=true:=by rfl)(hfx:C.fx i=none:=by rfl)(hi:X.N[i]? = some n:=by rfl)(hx:Loc X.env.scope n:=by first|exact Or.inl rfl|exact Or.inr rfl)(hf:X.fn n=true\/X.env.scope.names.lookup n=some .local:=by first|exact .inl rfl|exact .inr rfl):Yk X C lo (.Name n pos) (aj i):=⟨Ev.abw i hnd hlo hfx hi hx hf⟩
def bD(z:List Nat){x:Str}{j:Nat}(hz:x=strOf z:=by decide +kernel)(hl:z.length<=sizeLine:=by decide):SX X C (.Constant (.str x) j pos) (jg (.str z)):=⟨Ev.Zq z hz hl⟩
def bZ(i:Nat)(hN:X.N[i]? = some n:=by rfl)(hv:pD X.env.scope n:=by first|exact Or.inl rfl|exact Or.inr (Or.inl rfl)|exact Or.inr (Or.inr rfl))(hd:iZ n:=by decide)(hcd:oU n:=by decide):Oh X C (.Name n pos) (bf i):=⟨Ev.agP i hN hv hd hcd⟩
def bC{pos':Pos}(i:Nat)(he:SX X C e a)(hnd:ig X.N=true:=by rfl)(hfx:C.fx i=none:=by rfl)(hi:X.N[i]? = some n:=by rfl)(hx:Loc X.env.scope n:=by first|exact Or.inl rfl|exact Or.inr rfl)(hs:swapsWith e (some (.Name n pos')) pos.line X.env=pure false:=by rfl)(hf:X.fn n=true\/X.env.scope.names.lookup n=some .local:=by first|exact .inl rfl|exact .inr rfl):HN X C (.Assign [.Name n pos'] e pos) (aJ a (aj i)):=⟨Ev.adg i he.u hnd hfx hi hx hs hf⟩
def bu{e:Expr}{a:Ev}(h:SX X C e a):HN X C (.Return (some e) pos) (bA a):=⟨Ev.Vd h.u⟩
def bJ{e:Expr}{a:Ev}(h:Oh X C e a)(hs:xG e X.env:=by rfl):xV X C [e] (aa a ak):=⟨Ev.QR h.u hs⟩
def bU{k k':Nat}{m:Nat}{ps:List Str}{g:List D->Option D}(O:Own X.prog X.w X.K X.mg X.base n k ps (j7 X.K m g))(G:Good X C)(hr:fJ k' X.A)(ha:J7 X C (e::es) ea)(hn:∀env ds env',ea env = .ok ds env'->ds.length=m)(hk:Nat.ble k k'=true:=by rfl)(hg:Gl X n:=by rfl)(hdb:iZ n:=by decide)(he:starEach (e::es) X.env=(false,eval e X.env)::starEach es X.env:=by rfl)(hpl:(backTo pos (starEach es X.env)).any (·.1)=false:=by rfl):SX X C (.Call (.Name n p) (e::es) [] pos) (au g ea):=⟨Ev.acR O G hr hk ha.u hn hg hdb he hpl⟩
def cj{es:List Expr}{r:cV}{k:Nat}(h:J7 X C es r):SX X C (.Tuple es k pos) (bV r):=⟨Ev.Zo h.u⟩
def aF{lo:Nat}{e:Expr}{es:List Expr}{g:GV}{gs:Mg}(h1:Yk X C lo e g)(h2:W2 X C lo es gs)(hs:(assignEach (e::es) X.env).map (·.2)=assign e X.env::(assignEach es X.env).map (·.2):=by rfl):W2 X C lo (e::es) (aG g gs):=⟨Ev.MN h1.u h2.u hs⟩
def eN{e:Expr}{ev:Ev}(h:WY X C e ev):SX X C e ev:=⟨Ev.J8.px h.u⟩
def bM(i:Nat)(G:Good X C)(hb:Oh X C y b)(hN:X.N[i]? = some n:=by rfl)(hv:pD X.env.scope n:=by first|exact Or.inl rfl|exact Or.inr (Or.inl rfl)|exact Or.inr (Or.inr rfl))(hs:pF y:=by intro _ _;rfl)(hd:iZ n:=by decide)(hcd:oU n:=by decide):SX X C (.Subscript (.Name n px) y pos) (ao bY i b):=⟨Ev.acU i G hb.u hN hv hs hd hcd⟩
def il{k k':Nat}{m:Nat}{ps:List Str}{g:List D->Option (D×D)}{v:Str}{pv:Pos}(i:Nat)(O:Own X.prog X.w X.K X.mg X.base n k ps (vJ X.K m g))(G:Good X C)(hr:fJ k' X.A)(ha:J7 X C es ea)(hn:∀env ds env',ea env = .ok ds env'->ds.length+1=m)(hk:Nat.ble k k'=true:=by rfl)(hN:X.N[i]? = some v:=by rfl)(hv:pD X.env.scope v:=by first|exact Or.inl rfl|exact Or.inr (Or.inl rfl)|exact Or.inr (Or.inr rfl))(hg:Gl X n:=by rfl)(hdb:iZ n:=by decide)(he:starEach (.Name v pv::es) X.env=(false,eval (.Name v pv) X.env)::starEach es X.env:=by rfl)(hpl:(backTo pos (starEach es X.env)).any (·.1)=false:=by rfl)(hd:iZ v:=by decide)(hcd:oU v:=by decide):SX X C (.Call (.Name n p) (.Name v pv::es) [] pos) (dC g i ea):=⟨Ev.agR i O G hr hk ha.u hn hN hv hg hdb he hpl hd hcd⟩
def eO{op:Operator}{g:D->D->Option D}(o:Bi X C op g)(ha:SX X C x a)(hb:Oh X C y b):SX X C (.BinOp x op y pos) (aH g a b):=⟨Ev.acW o ha.u hb.u⟩
def lG{e:Expr}{es:List Expr}{a:Ev}{r:cV}(ha:SX X C e a)(hr:SXL X C es r)(hs:starEach (e::es) X.env=(false,eval e X.env)::starEach es X.env:=by rfl):SXL X C (e::es) (aa a r):=⟨Ev.QH ha.u hr.u hs⟩
def fc{op:Operator}{g:D->D->Option D}(i:Nat)(o:Bi X C op g)(hb:Oh X C y b)(hN:X.N[i]? = some n:=by rfl)(hv:pD X.env.scope n:=by first|exact Or.inl rfl|exact Or.inr (Or.inl rfl)|exact Or.inr (Or.inr rfl))(hd:iZ n:=by decide)(hcd:oU n:=by decide):SX X C (.BinOp (.Name n px) op y pos) (ao g i b):=⟨Ev.Yx i o hb.u hN hv hd hcd⟩
def cO{c:Expr}{a b:List Stmt}{t:d8}{ea eb:bW}(hc:LR X C c t)(ha:fK X C a ea)(hb:fK X C b eb):HN X C (.If c a b pos) (cY t ea eb):=⟨Ev.Zh hc.u ha.u hb.u⟩
def dB{es:List Expr}{r:cV}(h:J7 X C es r):WY X C (.List es pos) (cC r):=⟨Ev.Kz h.u⟩
def cu  : fK X C [] bN:=⟨Ev.Qy ⟩
def iQ{tg:Expr}(G:Good X C)(h:SX X C x a):SXI X C tg x (ik a):=⟨Ev.aeI G h.u⟩
def iM{b:Bool}{j:Nat}:SX X C (.Constant (.bool b) j pos) (jg (.bl b)):=⟨Ev.adR ⟩
def wW{elt tg iter:Expr}{ifs:List Expr}{scope:Scope}(N':List Str){it:cV}{g:GV}{cc:d8}{ee:Ev}(lo:Nat)(ok:mz X scope N')(G:Good X C)(hi:SXI X C tg iter it)(bg:∀X',jD X scope N' X'->Yk X' C lo tg g)(bc:∀X',jD X scope N' X'->W0 X' C ifs cc)(be:∀X',jD X scope N' X'->SX X' C elt ee)(hs:∀x,foldedSetIterable iter X.env x=pure x:=by intro _;rfl):WY X C (.ListComp elt [⟨tg,iter,ifs,0⟩] scope pos) (iD lo N'.length it g cc ee):=⟨Ev.ahq N' lo ok G hi.u (λX1 h1=>(bg X1 h1).u) (λX1 h1=>(bc X1 h1).u) (λX1 h1=>(be X1 h1).u) hs⟩
def lL(G:Good X C)(hm:X.mg "len" = none)(ha:xV X C [e] ea)(hg:Gl X "len":=by rfl)(he:xG e X.env:=by rfl):SX X C (.Call (.Name "len" p) [e] [] pos) (au gU ea):=⟨Ev.acT G hm ha.u hg he⟩
def fZ{e:Expr}{a:Ev}(h:SX X C e a)(he:∀whole,isTrue e X.env whole=(do let v <-whole;standAt e.pos;holding [v] (truthy v)):=by intro _;rfl):LR X C e (cP a):=⟨Ev.U9 h.u he⟩
def cA{lo:Nat}:W2 X C lo [] cN:=⟨Ev.QL ⟩
def eU{lo:Nat}{k:Nat}{gs:Mg}{m:Nat}(G:Good X C)(h:W2 X C lo es gs)(hn:(assignEach es X.env).length=m:=by rfl)(hst:(assignEach es X.env).findIdx? (·.1)=none:=by rfl):Yk X C lo (.Tuple es k pos) (cJ m gs):=⟨Ev.aeU G h.u hn hst⟩
def jJ{X:Cx}{C:Cfg}:W0 X C [] fP:=⟨Ev.QK ⟩
def km{tg iter:Expr}{body:List Stmt}{it:cV}{g:GV}{bs:bW}(G:Good X C)(hi:SXI X C tg iter it)(hg:Yk X C 0 tg g)(hb:fK X C body bs)(hp:PassesOwn (model X.prog X.w) X.A X.env X.xe:=by exact PassesOwn.never)(hs:∀x,foldedSetIterable iter X.env x=pure x:=by intro _;rfl):HN X C (.For tg iter body [] pos) (fY it g bs):=⟨Ev.adi G hi.u hg.u hb.u hp hs⟩
def j6{op:CmpOp}{g:D->D->Option D}(o:Cm X C op g)(ha:SX X C x a)(hb:Oh X C y b)(hm:behindInMarks op y=false:=by rfl):LR X C (.Compare x [op] [y] pos) (cP (aH g a b)):=⟨Ev.ac0 o ha.u hb.u hm⟩
def kj{pos':Pos}(i:Nat)(he:WY X C e a)(hnd:ig X.N=true:=by rfl)(hfx:C.fx i=none:=by rfl)(hi:X.N[i]? = some n:=by rfl)(hx:Loc X.env.scope n:=by first|exact Or.inl rfl|exact Or.inr rfl)(hs:swapsWith e (some (.Name n pos')) pos.line X.env=pure false:=by rfl)(hf:X.fn n=true\/X.env.scope.names.lookup n=some .local:=by first|exact .inl rfl|exact .inr rfl):HN X C (.Assign [.Name n pos'] e pos) (dq i a):=⟨Ev.adh i he.u hnd hfx hi hx hs hf⟩
def iR(G:Good X C)(hm:X.mg "tuple" = none)(ha:xV X C [e] ea)(hg:Gl X "tuple":=by rfl)(he:xG e X.env:=by rfl):SX X C (.Call (.Name "tuple" p) [e] [] pos) (au dG ea):=⟨Ev.Uj G hm ha.u hg he⟩
def iU(G:Good X C)(ha:SX X C x a)(hb:Oh X C y b)(hs:pF y:=by intro _ _;rfl):SX X C (.Subscript x y pos) (aH bY a b):=⟨Ev.agQ G ha.u hb.u hs⟩
def fj{op:CmpOp}{g:D->D->Option D}(i:Nat)(o:Cm X C op g)(hb:Oh X C y b)(hN:X.N[i]? = some n:=by rfl)(hv:pD X.env.scope n:=by first|exact Or.inl rfl|exact Or.inr (Or.inl rfl)|exact Or.inr (Or.inr rfl))(hm:behindInMarks op y=false:=by rfl)(hd:iZ n:=by decide)(hcd:oU n:=by decide):LR X C (.Compare (.Name n px) [op] [y] pos) (cP (ao g i b)):=⟨Ev.YM i o hb.u hN hv hm hd hcd⟩
def dw{tg e:Expr}{a:Ev}{g:GV}(he:SX X C e a)(hg:Yk X C 0 tg g)(hs:swapsWithSole [tg] e pos.line X.env=pure false:=by rfl)(hw:swappedStores [tg] e X.env=pure none:=by rfl)(h1:(assignEach [tg] X.env).map (·.2)=[assign tg X.env]:=by rfl):HN X C (.Assign [tg] e pos) (aJ a g):=⟨Ev.Vg he.u hg.u hs hw h1⟩
def lF{e:Expr}{a:Ev}(h:SX X C e a):Yj X C (some e) (vo a):=⟨Ev.QB h.u⟩
def Gg{x:Expr}{a:d8}(h:LR X C x a):LR X C (.UnaryOp .Not x pos) (qH a):=⟨Ev.Va h.u⟩
def mV{e:Expr}{a:d8}(h:SXW X C e a):LR X C e a:=⟨Ev.Ue.pt h.u⟩
def DN{tg:Expr}(hm:X.mg "range" = none)(ha:J7 X C [e] ea)(hl:∀env ds env',ea env = .ok ds env'->ds.length=1)(hg:Gl X "range":=by rfl)(hs:starEach [e] X.env=[(false,eval e X.env)]:=by rfl):SXI X C tg (.Call (.Name "range" p) [e] [] pos) (iK ea):=⟨Ev.abq hm ha.u hl hg hs⟩
def jQ{op:CmpOp}{g:D->D->Option D}(i:Nat)(o:Cm X C op g)(hb:Oh X C y b)(hN:X.N[i]? = some n:=by rfl)(hv:pD X.env.scope n:=by first|exact Or.inl rfl|exact Or.inr (Or.inl rfl)|exact Or.inr (Or.inr rfl))(hm:behindInMarks op y=false:=by rfl)(hd:iZ n:=by decide)(hcd:oU n:=by decide):SX X C (.Compare (.Name n px) [op] [y] pos) (ao g i b):=⟨Ev.Yw i o hb.u hN hv hm hd hcd⟩
def mG{j:Nat}:SX X C (.Constant .none j pos) (jg .non):=⟨Ev.Zz ⟩
def Ji{e:Expr}{es:List Expr}{a:Ev}{r:cV}(ha:SX X C e a)(hr:xV X C es r)(hs:starEach (e::es) X.env=(false,eval e X.env)::starEach es X.env:=by rfl):xV X C (e::es) (aa a r):=⟨Ev.MP ha.u hr.u hs⟩
def gJ{op:BoolOp}{x:Expr}{a:Ev}(h:SX X C x a):SX X C (.BoolOp op [x] pos) a:=⟨Ev.Zx h.u⟩
def p8{apos cpos:Pos}(i:Nat)(G:Good X C)(he:SX X C e a)(hN:X.N[i]? = some n:=by rfl)(hv:pD X.env.scope n:=by first|exact Or.inl rfl|exact Or.inr (Or.inl rfl)|exact Or.inr (Or.inr rfl))(hs:swapsWith (.Call (.Attribute (.Name n px) "append" apos) [e] [] cpos) none pos.line X.env=pure false:=by rfl) (hfew:((backTo cpos (starEach [e] X.env)).all (λx=>!x.1)&&(backToKw cpos (keywordEach [] X.env)).all (λx=>x.1.isSome)
   && decide (([e]:List Expr).length+([]:List Keyword).length+(if ([]:List Keyword).isEmpty then 0 else 1)<30))=true:=by rfl) (hbase:attributeBase (.Name n px) "append" X.env (eval (.Name n px) X.env)=eval (.Name n px) X.env:=by rfl) (hline:(apos.endLine == cpos.line)=true:=by rfl) (hst:xG e X.env:=by rfl) (hplain:(backTo cpos (starEach [] X.env)).any (·.1)=false:=by rfl) (hd:iZ n:=by decide) (hcd:oU n:=by decide):HN X C (.Expr (.Call (.Attribute (.Name n px) "append" apos) [e] [] cpos) pos) (gG i a):=⟨Ev.adl i G he.u hN hv hs hfew hbase hline hst hplain hd hcd⟩
def qX  : Yj X C none kO:=⟨Ev.QC ⟩
def ye{x y:Expr}{rest:List Expr}{a b:Ev}(ha:SX X C x a)(hb:SX X C (.BoolOp .And (y::rest) pos) b):SX X C (.BoolOp .And (x::y::rest) pos) (jY a b):=⟨Ev.ZL ha.u hb.u⟩
def yd{x y:Expr}{rest:List Expr}{a b:d8}(ha:LR X C x a)(hb:SXW X C (.BoolOp .Or (y::rest) pos) b):SXW X C (.BoolOp .Or (x::y::rest) pos) (jX a b):=⟨Ev.Zg ha.u hb.u⟩
def Yy(G:Good X C)(hm:X.mg "all" = none)(ha:xV X C [e] ea)(hg:Gl X "all":=by rfl)(he:xG e X.env:=by rfl):SX X C (.Call (.Name "all" p) [e] [] pos) (au Hd ea):=⟨Ev.acX G hm ha.u hg he⟩
def uw{x:Expr}{a:d8}(h:LR X C x a):SXW X C (.BoolOp .Or [x] pos) a:=⟨Ev.U7 h.u⟩
def Vp{T:String}{xT:Str}{e:Expr}{a:Ev}{p q pos:Pos}(hg:Gl X "isinstance")(hm:X.mg "isinstance" = none)(hgT:Gl X xT)(hmT:X.mg xT=none)(hvT:bootBuiltins xT=some (.type T))(hk:∀d:D,PySem.W.kitOne X.K (.type (Xe d)) (.type T)=some (uG d T))(hK:X.K=C.K)(ha:SX X C e a)(hn:xT ≠ "__name__":=by decide)(hd:iZ xT:=by decide)(he:starEach [e,.Name xT q] X.env=(false,eval e X.env)::starEach [.Name xT q] X.env:=by rfl):SX X C (.Call (.Name "isinstance" p) [e,.Name xT q] [] pos) (uJ (JN T) a):=⟨Ev.ZD hg hm hgT hmT hvT hk hK ha.u hn hd he⟩
def qY{X:Cx}{C:Cfg}{c:Expr}{t:d8}(h:LR X C c t):W0 X C [c] t:=⟨Ev.QJ h.u⟩
def aaK{k k':Nat}{m:Nat}{ps:List Str}{g:List D->Option D}(O:Own X.prog X.w X.K X.mg X.base n k ps (Xi X.K m g))(G:Good X C)(hr:fJ k' X.A)(ha:J7 X C (e::es) ea)(hn:∀env ds env',ea env = .ok ds env'->ds.length=m)(hk:Nat.ble k k'=true:=by rfl)(hg:Gl X n:=by rfl)(hdb:iZ n:=by decide)(he:starEach (e::es) X.env=(false,eval e X.env)::starEach es X.env:=by rfl)(hpl:(backTo pos (starEach es X.env)).any (·.1)=false:=by rfl):WY X C (.Call (.Name n p) (e::es) [] pos) (au g ea):=⟨Ev.aee O G hr hk ha.u hn hg hdb he hpl⟩
def qe{x y:Expr}{rest:List Expr}{a b:d8}(ha:LR X C x a)(hb:SXW X C (.BoolOp .And (y::rest) pos) b):SXW X C (.BoolOp .And (x::y::rest) pos) (fC a b):=⟨Ev.U8 ha.u hb.u⟩
def Gj{x:Str}{v:V}{u:Value}(d:D)(hg:Gl X x)(hm:X.mg x=some u)(rv:RelV v u)(hr:∀F,Rep C.K F d v)(hd:iZ x:=by decide):SX X C (.Name x pos) (jg d):=⟨Ev.Vq d hg hm rv hr hd⟩
def Km{o:Expr}{apos cpos:Pos}(G:Good X C)(ho:SX X C o a)(he:Oh X C e b)(hbase:attributeBase o "join" X.env (eval o X.env)=eval o X.env:=by rfl)(hs:xG e X.env:=by rfl) (hfew:((backTo cpos (starEach [e] X.env)).all (λx=>!x.1)&&(backToKw cpos (keywordEach [] X.env)).all (λx=>x.1.isSome)
   && decide ([e].length+([]:List Keyword).length+(if ([]:List Keyword).isEmpty then 0 else 1)<30))=true:=by rfl) (hline:(apos.endLine == cpos.line)=true:=by rfl) (hplain:(backTo cpos (starEach [] X.env)).any (·.1)=false:=by rfl):SX X C (.Call (.Attribute o "join" apos) [e] [] cpos) (aH nU a b):=⟨Ev.Ys G ho.u he.u hbase hs hfew hline hplain⟩
def Xb{lo hi:Option Expr}{el eh:yx}{p2:Pos}(G:Good X C)(ha:SX X C x a)(hl:Yj X C lo el)(hh:Yj X C hi eh):SX X C (.Subscript x (.Slice lo hi none p2) pos) (uL a el eh):=⟨Ev.agO G ha.u hl.u hh.u⟩
def qW{x:Expr}{a:d8}(h:LR X C x a):SXW X C (.BoolOp .And [x] pos) a:=⟨Ev.Qw h.u⟩
def OJ(ha:SX X C x a):SX X C (.UnaryOp .USub x pos) (uJ Bc a):=⟨Ev.acS ha.u⟩
def HW{op:CmpOp}{g:D->D->Option D}(o:Cm X C op g)(ha:SX X C x a)(hb:Oh X C y b)(hm:behindInMarks op y=false:=by rfl):SX X C (.Compare x [op] [y] pos) (aH g a b):=⟨Ev.acV o ha.u hb.u hm⟩
def QG  : SXL X C [] ak:=⟨Ev.Vj ⟩
def V0{es:List Expr}{a:cV}(h:SXL X C es a):WY X C (.List es pos) (cC a):=⟨Ev.aaL h.u⟩
def Ez(i:Nat)(G:Good X C)(hb:Oh X C y b)(hN:X.N[i]? = some n:=by rfl)(hv:pD X.env.scope n:=by first|exact Or.inl rfl|exact Or.inr (Or.inl rfl)|exact Or.inr (Or.inr rfl))(hs:T6 y:=by intro _ _;rfl)(hd:iZ n:=by decide)(hcd:oU n:=by decide):SX X C (.Subscript (.Name n px) y pos) (ao jd i b):=⟨Ev.Um i G hb.u hN hv hs hd hcd⟩
def HS{p2 p3 p4:Pos}{k:Nat}(ha:SX X C x a):SX X C (.Subscript x (.Slice none none (some (.UnaryOp .USub (.Constant (.int 1) k p4) p3)) p2) pos) (rJ a):=⟨Ev.acQ ha.u⟩
def MK  : WY X C (.Dict [] [] pos) zE:=⟨Ev.QF ⟩
def Bk(G:Good X C)(hm:X.mg "sorted" = none)(ha:xV X C [e] ea)(hg:Gl X "sorted":=by rfl)(he:xG e X.env:=by rfl):SX X C (.Call (.Name "sorted" p) [e] [] pos) (au iu ea):=⟨Ev.Ox G hm ha.u hg he⟩
def lV{x y:Expr}{rest:List Expr}{a b:Ev}(ha:SX X C x a)(hb:SX X C (.BoolOp .Or (y::rest) pos) b):SX X C (.BoolOp .Or (x::y::rest) pos) (lq a b):=⟨Ev.adM ha.u hb.u⟩
def Oz{lo hi:Option Expr}{el eh:yx}{p2:Pos}(ha:SX X C x a)(hl:Yj X C lo el)(hh:Yj X C hi eh):SX X C (.Subscript x (.Slice lo hi none p2) pos) (uK a el eh):=⟨Ev.acO ha.u hl.u hh.u⟩
def Kl(G:Good X C)(hm:X.mg "list" = none)(ha:xV X C [e] ea)(hg:Gl X "list":=by rfl)(he:xG e X.env:=by rfl):SX X C (.Call (.Name "list" p) [e] [] pos) (au qD ea):=⟨Ev.Yr G hm ha.u hg he⟩
def PK{elt tg iter:Expr}{ifs:List Expr}{scope:Scope}(N':List Str){spos py:Pos}{it:cV}{g:GV}{cc:d8}{ee:Ev}(lo:Nat)(i:Nat)(ok:mz X scope N')(G:Good X C)(hi:SXI X C tg iter it)(bg:∀X',jD X scope N' X'->Yk X' C lo tg g)(bc:∀X',jD X scope N' X'->W0 X' C ifs cc)(be:∀X',jD X scope N' X'->SX X' C elt ee)(hnd:ig X.N=true:=by rfl)(hfx:C.fx i=none:=by rfl)(hy:X.N[i]? = some n:=by rfl)(hx:Loc X.env.scope n:=by first|exact Or.inl rfl|exact Or.inr rfl)(hsw:swapsWith (.ListComp elt [⟨tg,iter,ifs,0⟩] scope pos) (some (.Name n py)) spos.line X.env=pure true:=by rfl)(hf:X.fn n=true\/X.env.scope.names.lookup n=some .local:=by first|exact .inl rfl|exact .inr rfl)(hs:∀x,foldedSetIterable iter X.env x=pure x:=by intro _;rfl):HN X C (.Assign [.Name n py] (.ListComp elt [⟨tg,iter,ifs,0⟩] scope pos) spos) (dq i (iD lo N'.length it g cc ee)):=⟨Ev.ahb N' lo i ok G hi.u (λX1 h1=>(bg X1 h1).u) (λX1 h1=>(bc X1 h1).u) (λX1 h1=>(be X1 h1).u) hnd hfx hy hx hsw hf hs⟩
def K9{tg e2:Expr}(hm:X.mg "range" = none)(ha:J7 X C [e,e2] ea)(hl:∀env ds env',ea env = .ok ds env'->ds.length=2)(hg:Gl X "range":=by rfl)(hs:starEach [e,e2] X.env=[(false,eval e X.env),(false,eval e2 X.env)]:=by rfl)(hs2:starEach [e2] X.env=[(false,eval e2 X.env)]:=by rfl):SXI X C tg (.Call (.Name "range" p) [e,e2] [] pos) (iK ea):=⟨Ev.abp hm ha.u hl hg hs hs2⟩
def Mh{e2:Expr}(G:Good X C)(hm:X.mg "divmod" = none)(ha:xV X C [e,e2] ea)(hg:Gl X "divmod":=by rfl)(he:starEach [e,e2] X.env=(false,eval e X.env)::starEach [e2] X.env:=by rfl)(hpl:(backTo pos (starEach [e2] X.env)).any (·.1)=false:=by rfl):SX X C (.Call (.Name "divmod" p) [e,e2] [] pos) (au rm ea):=⟨Ev.O2 G hm ha.u hg he hpl⟩
def Gh{e:Expr}{a:Ev}(h:WY X C e a):HN X C (.Return (some e) pos) (pW a):=⟨Ev.Jf h.u⟩
def aeV{lo:Nat}{ix:Expr}{ev:Ev}(i:Nat)(h:SX X C ix ev)(hN:X.N[i]? = some n:=by rfl)(hv:pD X.env.scope n:=by first|exact Or.inl rfl|exact Or.inr (Or.inl rfl)|exact Or.inr (Or.inr rfl)) (ha:∀v,assign (.Subscript (.Name n px) ix pos) X.env v=(do
   let ov <-holding [v] (eval (.Name n px) X.env)
   let iv <-holding [v,ov] (eval ix X.env)
   standAt pos
   holding [v,ov,iv] (setItem ov iv v)
   release [v,ov,iv] []):=by intro _;rfl) (hd:iZ n:=by decide) (hcd:oU n:=by decide):Yk X C lo (.Subscript (.Name n px) ix pos) (SJ i ev):=⟨Ev.ait i h.u hN hv ha hd hcd⟩
def Cu{p:Pos}{e:Expr}{ea:cV}(G:Good X C)(hm:X.mg "dict" = none)(ha:xV X C [e] ea)(hg:Gl X "dict":=by rfl)(he:xG e X.env:=by rfl):SX X C (.Call (.Name "dict" p) [e] [] pos) (au nW ea):=⟨Ev.Yv G hm ha.u hg he⟩
def Uz{k:Expr}{ek:Ev}{pos':Pos}(i:Nat)(G:Good X C)(hk:SX X C k ek)(he:SX X C e a)(hN:X.N[i]? = some n:=by rfl)(hv:pD X.env.scope n:=by first|exact Or.inl rfl|exact Or.inr (Or.inl rfl)|exact Or.inr (Or.inr rfl))(hs:swapsWith e (some (.Subscript (.Name n px) k pos')) pos.line X.env=pure false:=by rfl)(hd:iZ n:=by decide)(hcd:oU n:=by decide):HN X C (.Assign [.Subscript (.Name n px) k pos'] e pos) (mX i ek a):=⟨Ev.Y9 i G hk.u he.u hN hv hs hd hcd⟩
def Ko(G:Good X C)(ha:SX X C x a)(hb:SX X C y b)(hc:SX X C z c)(m:M2 X x "get" apos y z pos:=by exact⟨by rfl,by rfl,by rfl,by rfl⟩):SX X C (.Call (.Attribute x "get" apos) [y,z] [] pos) (wG a b c):=⟨Ev.Yu G ha.u hb.u hc.u m⟩
def Yp{lo hi:Option Expr}{el eh:yx}{p2:Pos}(G:Good X C)(ha:SX X C x a)(hl:Yj X C lo el)(hh:Yj X C hi eh):SX X C (.Subscript x (.Slice lo hi none p2) pos) (xf a el eh):=⟨Ev.acP G ha.u hl.u hh.u⟩
def Sv{elts:List Expr}{k:Nat}{tp p:Pos}{ea:cV}(G:Good X C)(hm:X.mg "zip" = none)(ha:J7 X C [e,e2] ea)(hg:Gl X "zip":=by rfl)(hs:starEach [e,e2] X.env=(false,eval e X.env)::starEach [e2] X.env:=by rfl)(hs2:starEach [e2] X.env=[(false,eval e2 X.env)]:=by rfl):SXI X C (.Tuple elts k tp) (.Call (.Name "zip" p) [e,e2] [] pos) (wZ ea):=⟨Ev.aeH G hm ha.u hg hs hs2⟩
def ZG{c x y:Expr}{t:d8}{a b:Ev}(hc:LR X C c t)(ha:SX X C x a)(hb:SX X C y b):SX X C (.IfExp c x y pos) (Wk t a b):=⟨Ev.adQ hc.u ha.u hb.u⟩
def Ul(G:Good X C)(hm:X.mg "int" = none)(ha:xV X C [e] ea)(hg:Gl X "int":=by rfl)(he:xG e X.env:=by rfl):SX X C (.Call (.Name "int" p) [e] [] pos) (au G8 ea):=⟨Ev.Yt G hm ha.u hg he⟩
def FZ{cd:Expr}{body:List Stmt}{bs:bW}(m:Nat)(G:Good X C)(hc:LR X C cd t)(hb:fK X C body bs)(hp:PassesOwn (model X.prog X.w) X.A X.env X.xe:=by exact PassesOwn.never):HN X C (.While cd body [] pos) (dU t bs m):=⟨Ev.Uy m G hc.u hb.u hp⟩
def Vn{x:Expr}{a:Ev}(ha:SX X C x a):SX X C (.UnaryOp .Not x pos) (zB a):=⟨Ev.Zy ha.u⟩
def Ar  : HN X C (.Continue pos) (λenv=>.ct env):=⟨Ev.Dk ⟩
def Tc(xs:List D):List D:=xs.zipIdx.map λp=>.tup [.int (p.2:Nat),p.1]
def Wl(a:cV):cV:=λenv=>bindR (a env) λds aM=>match ds with
 | [.str x]=>.ok (Td x) aM
 | [.tup xs]=>.ok (Tc xs) aM
 | _=>.stuck
def Wj(a:cV):cV:=λenv=>bindR (a env) λds aM=>match ds with
 | [.lst x,.lst y]=>.ok (tU x y) aM
 | _=>.stuck
end
def aet(ds:List D)(e:Env):R (List D):=match ds with
 | [.str x]=>.ok (Td x) e
 | [.tup xs]=>.ok (Tc xs) e
 | _=>.stuck
def ahS(xs:List D)(e:Env):aet [.tup xs] e = .ok (Tc xs) e:=nr rfl
def acF(a:cV)(env:Env):Wl a env=bindR (a env) aet:=nr rfl
def aek(ds:List D)(e:Env):R (List D):=match ds with
 | [.lst x,.lst y]=>.ok (tU x y) e
 | _=>.stuck
def ahw(x y:List D)(e:Env):aek [.lst x,.lst y] e = .ok (tU x y) e:=nr rfl
def acE(a:cV)(env:Env):Wj a env=bindR (a env) aek:=nr rfl
def aiD:Bc (.int 1)=some (.int (-1)):=nr rfl
open PySem PySem.Spec PySem.W PySem.Calls PyProof.Rows L2
def FA(K:Fg)(x:Str)(st:Stmt):Prop:=∃(f:Addr) (oc kV doc pm cdv ct:Value) (od an:Option Addr) (osl:Array (Option Value)),PySem.W.nsIn K mainGlobals x=some (some (.ref f))/\
 K.lookup f=some ⟨oc,od,.func (PySem.W.fnOf x x (gh st) (cI st) (aL st) .none kV doc pm an cdv ct),osl⟩/\PySem.W.codeIn K cdv x=true/\PySem.W.keepIn K (.ref f)=true
def FA.mk{K:Fg}{x:Str}{st:Stmt}{f:Addr}{oc kV doc pm cdv ct:Value}{od an:Option Addr}{osl:Array (Option Value)}(a:PySem.W.nsIn K mainGlobals x=some (some (.ref f)))
  (l:K.lookup f=some ⟨oc,od,.func (PySem.W.fnOf x x (gh st) (cI st) (aL st) .none kV doc pm an cdv ct),osl⟩) (c:PySem.W.codeIn K cdv x=true) (k:PySem.W.keepIn K (.ref f)=true):FA K x st:=
 ⟨f,oc,kV,doc,pm,cdv,ct,od,an,osl,a,l,c,k⟩
def FA.at{K:Fg}{h:Heap}{mg:Str->Option Value}{x:Str}{st:Stmt}{ps:List Str}(X:K.In h)(G:h.Ns mainGlobals mg)(F:FA K x st)
  (b:∀{kV doc pm:Value} {an:Option Addr} {cdv ct:Value} (us:List Value),us.length=ps.length->bindArgs (PySem.W.fnOf x x (gh st) (cI st) (aL st) .none kV doc pm an cdv ct) ⟨us,[]⟩=pure (ps.zip us)):dI K mg x st ps:=by
 obtain⟨f,oc,kV,doc,pm,cdv,ct,od,an,osl,a,l,c,k⟩:=F;exact funAt X G a l c k (λ_ _ _ _ _ _ us hl=>b us hl)
mutual
theorem Sh.isN{h:Heap}:∀(d:D) (u:Value) (k:NK),Sh h d u->tR d=some k->Ad h k u
 | .int i,u,k,e,g=>by rw[tR] at g;cases g;obtain⟨t,rfl⟩:=e;rw[Ad];exact .inl ⟨t,rfl⟩
 | .bl b,u,k,e,g=>by rw[tR] at g;cases g;cases e;rw[Ad];exact .inr ⟨b,rfl,rfl⟩
 | .str x,u,k,e,g=>by rw[tR] at g;cases g;rw[Ad];exact e
 | .tup xs,u,k,e,g=>by
  rw[tR] at g;obtain⟨ks,g1,rfl⟩:=Option.map_eq_some_iff.mp g;obtain⟨a,its,rfl,⟨o,e1,e2,n,e3⟩,e4⟩:=e;rw[Ad];exact⟨a,o,its.toArray,n,rfl,e1,e2,e3,by simpa using Cq.isN xs its ks e4 g1⟩
 | .non,u,k,e,g=>by simp[tR] at g
 | .lst _,u,k,e,g=>by simp[tR] at g
 | .arr _,u,k,e,g=>by simp[tR] at g
 | .dct _,u,k,e,g=>by simp[tR] at g
 | .gR _,u,k,e,g=>by simp[tR] at g
theorem Cq.isN{h:Heap}:∀(ds:List D) (us:List Value) (ks:List NK),Cq h ds us->Jr ds=some ks->nA h ks us
 | [],us,ks,e,g=>by rw[Jr] at g;cases g;cases e;rw[nA]
 | d::ds,us,ks,e,g=>by
  obtain⟨u,r,rfl,e1,e2⟩:=e;rw[Jr] at g;split at g
  ·rename_i k ks' g1 g2;cases g;rw[nA];exact⟨u,r,rfl,Sh.isN d u k e1 g1,Cq.isN ds r ks' e2 g2⟩
  ·cases g
end
structure pN(K:Fg)(H:Hp)(y:V)(kd:D)(q:NK):Prop where
 rep:Rep K H kd y
 nk:tR kd=some q
 dep:q.dep<=8
 tup:∃xs,kd = .tup xs
abbrev KN:List (NK×V×V)->List (NK×Addr×Value)->Prop:=Paired λp q=>p.1=q.1/\p.2.1 = .ref q.2.1/\RelV p.2.2 q.2.2
noncomputable def valN(ks:List (NK×V×V))(q:NK):Option V:=(ks.find? λp=>decide (p.1=q)).map (·.2.2)
noncomputable def putN(ks:List (NK×V×V))(q:NK)(u v:V):List (NK×V×V):=if (valN ks q).isSome then ks.map (λp=>if p.1=q then (p.1,p.2.1,v) else p) else ks++[(q,u,v)]
def KN.val{ks:List (NK×V×V)}{xs:List (NK×Addr×Value)}(r:KN ks xs)(q:NK):wM (valN ks q) ((atKey xs q).map (·.2)):=by
 unfold valN atKey
 induction r with
 | nil=>exact True.intro
 | @cons p x ps xs h t ih=>
  rw[List.find?_cons,List.find?_cons];by_cases c:p.1=q
  ·have c2:x.1=q:=h.1 ▸ c;rw[decide_eq_true c,decide_eq_true c2];exact h.2.2
  ·have c2:¬x.1=q:=h.1 ▸ c;rw[decide_eq_false c,decide_eq_false c2];exact ih
def KN.len{ks:List (NK×V×V)}{xs:List (NK×Addr×Value)}(r:KN ks xs):ks.length=xs.length:=by
 induction r with
 | nil=>rfl
 | cons _ _ ih=>simp[ih]
def KN.put{ks:List (NK×V×V)}{xs:List (NK×Addr×Value)}(r:KN ks xs)(q:NK){b:Addr}{v:V}{u:Value}(rv:RelV v u):KN (putN ks q (.ref b) v) (storedH xs q b u):=by
 have hs:=(r.val q).lH;rw[Option.isSome_map] at hs;unfold putN storedH;rw[<-hs];split
 ·clear hs
  induction r with
  | nil=>exact .nil
  | @cons p x ps xs h t ih=>
   rw[List.map_cons,List.map_cons];refine .cons ?_ ?_
   ·unfold putAt;by_cases c:p.1=q
    ·have c2:x.1=q:=h.1 ▸ c;rw[if_pos c,if_pos c2];exact⟨h.1,h.2.1,rv⟩
    ·have c2:¬x.1=q:=h.1 ▸ c;rw[if_neg c,if_neg c2];exact h
   ·rename_i hsome;clear hsome;clear ih
    induction t with
    | nil=>exact .nil
    | @cons p x ps xs h t ih=>
     rw[List.map_cons,List.map_cons];refine .cons ?_ ih;unfold putAt;by_cases c:p.1=q
     ·have c2:x.1=q:=h.1 ▸ c;rw[if_pos c,if_pos c2];exact⟨h.1,h.2.1,rv⟩
     ·have c2:¬x.1=q:=h.1 ▸ c;rw[if_neg c,if_neg c2];exact h
 ·exact Paired.snoc r ⟨rfl,rfl,rv⟩
section
variable{X:Cx}{pins:List (Addr×Obj)}{σ:L2.St}{H:Hp}{s:Shared}{a:Addr}{ks:List (NK×V×V)}{kvs:List (D×D)}{y v:V}{kd:D}{q:NK}{u:Value}{A:Around}{E:Value->Shared->Prop}
theorem K4(I:Inv X pins σ H s):∀{kvs:List (D×D)} {ks:List (NK×V×V)} {xs:List (NK×Addr×Value)},cU X.K H kvs ks->KN ks xs->∀x∈xs,(ql X.prog X.w).is s.heap x.1 x.2.1
 | [],_,_,hr,r,x,hx=>by
  cases hr;cases r;cases hx
 | (k,d)::kvs,_,_,hr,r,x,hx=>by
  obtain⟨q,u,v,rest,rfl,h1,h2,h3,h4,h5⟩:=hr;cases r with
  | @cons _ x0 _ xs' h t=>
   rcases List.mem_cons.mp hx with rfl|hx
   ·obtain⟨g1,g2,g3⟩:=h;simp only at g1 g2 g3;subst g1;subst g2;exact⟨Sh.isN k _ _ (Rep.sh I k _ (.ref x.2.1) h3 rfl) h1,h2⟩
   ·exact K4 I h5 t x hx
def Hl(I:Inv X pins σ H s)(e:Rd H a (.dN ks))(hr:cU X.K H kvs ks):ks.length<=sizeLine/\(a == sysModules)=false/\∃xs,KN ks xs/\s.heap.DictOfH (ql X.prog X.w) a xs:=by obtain⟨z,y,xs,r,o,es,ep,h1,h2,h3,h4,h5⟩:=(show gq X.prog X.w H s.heap a (.dN ks) from e.ok I.hok);exact⟨z,y,xs,r,o,es,ep,h1,h2,h3,h4,K4 I hr r,h5⟩
def pN.is(k:pN X.K H y kd q)(I:Inv X pins σ H s)(ry:RelV y u):∃b,y = .ref b/\u = .ref b/\(ql X.prog X.w).is s.heap q b:=by obtain⟨h1,h2,h3,xs,rfl⟩:=k;have h4:=Sh.isN _ _ _ (Rep.sh I _ y u h1 ry) h2;obtain⟨_,b,vs,rfl,_⟩:=h1;cases ry;exact⟨b,rfl,rfl,h4,h3⟩
def yN(hu:A.units+12<cLine):(ql X.prog X.w).room A.in1:=by show A.units+1+10<cLine;omega
def afj{Q:Value->Shared->Prop}(hu:A.units+12<cLine)(I:Inv X pins σ H s)(e:Rd H a (.dN ks))(hr:cU X.K H kvs ks)(k:pN X.K H y kd q)(ry:RelV y u)
  (h:∀s',Inv X pins σ H s'->Q (.bool (valN ks q).isSome) s'):wpAny (model X.prog X.w) A (compareOp .In u (.ref a)) Q E s:=by
 obtain⟨b,rfl,rfl,hk⟩:=k.is I ry;obtain⟨z,hd,xs,rel,dd⟩:=Hl I e hr;refine wpAny_in_heap (yN hu) hk hd dd ?_;have q':=(rel.val q).lH;rw[Option.isSome_map] at q';rw[<-q'];exact h _ (I.tok _)
def Tj{Q:Value->Shared->Prop}(hu:A.units+12<cLine)(I:Inv X pins σ H s)(e:Rd H a (.dN ks))(hr:cU X.K H kvs ks)(k:pN X.K H y kd q)(ry:RelV y u)
  (h:∀s',Inv X pins σ H s'->Q (.bool (!(valN ks q).isSome)) s'):wpAny (model X.prog X.w) A (compareOp .NotIn u (.ref a)) Q E s:=by
 obtain⟨b,rfl,rfl,hk⟩:=k.is I ry;obtain⟨z,hd,xs,rel,dd⟩:=Hl I e hr;refine wpAny_notIn_heap (yN hu) hk hd dd ?_;have q':=(rel.val q).lH;rw[Option.isSome_map] at q';rw[<-q'];exact h _ (I.tok _)
def QV(ks:List (NK×V×V))(q:NK)(u v:V):(putN ks q u v).length<=ks.length+1:=by
 unfold putN;split
 ·rw[List.length_map];omega
 ·simp
def abT{r:Value}{Q:Unit->Shared->Prop}(hu:A.units+12<cLine)(I:Inv X pins σ H s)(e:H a=some (.dN ks))(hr:cU X.K H kvs ks)(k:pN X.K H y kd q)(hl:ks.length<sizeLine)(ry:RelV y u)(rv:RelV v r)
  (h:∀s',Inv X pins σ (upd H a (.dN (putN ks q y v))) s'->Q () s'):wpAny (model X.prog X.w) A (setItem (.ref a) u r) Q E s:=by
 obtain⟨b,rfl,rfl,hk⟩:=k.is I ry;obtain⟨z,hd,xs,rel,dd⟩:=Hl I (.inl e) hr;have hz:xs.length<=sizeLine:=by rw[<-rel.len];exact z
 have hl2:(putN ks q (.ref b) v).length<=sizeLine:=by have:=QV ks q (.ref b) v;omega
 refine wpAny_setItem_heap (hsz:=hz) (yN hu) hk dd λh' X5 hs=>h _ ?_;obtain⟨o,es,ep,hq,h2,h3,h4,_,h5⟩:=X5;exact yt I (by rw[e];exact True.intro) hs ⟨o,hq⟩ ⟨hl2,hd,_,rel.put q rv,o,es,ep,hq,h2,h3,h4,h5⟩
end
noncomputable def kJ(kvs:List (D×D))(q:NK):Option D:=(kvs.find? λp=>decide (tR p.1=some q)).map (·.2)
noncomputable def rE(kvs:List (D×D))(kd:D)(q:NK)(d:D):List (D×D):=if (kJ kvs q).isSome then kvs.map (λp=>if tR p.1=some q then (p.1,d) else p) else kvs++[(kd,d)]
theorem cU.len{K:Fg}{F:Hp}:∀{kvs:List (D×D)} {ks:List (NK×V×V)},cU K F kvs ks->ks.length=kvs.length
 | [],_,h=>by cases h;rfl
 | (k,d)::kvs,_,h=>by obtain⟨q,u,v,r,rfl,_,_,_,_,h5⟩:=h;rw[List.length_cons,List.length_cons,h5.len]
theorem cU.val{K:Fg}{F:Hp}(q:NK):∀{kvs:List (D×D)} {ks:List (NK×V×V)},cU K F kvs ks->(kJ kvs q=none/\valN ks q=none)\/∃d v,kJ kvs q=some d/\valN ks q=some v/\Rep K F d v
 | [],_,h=>by cases h;exact .inl ⟨rfl,rfl⟩
 | (k,d)::kvs,_,h=>by
  obtain⟨q0,u,v,r,rfl,h1,h2,h3,h4,h5⟩:=h;unfold kJ valN;rw[List.find?_cons,List.find?_cons];by_cases c:q0=q
  ·subst c;have c2:decide (tR k=some q0)=true:=decide_eq_true h1;rw[c2,decide_eq_true rfl];exact .inr ⟨d,v,rfl,rfl,h4⟩
  ·have c2:decide (tR k=some q)=false:=decide_eq_false λz=>c (by rw[h1] at z;exact Option.some.inj z);rw[c2,decide_eq_false c];exact cU.val q h5
theorem cU.snoc{K:Fg}{F:Hp}{kd d:D}{q:NK}{u v:V}(h1:tR kd=some q)(h2:q.dep<=8)(h3:Rep K F kd u)(h4:Rep K F d v):∀{kvs:List (D×D)} {ks:List (NK×V×V)},cU K F kvs ks->cU K F (kvs++[(kd,d)]) (ks++[(q,u,v)])
 | [],_,h=>by cases h;exact⟨q,u,v,[],rfl,h1,h2,h3,h4,rfl⟩
 | (k,e)::kvs,_,h=>by
  obtain⟨q0,u0,v0,r,rfl,g1,g2,g3,g4,g5⟩:=h;exact⟨q0,u0,v0,r++[(q,u,v)],rfl,g1,g2,g3,g4,cU.snoc h1 h2 h3 h4 g5⟩
theorem cU.over{K:Fg}{F:Hp}{d:D}{q:NK}{v:V}(h4:Rep K F d v):∀{kvs:List (D×D)} {ks:List (NK×V×V)},cU K F kvs ks->cU K F (kvs.map λp=>if tR p.1=some q then (p.1,d) else p) (ks.map λp=>if p.1=q then (p.1,p.2.1,v) else p)
 | [],_,h=>by cases h;rfl
 | (k,e)::kvs,_,h=>by
  obtain⟨q0,u0,v0,r,rfl,g1,g2,g3,g4,g5⟩:=h;rw[List.map_cons,List.map_cons];have ih:=cU.over (q:=q) h4 g5;by_cases c:q0=q
  ·subst c;rw[if_pos g1,if_pos rfl];exact⟨q0,u0,v,_,rfl,g1,g2,g3,h4,ih⟩
  ·rw[if_neg (λz=>c (by rw[g1] at z;exact Option.some.inj z)),if_neg c];exact⟨q0,u0,v0,_,rfl,g1,g2,g3,g4,ih⟩
def cU.put{K:Fg}{F:Hp}{kvs:List (D×D)}{ks:List (NK×V×V)}{kd d:D}{q:NK}{u v:V}(h:cU K F kvs ks)(h1:tR kd=some q)(h2:q.dep<=8)(h3:Rep K F kd u)(h4:Rep K F d v):cU K F (rE kvs kd q d) (putN ks q u v):=by
 have e:(kJ kvs q).isSome=(valN ks q).isSome:=by rcases h.val q with ⟨g1,g2⟩|⟨_,_,g1,g2,_⟩<;>rw[g1,g2]<;>rfl
 unfold rE putN;rw[e];split
 ·exact h.over h4
 ·exact h.snoc h1 h2 h3 h4
def M3(kvs:List (D×D))(kd:D)(q:NK)(d:D):(rE kvs kd q d).length<=kvs.length+1:=by
 unfold rE;split
 ·rw[List.length_map];omega
 ·simp
def gY.gR{K:Fg}{F H:Hp}{kvs:List (D×D)}{v:V}(s:aQ F H)(h:gY K F H (.gR kvs) v):kvs.length<=sizeLine/\∃a ks,v = .ref a/\Rd H a (.dN ks)/\cU K F kvs ks:=by
 rcases h with ⟨z,a,vs,rfl,h1,h2⟩|⟨a,rfl,z,vs,h1,h2⟩
 ·exact⟨z,a,vs,rfl,aQ.rd s h1,h2⟩
 ·exact⟨z,a,vs,rfl,.inl h1,h2⟩
def Gy(d:D):Option NK:=match d with
 | .tup xs=>(tR (.tup xs)).bind λq=>if q.dep<=8 then some q else none
 | _=>none
def qj{d:D}{q:NK}(h:Gy d=some q):tR d=some q/\q.dep<=8/\∃xs,d = .tup xs:=by
 unfold Gy at h;split at h
 ·obtain⟨p,h1,h2⟩:=Option.bind_eq_some_iff.mp h;split at h2
  ·rename_i hd;cases h2;exact⟨h1,hd,_,rfl⟩
  ·cases h2
 ·cases h
def pN.of{C:Cfg}{F H:Hp}{d:D}{q:NK}{v:V}(s:aQ F H)(p:gY C.K F H d v)(h:Gy d=some q):pN C.K H v d q:=by obtain⟨h1,h2,h3⟩:=qj h;exact⟨p.rep s,h1,h2,h3⟩
section
variable{X:Cx}{C:Cfg}{pos apos cpos:Pos}
def U5(K:Fg)(neg:Bool):R2:=λx y H Q=>∃a ks kvs kd q,y = .ref a/\Rd H a (.dN ks)/\cU K H kvs ks/\pN K H x kd q/\Q (.bl (if neg then !(valN ks q).isSome else (valN ks q).isSome)) H
def aak(hu:X.A.units+12<cLine):nu X (compareOp .In) (U5 X.K false):=by intro pins s σ H x y v u Q I rx ry h;obtain⟨a,ks,kvs,kd,q,rfl,g1,g2,g3,q2⟩:=h;cases ry;exact afj hu I g1 g2 g3 rx λs3 I3=>⟨.bl _,H,I3,rfl,q2⟩
def Nf(hu:X.A.units+12<cLine):nu X (compareOp .NotIn) (U5 X.K true):=by intro pins s σ H x y v u Q I rx ry h;obtain⟨a,ks,kvs,kd,q,rfl,g1,g2,g3,q2⟩:=h;cases ry;exact Tj hu I g1 g2 g3 rx λs3 I3=>⟨.bl _,H,I3,rfl,q2⟩
noncomputable def JP(k y:D):Option D:=match y with
 | .gR kvs=>(Gy k).map λq=>.bl (kJ kvs q).isSome
 | _=>none
noncomputable def qZ(k y:D):Option D:=match y with
 | .gR kvs=>(Gy k).map λq=>.bl (!(kJ kvs q).isSome)
 | _=>none
def aaC:pQ C (U5 C.K false) JP:=by
 intro Pr F env σ H x y d vx vy Q r px py e q;cases y with
 | gR kvs=>
  obtain⟨k,hk,rfl⟩:=Option.map_eq_some_iff.mp (show(Gy x).map (λq=>D.bl (kJ kvs q).isSome)=some d from e);obtain⟨z,a,ks,rfl,h1,h2⟩:=py.gR r.fr;refine⟨a,ks,kvs,_,k,rfl,h1,cU.mono r.fr _ _ h2,pN.of r.fr px hk,?_⟩;have e2:(valN ks k).isSome=(kJ kvs k).isSome:=by rcases h2.val k with ⟨g1,g2⟩|⟨d',v',g1,g2,_⟩<;>rw[g1,g2]<;>rfl
  rw[e2];exact q _ H F r (aQ.refl F) rfl
 | _=>cases e
def Nj:pQ C (U5 C.K true) qZ:=by
 intro Pr F env σ H x y d vx vy Q r px py e q;cases y with
 | gR kvs=>
  obtain⟨k,hk,rfl⟩:=Option.map_eq_some_iff.mp (show(Gy x).map (λq=>D.bl (!(kJ kvs q).isSome))=some d from e);obtain⟨z,a,ks,rfl,h1,h2⟩:=py.gR r.fr;refine⟨a,ks,kvs,_,k,rfl,h1,cU.mono r.fr _ _ h2,pN.of r.fr px hk,?_⟩;have e2:(valN ks k).isSome=(kJ kvs k).isSome:=by rcases h2.val k with ⟨g1,g2⟩|⟨d',v',g1,g2,_⟩<;>rw[g1,g2]<;>rfl
  rw[e2];exact q _ H F r (aQ.refl F) rfl
 | _=>cases e
def afl(G:Good X C):Cm X C .In JP:=⟨_,aak (by have:=G.un;omega),by rw[G.K];exact aaC⟩
def TF(G:Good X C):Cm X C .NotIn qZ:=⟨_,Nf (by have:=G.un;omega),by rw[G.K];exact Nj⟩
def Tg{P:Program}{w:World}{H:Hp}(h:Heap)(hb:sysModules<h.objs.size):gq P w H (h.push { cls:=.type "dict",data:=.dict #[] }) h.objs.size (.dN []):=
 ⟨Nat.zero_le _,beq_eq_false_iff_ne.mpr (Ne.symm (Nat.ne_of_lt hb)),[],.nil,_, #[],0,Heap.get?_push_size _ rfl,⟨rfl,rfl,rfl⟩,rfl,rfl,List.nodup_nil⟩
noncomputable def ou(i:Nat)(k a:Ev):bW:=λenv=>dD (a env) λd aM=>match aM[i]? with
 | some (some (_,_))=>dD (k aM) λkd dH=>(match dH[i]?,Gy kd with
  | some (some (true,.gR kvs)),some q=>if kvs.length<sizeLine then .nx (dH.set i (some (true,.gR (rE kvs kd q d)))) else .stuck
  | _,_=>.stuck)
 | _=>.stuck
def PN(K:Fg)(td ty tv:TE):TS:=λD σ H=>tv σ H λv H1=>td σ H1 λx H2=>ty σ H2 λy H3=>∃a ks kvs kd q,x = .ref a/\H3 a=some (.dN ks)/\cU K H3 kvs ks/\pN K H3 y kd q/\ks.length<sizeLine/\D.nx σ (upd H3 a (.dN (putN ks q y v)))
def Q4{o i value:Expr}{pos':Pos}{td ty tv:TE}(hu:X.A.units+12<cLine)(ho:PE X o td)(hi:PE X i ty)(hv:PE X value tv)(hs:swapsWith value (some (.Subscript o i pos')) pos.line X.env=pure false) :
  PS X (.Assign [.Subscript o i pos'] value pos) (PN X.K td ty tv):=by
 intro pins s σ H D I h;refine wpAny_Assign_Subscript (gr (hv pins s σ H _ I h) λr s1 ⟨v,H1,I1,rv,q1⟩=>gr (ho pins s1 σ H1 _ I1 q1) λu s2 ⟨x,H2,I2,rx,q2⟩=>gr (hi pins s2 σ H2 _ I2 q2) λiv s3 ⟨y,H3,I3,ry,a,ks,kvs,kd,q,ex,g1,g2,g3,g4,q3⟩=>?_) hs;subst ex;obtain rfl:u=Value.ref a:=rx;exact abT hu I3 g1 g2 g3 g4 ry rv λs4 I4=>⟨σ,_,I4,q3⟩
def UG{n:Str}{k e:Expr}{ek a:Ev}{px pos':Pos}(i:Nat)(G:Good X C)(hk:PX X C k ek)(he:PX X C e a)(hN:X.N[i]? = some n:=by rfl)(hv:pD X.env.scope n:=by first|exact Or.inl rfl|exact Or.inr (Or.inl rfl)|exact Or.inr (Or.inr rfl))
  (hs:swapsWith e (some (.Subscript (.Name n px) k pos')) pos.line X.env=pure false:=by rfl)
  (hd:iZ n:=by decide) (hcd:oU n:=by decide):yw X C (.Assign [.Subscript (.Name n px) k pos'] e pos) (ou i ek a):=by
 have h0:PS X (.Assign [.Subscript (.Name n px) k pos'] e pos) (PN X.K _ _ _):=Q4 (by have:=G.un;omega) (jk hN hv hd hcd) hk he hs;rw[G.K] at h0;refine h0.imp λD σ H h=>?_;obtain⟨Pr,F,env,r,f⟩:=h;obtain⟨d,aM,e1,f1⟩:=dJ f;refine⟨Pr,F,env,aM,d,r,e1,λv H1 F1 r1 s1 p1=>?_⟩;split at f1
 ·rename_i o0 d0 h0;obtain⟨v0,hv0,_⟩:=r1.rd h0;obtain⟨kd,dH,e2,f2⟩:=dJ f1;refine⟨v0,hv0,Pr,F1,aM,dH,kd,r1,e2,λvk H2 F2 r2 s2 p2=>?_⟩;split at f2
  ·rename_i kvs q h2 hq;split at f2
   ·rename_i hz;obtain⟨b,g1,⟨z,ks,g2,g3⟩,g4,g5⟩:=r2.own i _ h2;rw[hv0] at g1;cases g1;have hz':ks.length<sizeLine:=by rw[g3.len];exact hz
    obtain⟨n1,n2,n3⟩:=qj hq;refine⟨b,ks,kvs,kd,q,rfl,g2,cU.mono r2.fr _ _ g3,⟨Rep.mono r2.fr _ _ p2,n1,n2,n3⟩,hz',?_⟩;refine f2 σ _ F2 (r2.write h2 hv0 ⟨Nat.le_trans (M3 _ _ _ _) hz,_,aZ,g3.put n1 n2 p2 (Rep.mono s2 _ _ p1)⟩) (s1.trans s2)
   ·exact f2.elim
  ·exact f2.elim
 ·exact f1.elim
def Pa(K:Fg)(tk tv:TE):TE:=λσ H Q=>∀p,H p=none->tk σ (upd H p (.dN [])) λx H1=>tv σ H1 λy H2=>H2 p=some (.dN [])/\∃kd q,pN K H2 x kd q/\Q (.ref p) (upd H2 p (.dN [(q,x,y)]))
def Rf{k v:Expr}{tk tv:TE}(hu:X.A.units+12<cLine)(hk:PE X k tk)(hv:PE X v tv):PE X (.Dict [some k] [v] pos) (Pa X.K tk tv):=by intro pins s σ H Q I q;have hn:=I.hok.fresh (Nat.le_refl s.heap.objs.size);have I1:=I.laid (a:=s.heap.objs.size) (o:=.dN []) (h':=s.heap.push { cls:=.type "dict",data:=.dict #[] }) (t':=s.toks) (λ_ _ q=>Heap.get?_push_of_some _ q) (Nat.le_refl _) (Tg s.heap I.big);rw[arm_eval_Dict,zip_pairTrees [some k] [v] X.env pos rfl rfl,dictDisplay_pairs (pairTrees [some k] [v] X.env pos) (by intro z;cases z) (by rw[pairTrees_length [some k] [v] X.env pos rfl rfl];simp)];refine wpAny_bind (wpAny_standAt (wpAny_bind ?_));unfold subDict;refine wpAny_bind (wpAny_alloc ?_);refine wpAny_bind (wpAny_holding ?_);rw[if_pos (by rw[pairTrees_length [some k] [v] X.env pos rfl rfl];simp)];refine wpAny_bind (pairTrees_cons_walk (gr (hk pins _ σ _ _ I1 (q _ hn)) λu s1 ⟨x,H1,J1,rx,q1⟩=>gr (hv pins s1 σ H1 _ J1 q1) λw2 s2 ⟨y,H2,J2,ry,e,kd,qq,ka,q2⟩=>pairTrees_nil_walk ?_));refine wpAny_holding ?_;refine wpAny_bind ?_;rw[List.forIn_cons];obtain⟨b,rfl,rfl,hkk⟩:=ka.is J2 rx;obtain⟨_,hd,xs,rel,dd⟩:=Hl (kvs:=[]) J2 (.inl e) rfl;cases rel;refine wpAny_bind (wpAny_bind (wpAny_dictSet_heap (hsz:=Nat.zero_le _) (show X.A.units+10<cLine by omega) hkk dd λh' X5 hs=>wpAny_pure ?_));show wpAny _ _ (forIn ([]:List (Value×Value)) PUnit.unit _) _ _ _;rw[List.forIn_nil];refine wpAny_pure (wpAny_pure (wpAny_pure (wpAny_pure ?_)));obtain⟨o,es,ep,hq,h2,h3,h4,_,h5⟩:=X5;exact⟨.ref s.heap.objs.size,_,yt (ob:=.dN [(qq,.ref b,y)]) J2 (by rw[e];exact True.intro) hs ⟨o,hq⟩ ⟨by show 1<=sizeLine;decide,hd,[(qq,b,w2)],.cons ⟨rfl,rfl,ry⟩ .nil,o,es,ep,hq,h2,h3,h4,h5⟩,rfl,q2⟩
def o5(k a:Ev):Ev:=λenv=>bindR (k env) λkd e1=>bindR (a e1) λd e2=>match Gy kd with
 | some _=>.ok (.gR [(kd,d)]) e2
 | none=>.stuck
def QD{k v:Expr}{ek ev:Ev}(G:Good X C)(hk:PX X C k ek)(hv:PX X C v ev):J8 X C (.Dict [some k] [v] pos) (o5 ek ev):=by
 have h0:PE X (.Dict [some k] [v] pos) (Pa X.K _ _):=Rf (by have:=G.un;omega) hk hv;rw[G.K] at h0;refine h0.imp λσ H Q hq=>?_;obtain⟨Pr,F,env,env',d,r,e,q⟩:=hq;obtain⟨kd,aM,e1,e2⟩:=aW e;obtain⟨dv,dH,e3,e4⟩:=aW e2;split at e4
 ·rename_i qq hqq;cases e4;obtain⟨n1,n2,n3⟩:=qj hqq;intro p hp;have ra:=r.aside (o:=.dN []) hp;have nP:Pr p=none:=r.pr.free hp;refine⟨upd Pr p (.dN []),F,env,aM,kd,ra,e1,λx H1 F1 r1 s1 p1=>⟨upd Pr p (.dN []),F1,aM,env',dv,r1,e3,λy H2 F2 r2 s2 p2=>⟨r2.pr p _ aZ,kd,qq,⟨Rep.mono r2.fr _ _ (Rep.mono s2 _ _ p1),n1,n2,n3⟩,?_⟩⟩⟩;have r3:=r2.turn (u:=.dN [(qq,x,y)]) aZ;have nF:F2 p=none:=by
   cases hF:F2 p with
   | none=>rfl
   | some o=>have:=r2.dj p o hF;rw[aZ] at this;cases this
  have r4:Rel C Pr F2 env' σ (upd H2 p (.dN [(qq,x,y)])):=r3.less λb o hb=>by
   have hne:b≠p:=λz=>by rw[z,nP] at hb;cases hb
   rw[bH hne,bH hne];exact hb
  refine q p _ F2 r4 (s1.trans s2) ⟨⟨by show 1<=sizeLine;decide,_,aZ,⟨qq,x,y,[],rfl,n1,n2,Rep.mono s2 _ _ p1,p2,rfl⟩⟩,nF,nP,λj e he hs=>?_⟩;obtain⟨b,h1,_,_,h4⟩:=r2.own j e he;rw[hs] at h1;cases h1;rw[aZ] at h4;cases h4
 ·cases e4
def Ga{n:Str}{k e:Expr}{ek a:Ev}{px pos':Pos}(i:Nat)(G:Good X C)(hk:SX X C k ek)(he:SX X C e a)(hN:X.N[i]? = some n:=by rfl)(hv:pD X.env.scope n:=by first|exact Or.inl rfl|exact Or.inr (Or.inl rfl)|exact Or.inr (Or.inr rfl))
  (hs:swapsWith e (some (.Subscript (.Name n px) k pos')) pos.line X.env=pure false:=by rfl)
  (hd:iZ n:=by decide) (hcd:oU n:=by decide):HN X C (.Assign [.Subscript (.Name n px) k pos'] e pos) (ou i ek a):=⟨Ev.UG i G hk.u he.u hN hv hs hd hcd⟩
def Bs{k v:Expr}{ek ev:Ev}(G:Good X C)(hk:SX X C k ek)(hv:SX X C v ev):WY X C (.Dict [some k] [v] pos) (o5 ek ev):=⟨Ev.QD G hk.u hv.u⟩
end
end Ev
namespace SI
open PySem PySem.Spec PyProof.Rows L2 PySem.Builtin
def Ris(xs:Array Nat):Prop:=∀i j,i<j->j<xs.size->xs.getD i 0<xs.getD j 0
structure Pl(t:SetTable):Prop where
 dm:t.dummies = #[]
 ri:Ris t.place
open SX (led)
structure TOk(P:Program)(w:World)(es:Array (Int×Value))(t:SetTable)(ys:List Int):Prop where
 el:ElemsOf (intKind P w) es.toList
 tx:∃ss:List Int,IntsAre (es.toList.map (·.2)) ss/\ss.Perm ys
 fit:t.fits es.size=true
 ld:t.led=led w
 pl:Pl t
def J6(P:Program)(w:World)(h:Heap)(a:Addr)(ys:List Int):Prop:=
 ∃o es ep t,h.get? a=some o/\o.ExactSet/\o.data = .set es ep t/\TOk P w es t ys
open PySem PySem.Spec PyProof.Rows L2 PySem.Builtin Ev
def afs(P:Program)(w:World)(a:Addr)(ys:List Int):HO:=.ext λh=>J6 P w h a ys
end SI
namespace Ev
open PySem PySem.Spec PyProof.Rows L2 PySem.Builtin
instance (zs:List Int):Decidable (zs.Pairwise (·< ·)):=inferInstance
end Ev
namespace L2
open PySem PySem.Spec PyProof.Rows
structure lK(N P Q:List Str)(sc:Scope):Prop where
 kind:sc.kind = .function
 co:sc.isCoroutine=false
 gen:sc.isGenerator=false
 nd:N.Nodup
 pre:N.take (P.length+Q.length)=P++Q
 par:∀x∈P,sc.names.lookup x=some .local
 fre:∀x,sc.names.lookup x=some .free->x∈Q
 frk:∀x∈Q,sc.names.lookup x=some .free
 Rw:∀y∈sc.names,y.2 ≠ .cell
def cxN(CX:Ot)(P:Program)(w:World)(K:PySem.W.Frag)(mg:Str->Option Value)(base:Heap)(N:List Str)(qual:Str)(scope:Scope)(f:Addr)(cd:Value)(cl:List (Str×Addr))(A:Around)(outer:List Env)(s:Shared)(H:Hp)(E:XK):Cx where
 prog:=P
 w:=w
 K:=K
 mg:=mg
 base:=base
 A:=A.deeper (PySem.W.envX qual scope s.heap.objs.size f cd cl)
 N:=N
 s₀:=s
 H₀:=H
 env:=PySem.W.envX qual scope s.heap.objs.size f cd cl
 outer:=outer
 stack:=PySem.W.envX qual scope s.heap.objs.size f cd cl::outer
 ex:=[]
 calm:=true
 fn:=λ_=>false
 pn:=[]
 xe:=λe s'=>wpAny (model P w) (A.deeper (PySem.W.envX qual scope s.heap.objs.size f cd cl)) (leaving (PySem.W.envX qual scope s.heap.objs.size f cd cl) e) (λ_ s''=>CX outer H s E e s'') (λe' s''=>CX outer H s E e' s'') s'
def zc{ps:List Str}{us:List Value}{i:Nat}{x:Str}{u:Value}(nd:ps.Nodup)(h1:ps[i]? = some x)(h2:us[i]? = some u):(ps.zip us).reverse.lookup x=some u:=by
 have go:∀{l:List (Str×Value)},(l.map (·.1)).Nodup->(x,u)∈l->l.lookup x=some u:=by
  intro l
  induction l with
  | nil=>intro _ h;cases h
  | cons p r ih=>
   intro hn hm;rw[List.map_cons,List.nodup_cons] at hn;rcases List.mem_cons.mp hm with e|hm
   ·subst e;simp[List.lookup_cons]
   ·rw[List.lookup_cons];cases hb:x == p.1 with
    | false=>exact ih hn.2 hm
    | true=>
     have:=eq_of_beq hb;exact absurd (List.mem_map_of_mem (f:=(·.1)) hm) (this ▸ hn.1)
 refine go ?_ (List.mem_reverse.mpr ?_)
 ·rw[List.map_reverse];have:∀(a:List Str) (b:List Value),a.Nodup->((a.zip b).map (·.1)).Nodup:=by
   intro a
   induction a with
   | nil=>intro b _;exact .nil
   | cons y a ih=>
    intro b hn;cases b with
    | nil=>exact .nil
    | cons v b=>
     rw[List.zip_cons_cons,List.map_cons,List.nodup_cons];refine⟨λhm=>?_,ih b (List.nodup_cons.mp hn).2⟩;obtain⟨q,hq,e⟩:=List.mem_map.mp hm;have e':q.1=y:=e;exact(List.nodup_cons.mp hn).1 (e' ▸ (List.of_mem_zip (a:=q.1) (b:=q.2) hq).1)
  exact List.pairwise_reverse.mpr ((this ps us nd).imp λh=>Ne.symm h)
 ·obtain⟨l1,e1⟩:=List.getElem?_eq_some_iff.mp h1;obtain⟨l2,e2⟩:=List.getElem?_eq_some_iff.mp h2;refine List.mem_iff_getElem?.mpr ⟨i,?_⟩;rw[List.getElem?_zip_eq_some];exact⟨h1,h2⟩
theorem BJ:∀{l:List (Str×Addr)} {i:Nat} {x:Str} {c:Addr},(l.map (·.1)).Nodup->l[i]? = some (x,c)->l.lookup x=some c
 | [],_,_,_,_,h=>by simp at h
 | p::r,0,x,c,_,h=>by
  simp at h;subst h;simp[List.lookup_cons]
 | p::r,i+1,x,c,hn,h=>by
  rw[List.map_cons,List.nodup_cons] at hn;have hm:r[i]? = some (x,c):=by simpa using h
  rw[List.lookup_cons];cases hb:x == p.1 with
  | false=>exact BJ hn.2 hm
  | true=>
   have:=eq_of_beq hb;exact absurd (List.mem_map_of_mem (f:=(·.1)) (List.mem_of_getElem? hm)) (this ▸ hn.1)
theorem mem_lookup:∀{l:List (Str×Addr)} {x:Str} {c:Addr},l.lookup x=some c->∃i:Nat,l[i]? = some (x,c)
 | [],_,_,h=>by simp at h
 | p::r,x,c,h=>by
  rw[List.lookup_cons] at h;cases hb:x == p.1 with
  | false=>
   rw[hb] at h;obtain⟨i,e⟩:=mem_lookup h;exact⟨i+1,by simpa using e⟩
  | true=>
   rw[hb] at h;have e1:=eq_of_beq hb;have e2:p.2=c:=by simpa using h
   exact⟨0,by subst e1 e2;rfl⟩
theorem has_lookup:∀{l:List (Str×Addr)} {x:Str},x∈l.map (·.1)->∃c,l.lookup x=some c
 | [],x,h=>by simp at h
 | p::r,x,h=>by
  rw[List.lookup_cons];cases hb:x == p.1 with
  | true=>exact⟨_,rfl⟩
  | false=>
   rw[List.map_cons,List.mem_cons] at h;rcases h with e|h
   ·subst e;simp at hb
   ·exact has_lookup h
theorem Ss{CX:Ot}{P:Program}{w:World}{K:PySem.W.Frag}{mg:Str->Option Value}{base:Heap}{N ps qs:List Str}{qual:Str}{scope:Scope}{f:Addr}{cd:Value}{cl:List (Str×Addr)}{A:Around}{outer:List Env}{s:Shared}{H:Hp}{E:XK}{us:List Value}{vs BZ:List V}{h₁:Heap}{tk:Nat}
  (S:lK N ps qs scope) (hd:A.handled=none) (e0:HB P w K mg base A outer s H) (hl:vs.length=ps.length) (r:Vals vs us) (hc1:cl.map (·.1)=qs) (hc2:(cl.map (·.2)).Nodup) (hc3:BZ.length=cl.length)
  (hc:∀(i:Nat) x c v,cl[i]? = some (x,c)->BZ[i]? = some v->∃o u w,H c=some (.j5 o u)/\o.data = .cell (some w)/\RelV v w)
  (hn:h₁.Ns s.heap.objs.size (λx=>(ps.zip us).reverse.lookup x)) (hk:∀b o,s.heap.get? b=some o->h₁.get? b=some o) :
  Inv (cxN CX P w K mg base N qual scope f cd cl A outer s H E) [] (start N (vs++BZ)) H { s with heap:=h₁,toks:=tk }:=by
 have hlen:(vs++BZ).length=ps.length+qs.length:=by rw[List.length_append,hl,hc3,<-hc1,List.length_map]
 have hpl:ps.length+qs.length<=N.length:=by have:=congrArg List.length S.pre;rw[List.length_take,List.length_append] at this;omega
 have ndQ:(ps++qs).Nodup:=by rw[<-S.pre];exact S.nd.sublist (List.take_sublist _ _)
 have ndP:ps.Nodup:=(List.nodup_append.mp ndQ).1;have ndC:(cl.map (·.1)).Nodup:=by rw[hc1];exact(List.nodup_append.mp ndQ).2.1
 have cv:∀(i:Nat) x c,cl[i]? = some (x,c)->∃v o u w,BZ[i]? = some v/\H c=some (.j5 o u)/\o.data = .cell (some w)/\RelV v w/\s.heap.get? c=some o:=λi x c e=>by
  have hi:i<BZ.length:=by rw[hc3];exact(List.getElem?_eq_some_iff.mp e).1
  obtain⟨o,u,w,q1,q2,q3⟩:=hc i x c BZ[i] e (List.getElem?_eq_getElem hi);exact⟨_,o,u,w,List.getElem?_eq_getElem hi,q1,q2,q3,(e0.hok c _ q1).1⟩
 have Ua:∀b:Addr,b ∉ (cxN CX P w K mg base N qual scope f cd cl A outer s H E).ex:=λb z=>absurd (show b∈([]:List Addr) from z) (by simp);refine⟨⟨e0.mod,S.kind,rfl,rfl,Nat.le_refl _,λy z c h1 h2=>?_,λy hy=>?_,λy c h _=>?_,λ_=>hd,Around.frames_deeper e0.frames,.inr ⟨rfl,rfl⟩,λb z=>absurd z (Ua b),e0.bs,e0.TQ,λb _ _=>Ua b,λb z=>absurd z (Ua b),e0.uI,e0.XX⟩,
  rfl,e0.bare,Un.kept hk,⟨_,hn,λi y v h1 h2 h3=>?_⟩,λy c h=>?_,e0.hok.fresh (Nat.le_refl _),λy c h=>?_,λp hp=>absurd (show p∈([]:List (Addr×Obj)) from hp) (by simp),e0.hok.kept hk,?_⟩
 ·obtain⟨i,e1⟩:=mem_lookup (show cl.lookup y=some c from h1);obtain⟨j,e2⟩:=mem_lookup (show cl.lookup z=some c from h2);have g1:(cl.map (·.2))[i]? = some c:=by rw[List.getElem?_map,e1];rfl
  have g2:(cl.map (·.2))[j]? = some c:=by rw[List.getElem?_map,e2];rfl
  have hij:i=j:=by obtain⟨l1,f1⟩:=List.getElem?_eq_some_iff.mp g1;obtain⟨l2,f2⟩:=List.getElem?_eq_some_iff.mp g2;exact(List.getElem_inj hc2).mp (f1.trans f2.symm)
  subst hij;rw[e1] at e2;cases e2;rfl
 ·have hy:scope.names.lookup y=some .cell\/scope.names.lookup y=some .free:=hy;rcases hy with hy|hy
  ·exact absurd rfl (S.Rw _ (PySem.mem_of_lookup hy))
  ·exact has_lookup (show y∈cl.map (·.1) by rw[hc1];exact S.fre y hy)
 ·cases h
 ·have hi:i<(vs++BZ).length:=by
   unfold start at h2;by_cases hi:i<(vs++BZ).length
   ·exact hi
   ·rw[List.getElem?_append_right (by simpa using hi)] at h2;rw[List.getElem?_replicate] at h2;split at h2<;>cases h2
  have ha:(vs++BZ)[i]? = some v:=by
   unfold start at h2;rw[List.getElem?_append_left (by simpa using hi),List.getElem?_map] at h2;cases e:(vs++BZ)[i]? with
   | none=>rw[e] at h2;cases h2
   | some a=>rw[e] at h2;cases h2;rfl
  have hp:(ps++qs)[i]? = some y:=by rw[<-S.pre,List.getElem?_take_of_lt (by omega)];exact h1
  by_cases hi1:i<vs.length
  ·rw[List.getElem?_append_left hi1] at ha;rw[List.getElem?_append_left (by omega)] at hp;obtain⟨u,hu,rv⟩:=r.get ha;exact⟨u,rv,.inl ⟨S.par y (List.mem_of_getElem? hp),zc ndP hp hu⟩⟩
  ·rw[List.getElem?_append_right (by omega)] at ha hp;rw[hl] at ha;obtain⟨li,ei⟩:=List.getElem?_eq_some_iff.mp ha;have hci:i - ps.length<cl.length:=by omega
   have hcl:cl[i - ps.length]? = some cl[i - ps.length]:=List.getElem?_eq_getElem hci;have hy:(cl[i - ps.length]).1=y:=by
    have:(cl.map (·.1))[i - ps.length]? = some y:=by rw[hc1];exact hp
    rw[List.getElem?_map,hcl] at this;exact Option.some.inj this
   obtain⟨x',c⟩:∃c,cl[i - ps.length]=(y,c):=⟨_,by rw[<-hy]⟩;rw[c] at hcl;obtain⟨o,u,w,q1,q2,q3⟩:=hc _ _ _ _ hcl ha;refine⟨w,q3,.inr ⟨.inr (S.frk y (List.mem_of_getElem? hp)),x',BJ ndC hcl,o,hk _ _ (e0.hok _ _ q1).1,q2⟩⟩
 ·obtain⟨i,e1⟩:=mem_lookup (show cl.lookup y=some c from h);obtain⟨v,o,u,w,q1,q2,q3,q4,q5⟩:=cv i y c e1;exact⟨_,o,hk _ _ q5,q3⟩
 ·obtain⟨i,e1⟩:=mem_lookup (show cl.lookup y=some c from h);obtain⟨v,o,u,w,q1,q2,q3,q4,q5⟩:=cv i y c e1;exact .inr ⟨rfl,o,u,q2⟩
 ·unfold start;show _=N.length;rw[List.length_append,List.length_map,List.length_replicate];omega
theorem P0{CX:Ot}{P:Program}{w:World}{K:PySem.W.Frag}{mg:Str->Option Value}{base:Heap}{k:Nat}{f c:Addr}{name qual:Str}{params:Arguments}{body:List Stmt}{scope:Scope}{doc pm ctv:Value}{u0 u1:HO}{co:Obj}{abV:Array Value}{t1:Tok}{cl:List (Str×Addr)}
  {N ps qs:List Str} {A:Around} {outer:List Env} {s:Shared} {H:Hp} {args:Args} {us:List Value} {vs BZ:List V} {Q:VK} {E:XK}
  (S:lK N ps qs scope) (hr:fJ (k+1) A) (e0:HB P w K mg base A outer s H) (hb:BindsTo s (PySem.W.fnX name qual params body scope cl .none .none doc pm none (.ref c) ctv) args (ps.zip us)) (hl:vs.length=ps.length) (r:Vals vs us)
  (hc1:cl.map (·.1)=qs) (hc2:(cl.map (·.2)).Nodup) (hc3:BZ.length=cl.length)
  (hc:∀(i:Nat) x c v,cl[i]? = some (x,c)->BZ[i]? = some v->∃o u w,H c=some (.j5 o u)/\o.data = .cell (some w)/\RelV v w)
  (hf:H f=some (.j5 (PySem.W.fnMade name qual params body scope cl doc pm c ctv) u0)) (hco:H c=some (.j5 co u1)) (hcd:co.data = .fields abV) (hcq:abV[1]? = some (.str qual t1))
  (hbody:∃t,Et (cxN CX P w K mg base N qual scope f (.ref c) cl A outer s H E) body t/\t { nx:=λ_ H'=>Q .non H',rt:=Q } (start N (vs++BZ)) H) :
  codeAny (model P w) A (.call (.ref f) args) (CR CX outer P w H s Q E) s:=by
 have KX:K.In s.heap:=e0.mod.HJ.keeps λb o e=>(e0.bs b o e).1;have lim:s.heap.NoLimit:=e0.mod.nolimit.keeps λb o e=>(e0.bs b o e).1;have hloc:∀y∈ps.zip us,scope.names.lookup y.1=some .local:=λy hy=>S.par y.1 (List.of_mem_zip (a:=y.1) (b:=y.2) hy).1;refine codeAny_call_def (fd:=PySem.W.fnX name qual params body scope cl .none .none doc pm none (.ref c) ctv) (body:=body) (binds:=ps.zip us) hr.depth (e0.hok f _ hf).1 rfl lim ⟨c,co,abV,t1,rfl,(e0.hok c _ hco).1,hcd,hcq⟩ rfl hb S.Rw hloc (λh₁ hns hk₁=>?_) S.co S.gen S.kind;obtain⟨t,ht,hq⟩:=hbody;have I:Inv (cxN CX P w K mg base N qual scope f (.ref c) cl A outer s H E) [] (start N (vs++BZ)) H { s with heap:=h₁,toks:=s.toks+(ps.zip us).length }:=Ss S hr.hd e0 hl r hc1 hc2 hc3 hc hns hk₁;refine wpAny_mono (ht [] _ (start N (vs++BZ)) H _ I hq) (λfl s' hs=>?_) λe s' hs=>hs;have fin:∀{σ':St} {H':Hp} {v:V} {u:Value},Inv (cxN CX P w K mg base N qual scope f (.ref c) cl A outer s H E) [] σ' H' s'->RelV v u->Q v H'->CE outer P w H s Q u s':=
  λ{σ' H' v u} J rv q=>⟨v,H',J.os,J.bare,J.base,J.hok,rv,q⟩
 cases fl with
 | ret u=>
  obtain⟨v,σ',H',J,rv,q⟩:=hs;exact fin J rv q
 | next=>
  obtain⟨σ',H',J,q⟩:=hs;exact fin (v:=V.non) (u:=Value.none) J rfl q
 | brk=>
  obtain⟨_,_,_,q⟩:=hs;exact False.elim q
 | cont=>
  obtain⟨_,_,_,q⟩:=hs;exact False.elim q
end L2
namespace Ev
open PySem PySem.Spec PyProof.Rows L2
def vm(P:Program)(w:World)(K:Fg)(mg:Str->Option Value)(base:Heap)(k:Nat)(st:Stmt)(g:List D->List D->Option D):Prop:=
 ∀(A:Around) (outer:List PySem.Env) (s:Shared) (H:Hp) (us:List Value) (vs:List V) (Q:VK) (E:XK) (a:Addr) (F:Hp) (jE ds:List D) (d:D),
  fJ k A->HB P w K mg base A outer s H->Vals vs us->aQ F H->Rep K F (.clo st jE) (.ref a)->bT K F ds vs->g jE ds=some d->
  (∀v H' F',aQ H H'->aQ F' H'->aQ F F'->(∀b o,F' b=some o->F b=some o\/H b=none)->Rep K F' d v->Q v H')->
  codeAny (model P w) A (.call (.ref a) ⟨us,[]⟩) (CR xx outer P w H s Q E) s
def vm.mono{P:Program}{w:World}{K:Fg}{mg:Str->Option Value}{base:Heap}{j k:Nat}{st:Stmt}{g:List D->List D->Option D}(h:vm P w K mg base j st g)(e:j<=k):vm P w K mg base k st g:=
 λA outer s H us vs Q E a F jE ds d hr=>h A outer s H us vs Q E a F jE ds d (hr.mono e)
def runC(n m:Nat)(ev:bW)(jE ds:List D):Option D:=if ds.length=n then (match ev (envOf m (ds++jE)) with
 | .rt false d _=>some d
 | .nx _=>some .non
 | _=>none) else none
abbrev bxN(P:Program)(w:World)(K:Fg)(mg:Str->Option Value)(base:Heap)(N:List Str)(qual:Str)(st:Stmt)(f:Addr)(cdv:Value)(cl:List (Str×Addr))(A:Around)(outer:List PySem.Env)(s:Shared)(H:Hp)(E:XK):Cx:=(cxN xx P w K mg base N qual (aL st) f cdv cl A outer s H E).VV
theorem Ce{F:Hp}:∀{cl:List (Str×Addr)} {vs:List V},pG F cl vs->vs.length=cl.length
 | [],_,h=>by cases h;rfl
 | (_,c)::r,_,⟨v,vs',h0,_,h3⟩=>by subst h0;rw[List.length_cons,List.length_cons,Ce h3]
theorem Hs{F:Hp}:∀{cl:List (Str×Addr)} {vs:List V},pG F cl vs->∀(i:Nat) x c v,cl[i]? = some (x,c)->vs[i]? = some v->T9 F c v
 | [],_,_,i,x,c,v,e,_=>by simp at e
 | (_,c0)::r,_,⟨v0,vs',h0,h1,h3⟩,0,x,c,v,e,e2=>by subst h0;simp at e e2;obtain⟨_,rfl⟩:=e;subst e2;exact h1
 | (_,c0)::r,_,⟨v0,vs',h0,h1,h3⟩,i+1,x,c,v,e,e2=>by subst h0;exact Hs h3 i x c v (by simpa using e) (by simpa using e2)
def Tq{P:Program}{w:World}{K:Fg}{mg:Str->Option Value}{base:Heap}{k:Nat}{st:Stmt}{N ps:List Str}{ev:bW}(S:lK N ps (freeOf st) (aL st))
  (hbind:∀{q:Str} {cl:List (Str×Addr)} {doc pm cv ctv:Value} (us:List Value),us.length=ps.length->bindArgs (PySem.W.fnX (defName st) q (gh st) (cI st) (aL st) cl .none .none doc pm none cv ctv) ⟨us,[]⟩=pure (ps.zip us))
  (hb:∀(q:Str) (f:Addr) (cdv:Value) (cl:List (Str×Addr)) (A:Around) (outer:List PySem.Env) (s:Shared) (H:Hp) (E:XK),fJ k (A.deeper (PySem.W.envX q (aL st) s.heap.objs.size f cdv cl))->Good (bxN P w K mg base N q st f cdv cl A outer s H E) (C0 K)->my (bxN P w K mg base N q st f cdv cl A outer s H E) (C0 K) (cI st) ev) :
  vm P w K mg base (k+1) st (runC ps.length N.length ev):=by
 intro A outer s H us vs Q E a F jE ds d hr e0 r sF hclo p e q;obtain⟨a',BZ,hv,⟨u,qn,cl,doc,pm,ctv,c,h1,⟨co,u2,ws,t,h2,h3,h4⟩,h5,h6,h7⟩,pc⟩:=hclo;cases hv;unfold runC at e;split at e
 ·rename_i hl;have hlv:vs.length=ps.length:=by rw[p.length];exact hl
  have hlu:us.length=ps.length:=by rw[<-r.length];exact hlv
  refine P0 (N:=N) (ps:=ps) (qs:=freeOf st) (us:=us) (vs:=vs) (BZ:=BZ) S hr e0 (.of_eq (hbind us hlu)) hlv r h5 h6 (Ce h7) (λi x c v e1 e2=>?_) (sF _ _ h1) (sF _ _ h2) h3 h4 ?_
  ·obtain⟨o,u,w,g1,g2⟩:=Hs h7 i x c v e1 e2;exact⟨o,u,w,sF _ _ g1,g2⟩
  ·have hr':=hr.deeper (PySem.W.envX qn (aL st) s.heap.objs.size a (.ref c) cl);refine⟨tS (C0 K) ev,(hb qn a (.ref c) cl A outer s H E hr' ⟨rfl,rfl,hr'.units⟩).VV,Ay H F,F,envOf N.length (ds++jE),qT sF (p.append pc),?_⟩;split at e
   ·rename_i d' env' h1;cases e;rw[h1];exact λv σ' H' F' r' s' p'=>q v H' F' (aQ.sS r'.pr s' r'.fr sF) r'.fr s' (sW s' r'.dj) p'
   ·rename_i env' h1;cases e;rw[h1];exact λσ' H' F' r' s'=>q .non H' F' (aQ.sS r'.pr s' r'.fr sF) r'.fr s' (sW s' r'.dj) rfl
   ·cases e
 ·cases e
def kW(Φ:Stmt->List D->List D->Option D)(i:Nat)(a:cV):Ev:=λenv=>match env[i]? with
 | some (some (false,.clo st jE))=>bindR (a env) λds aM=>dX (Φ st jE ds) aM
 | _=>.stuck
section
variable{X:Cx}{C:Cfg}{pos p:Pos}{k:Nat}{x:Str}{e:Expr}{es:List Expr}
def ZK{Φ:Stmt->List D->List D->Option D}{a:cV}(i:Nat)(hN:X.N[i]? = some x)(hv:pD X.env.scope x)(G:Good X C)(hΦ:∀st jE ds d,Φ st jE ds=some d->vm X.prog X.w X.K X.mg X.base k st (Φ st))(hr:fJ k X.A)
  (hx:∀e s,False->X.xe e s) (ha:Cr X C (e::es) a) (hd:iZ x:=by decide) (hcd:oU x:=by decide)
  (he:starEach (e::es) X.env=(false,eval e X.env)::starEach es X.env:=by rfl) (hpl:(backTo pos (starEach es X.env)).any (·.1)=false:=by rfl) :
  PX X C (.Call (.Name x p) (e::es) [] pos) (kW Φ i a):=by
 intro pins s σ H Q I h;obtain⟨Pr,F,env,env',d,r,ev,q⟩:=h;unfold kW at ev;split at ev
 ·rename_i st jE h0;obtain⟨ds,aM,e1,e2⟩:=aW ev;obtain⟨e3,rfl⟩:=eZ e2;obtain⟨v,hσ,a0,vs0,rfl,hclo,Sw⟩:=r.val i _ h0;have fnAt:∀{F2:Hp} {s2:Shared} {H2:Hp},aQ F F2->aQ F2 H2->tQ X.prog X.w H2 s2.heap->PySem.W.FnAt a0 s2.heap:=λt1 t2 hok=>by
   obtain⟨u,qn,cl,doc,pm,ctv,c,h1,_⟩:=hclo;exact⟨_,_,_,_,(hok a0 _ (t2 _ _ (t1 _ _ h1))).1⟩
  refine wpAny_Call_Name_kw (wpAny_mono (jk hN hv hd hcd pins s σ H (λv H'=>v = .ref a0/\H'=H) I ⟨_,hσ,rfl,rfl⟩) (λu s1 hu=>?_) λ_ _ z=>z);obtain⟨v',H',I1,rv,rfl,rfl⟩:=hu;obtain rfl:u=Value.ref a0:=rv;refine PySem.W.callWith_F (fnAt (aQ.refl F) r.fr I1.hok) (gr (ha pos pins s1 σ H' (λvs H2=>∃F2,Rel C Pr F2 env' σ H2/\aQ F F2/\bT C.K F2 ds vs) I1 ⟨Pr,F,env,env',ds,r,e1,λvs H2 F2 r2 s2 p2=>⟨F2,r2,s2,p2⟩⟩) λus s2 hq=>?_) he hpl;obtain⟨vs,H2,I2,rvs,F2,r2,UJ,p2⟩:=hq;refine⟨fnAt UJ r2.fr I2.hok,?_⟩;have rep2:Rep X.K F2 (.clo st jE) (.ref a0):=by rw[G.K];exact Rep.mono UJ _ _ ⟨a0,vs0,rfl,hclo,Sw⟩
  refine wpAny_call (codeAny_mono (hΦ st jE ds d e3 X.A X.stack s2 H2 us vs Q E0 a0 F2 jE ds d hr I2.env0 rvs r2.fr rep2 (by rw[G.K];exact p2) e3
   (λv H3 F3 t1 t2 t3 t4 p3=>q v H3 F3 (r2.after t1 t2 t3 t4) (UJ.trans t3) (by rw[<-G.K];exact p3))) λrr s' hq=>?_)
  cases rr with
  | error e=>exact hx e s' hq
  | ok fl=>
   cases fl with
   | ret u=>exact I2.after hq
   | next=>exact False.elim hq
   | brk=>exact False.elim hq
   | cont=>exact False.elim hq
 ·cases ev
end
end Ev
namespace L2
open PySem PySem.Spec PyProof.Rows
def J3{q:Pos}{a b:Int}{c:Value}(l:List Value)(h:TriplesOk l) :
  codeAmong q (l++[rawInt a,rawInt b,c])=match codeAmong q l with
   | some x=>some x
   | none=>if a == q.line&&b == q.col then some c else none:=by
 fun_induction TriplesOk l with
 | case1=>simp[codeAmong,rawInt]
 | case2 a t b u x rest ih=>
  simp only[List.cons_append,codeAmong];split
  ·rfl
  ·exact ih h
 | case3 l h1 h2=>exact h.elim
structure Bj(base:Heap)(mg:Str->Option Value)(c P:Addr):Prop where
 code:PySem.W.CodeHd base c P
 blt:base.BuiltinsAt mg P
 ne:mainGlobals≠P
def Yo(H:Hp)(c:Addr)(q:Str):Prop:=∃(o:Obj) (u:HO) (vs:Array Value) (t:Tok),H c=some (.j5 o u)/\o.data = .fields vs/\vs[1]? = some (.str q t)
def BW{X:Cx}{pins:List (Addr×Obj)}{σ:St}{H:Hp}{s:Shared}{i:Nat}{name qual:Str}{args:Arguments}{body:List Stmt}{scope:Scope}{pos:Pos}{c0 P:Addr}{qs:List (Pos×Str)}{Q:Flow->Shared->Prop}
  (I:Inv X pins σ H s) (B:Bj X.base X.mg c0 P) (hcode:X.env.code = .ref c0) (hP:H P=some (.tab qs)) (hq:(pos,qual)∈qs) (hqs:∀q∈qs,q.1.line=pos.line->q.1.col=pos.col->q.2=qual)
  (hd0:args.defaults=[]) (hk0:args.kw_defaults=[]) (ha:annTrees args none X.env=[]) (hqn:qualnameIn X.env name name=qual)
  (hfree:∀n,(n,NameKind.free)∈scope.names->∃c,X.env.cells.lookup n=some c)
  (hN:X.N.Nodup) (hi:X.N[i]? = some name) (hx:Loc X.env.scope name)
  (h:∀(f c:Addr) (H1:Hp) (doc pm ctv:Value) (s':Shared),H f=none->c≠f->aQ H H1->H1 f=none->Yo H1 c qual->(∀b o,H1 b=some o->H b=some o\/(b=c/\H c=none))->
   Inv X pins (σ.set i (some (.ref f))) (upd H1 f (.j5 (PySem.W.fnMade name qual args body scope (gD X.env scope.names []) doc pm c ctv) (.own f))) s'->Q .next s')
  (hf:X.fn name=true\/X.env.scope.names.lookup name=some .local:=by first|exact .inl rfl|exact .inr rfl|assumption) :
  wpAny (model X.prog X.w) X.A (exec (.FunctionDef name args body [] none [] scope none name pos) X.env) Q X.xe s:=by
 have hcl:closureFor scope X.env=pure (gD X.env scope.names []):=tK hfree;have hg:s.heap.Ns mainGlobals X.mg:=I.mod.glob.keeps I.bk;obtain⟨ps,hPo,htr,hall⟩:=I.hok P _ hP;have aeR:s.heap.get? P=some (PySem.W.tabObj ps):=hPo;have C:=B.code.keeps I.bk;have hb:=B.blt.keeps I.bk;refine PySem.W.nestDef_K hd0 hk0 ha ?_;rw[hqn]
 -- the function's object is laid and the name stored
 have fin:∀(c:Addr) (H1:Hp) (h':Heap) (tk:Nat) (doc pm ctv:Value),Inv X pins σ H1 { s with heap:=h',toks:=tk }->aQ H H1->Yo H1 c qual->(∀b o,H1 b=some o->H b=some o\/(b=c/\H c=none))->s.heap.objs.size<=h'.objs.size->
   wpAny (model X.prog X.w) X.A (storeName X.env name (.ref h'.objs.size)) (λ_ s''=>Q .next s'') X.xe { s with heap:=h'.push (PySem.W.fnMade name qual args body scope (gD X.env scope.names []) doc pm c ctv),toks:=tk }:=by
  intro c H1 h' tk doc pm ctv I1 sH hc aeP hsz;have hn1:H1 h'.objs.size=none:=I1.hok.fresh (Nat.le_refl _);have I2:Inv X pins σ (upd H1 h'.objs.size (.j5 (PySem.W.fnMade name qual args body scope (gD X.env scope.names []) doc pm c ctv) (.own h'.objs.size))) { s with heap:=h'.push (PySem.W.fnMade name qual args body scope (gD X.env scope.names []) doc pm c ctv),toks:=tk }:=
   I1.laid (t':=tk) (λb u e=>Heap.get?_push_of_some _ e) (Nat.le_refl _) ⟨Heap.get?_push_size _ rfl,_,Heap.get?_push_size _ rfl⟩
  refine uf I2 hN hi hx (v:=.ref h'.objs.size) rfl (λs' I'=>?_) hf;obtain⟨o,u,vs,t,z,_⟩:=id hc;exact h _ c H1 doc pm ctv s' (I.hok.fresh hsz) (cW z hn1) sH hn1 hc aeP I'
 rcases hall _ hq with hnone|⟨c,o,u,vs,t,hsome,hc1,hc2,hc3⟩
 ·refine PySem.W.makeFunction_K (mg:=X.mg) hcl I.ok.glob hg hcode C aeR htr hnone B.ne hb λc' ctv doc h' tk hx' hge hlt hrec hP'=>?_;obtain⟨c2,co,vs,t,ec,ho,hd,hv⟩:=hrec;cases ec;have hnc:H c'=none:=I.hok.fresh hge;have hcP:c'≠P:=λz=>by rw[z,hP] at hnc;cases hnc
  have sH:aQ H (upd H c' (.j5 co (.own c'))):=λb o e=>by rw[bH (cW e hnc)];exact e
  have I1:Inv X pins σ (upd H c' (.j5 co (.own c'))) { s with heap:=h',toks:=tk }:=by
   refine I.un ⟨λb o e n _ _=>?_,λb o e n _ _=>?_,λb o e n _=>?_,λb o e _=>?_,λb xs e=>sH _ _ e,λb o u e=>sH _ _ e,λb ps e=>⟨#[],by rw[sH _ _ e];simp⟩,λb qs e=>sH _ _ e⟩ λb o e=>?_
   ·exact hx' b o (λz=>by rw[z,hP] at n;cases n) e
   ·exact⟨o.slots,hx' b o (λz=>by rw[z,hP] at n;cases n) e⟩
   ·rw[bH (Nat.ne_of_lt (Nat.lt_of_lt_of_le (Heap.lt_size e) hge))];exact n
   ·by_cases hb:b=P
    ·subst hb;exact⟨_,hP'⟩
    ·exact⟨o,hx' b o hb e⟩
   ·by_cases hbc:b=c'
    ·subst hbc;rw[aZ] at e;cases e;exact⟨ho,_,ho⟩
    ·rw[bH hbc] at e;by_cases hbP:b=P
     ·subst hbP;rw[hP] at e;cases e;refine⟨_,hP',by rw[Array.toList_append];exact TriplesOk_snoc _ _ _ _ htr,λq hq=>?_⟩;have hsn:=J3 (q:=q.1) (a:=pos.line) (b:=pos.col) (c:=.ref c') ps.toList htr;have e4:(ps ++ #[rawInt pos.line,rawInt pos.col,.ref c']).toList=ps.toList++[rawInt pos.line,rawInt pos.col,.ref c']:=by rw[Array.toList_append]
      rw[e4,hsn];rcases hall q hq with z|⟨c,o,u,vs',t',g1,g2,g3,g4⟩
      ·rw[z];by_cases hm:(pos.line:Int) == q.1.line&&(pos.col:Int) == q.1.col
       ·right
        refine⟨c',co,.own c',vs,t,by simp only[hm,if_true],aZ,hd,?_⟩;rw[Bool.and_eq_true,beq_iff_eq,beq_iff_eq] at hm;rw[hqs q hq (by omega) (by omega)];exact hv
       ·left
        simp only[hm]
        rfl
      ·rw[g1];exact .inr ⟨c,o,u,vs',t',rfl,sH _ _ g2,g3,g4⟩
     ·refine(I.hok b o e).stay (λx u hx2 g=>hx' x u (λz=>?_) g) (λx g=>sH _ _ g) (λx xs g=>sH _ _ g) λx _ _ _ _ g=>sH _ _ g;rcases hx2 with z2|z2
      ·exact hbP (z2 ▸ z)
      ·rw[z,hP] at z2;cases z2
  exact fin c' _ h' tk doc _ ctv I1 sH ⟨co,_,vs,t,aZ,hd,hv⟩ (λb o e=>by
   by_cases hb:b=c'
   ·exact .inr ⟨hb,hnc⟩
   ·rw[bH hb] at e;exact .inl e) (Nat.le_trans hge (Nat.le_of_lt hlt))
 ·refine PySem.W.makeFunction_hit (mg:=X.mg) (cv:=.ref c) hcl I.ok.glob hg hcode C aeR htr hsome hb λctv doc h' tk hk hsz=>?_;exact fin c H h' tk doc _ ctv (I.kept hk) (λ_ _ e=>e) ⟨o,u,vs,t,hc1,hc2,hc3⟩ (λb o e=>.inl e) hsz
open Classical in
noncomputable def jr(h:Heap)(Cs:List Addr)(H:Hp):Hp:=λb=>if b∈Cs then (match h.get? b with
 | some o=>some (.j5 o (.own b))
 | none=>none) else H b
open Classical in
noncomputable def rK(Cs:List Addr)(H:Hp):Hp:=λb=>if b∈Cs then none else H b
section
variable{h:Heap}{Cs:List Addr}{H:Hp}{b:Addr}{o:Obj}{u:HO}
def vB(hb:b∈Cs)(e:h.get? b=some o):jr h Cs H b=some (.j5 o (.own b)):=by unfold jr;rw[if_pos hb,e]
def gH(hb:b ∉ Cs):jr h Cs H b=H b:=by unfold jr;rw[if_neg hb]
def Hk(hb:b∈Cs):rK Cs H b=none:=by unfold rK;rw[if_pos hb]
def gC(hb:b ∉ Cs):rK Cs H b=H b:=by unfold rK;rw[if_neg hb]
end
def UL{X:Cx}{pins:List (Addr×Obj)}{σ:St}{H:Hp}{s:Shared}{k:Nat}{f:Addr}{fd:FuncData}{ps:List Str}{sp:Sp}{Q Q':VK}{us:List Value}{vs:List V}{Cs:List Addr}
  (F:lC X.prog X.w X.K X.mg X.base xx k f fd ps sp) (hr:fJ k X.A) (hb:Binds X.K fd ps []) (hx:∀e s,False->X.xe e s) (I:Inv X pins σ H s) (r:Vals vs us)
  (hC:∀c∈Cs,∃x,X.env.cells.lookup x=some c/\X.fn x=true) (h:sp vs (jr s.heap Cs H) Q' E0) (hQ:∀v H',Q' v H'->Q v (rK Cs H')) :
  wpAny (model X.prog X.w) X.A (call (.ref f) us) (EP X pins σ Q) X.xe s:=by
 have hl:us.length=ps.length:=by rw[<-r.length];exact F.len _ _ _ _ h
 have cn:∀c∈Cs,H c=none/\(∃o,s.heap.get? c=some o)/\X.s₀.heap.objs.size<=c/\c≠X.env.locals:=λc hc=>by
  obtain⟨x,e1,e2⟩:=hC c hc;refine⟨(I.qG x c e1).resolve_right λz=>(by rw[e2] at z;cases z.1),?_,I.ok.cab x c e2 e1,I.X6 x c e1⟩;obtain⟨v,o,ho,_⟩:=I.cell x c e1;exact⟨o,ho⟩
 have nin:∀b u,H b=some u->b ∉ Cs:=λb u e hb=>by rw[(cn b hb).1] at e;cases e
 have up:∀b u,H b=some u->jr s.heap Cs H b=some u:=λb u e=>by rw[gH (nin b u e)];exact e
 have e0:HB X.prog X.w X.K X.mg X.base X.A X.stack s (jr s.heap Cs H):=by
  have e1:=I.env0;refine⟨e1.frames,e1.mod,λb o e=>⟨(e1.bs b o e).1,?_⟩,e1.TQ,e1.uI,λb hb=>?_,λb o e=>?_,e1.bare⟩
  ·rw[gH λhb=>?_]
   ·exact(e1.bs b o e).2
   ·exact absurd (Nat.lt_of_lt_of_le (Heap.lt_size e) (Nat.le_trans I.ok.TQ (cn b hb).2.2.1)) (Nat.lt_irrefl _)
  ·rw[gH λhb2=>?_]
   ·exact e1.XX b hb
   ·rcases List.mem_cons.mp (I.CQ b hb) with z|z
    ·exact(cn b hb2).2.2.2 z
    ·obtain⟨_,o,ho,_⟩:=I.ok.uI.mem z;exact absurd (Nat.lt_of_lt_of_le (Heap.lt_size ho) (cn b hb2).2.2.1) (Nat.lt_irrefl _)
  ·by_cases hb:b∈Cs
   ·obtain⟨_,⟨ob,ho⟩,_⟩:=cn b hb;rw[vB hb ho] at e;cases e;exact⟨ho,ob,ho⟩
   ·rw[gH hb] at e;exact(I.hok b o e).stay (λ_ _ _ q=>q) (λc q=>up _ _ q) (λc xs q=>up _ _ q) λc _ _ _ _ q=>up _ _ q
 have hb2:=hb s us I.RP (by rw[List.append_nil];exact hl);rw[List.append_nil] at hb2;refine wpAny_call (codeAny_mono (F.run X.A X.stack s (jr s.heap Cs H) ⟨us,[]⟩ us vs Q' E0 hr e0 hb2 r h) λrr s' hq=>?_);cases rr with
 | error e=>exact hx e s' hq
 | ok fl=>
  cases fl with
  | next=>exact False.elim hq
  | brk=>exact False.elim hq
  | cont=>exact False.elim hq
  | ret u=>
   obtain⟨v,H',os,bare,un,hok,rv,q⟩:=hq;have cz:∀c∈Cs,∀o,s.heap.get? c=some o->H' c=some (.j5 o (.own c))/\s'.heap.get? c=some o:=λc hc o ho=>by
    have z:=un.wD c o _ (vB hc ho);exact⟨z,(hok c _ z).1⟩
   have un2:Un (frs X.stack) [] H (rK Cs H') s.heap s'.heap:=by
    refine⟨λb o e n hb hx=>?_,λb o e n hb hx=>?_,λb o e n hx=>?_,un.there,λb xs e=>?_,λb o u e=>?_,λb ps e=>?_,λb qs e=>?_⟩
    ·by_cases hb2:b∈Cs
     ·exact(cz b hb2 o e).2
     ·exact un.keep b o e (by rw[gH hb2];exact n) hb hx
    ·by_cases hb2:b∈Cs
     ·exact⟨o.slots,(cz b hb2 o e).2⟩
     ·exact un.slot b o e (by rw[gH hb2];exact n) hb hx
    ·by_cases hb2:b∈Cs
     ·exact Hk hb2
     ·rw[gC hb2];exact un.free b o e (by rw[gH hb2];exact n) hx
    ·rw[gC (nin _ _ e)];exact un.tups b xs (up _ _ e)
    ·rw[gC (nin _ _ e)];exact un.wD b o u (up _ _ e)
    ·rw[gC (nin _ _ e)];exact un.Cv b ps (up _ _ e)
    ·rw[gC (nin _ _ e)];exact un.tabs b qs (up _ _ e)
   have aif:tQ X.prog X.w (rK Cs H') s'.heap:=λb o e=>by
    by_cases hb:b∈Cs
    ·rw[Hk hb] at e;cases e
    ·rw[gC hb] at e;have j5:∀c∈Cs,∃oc,H' c=some (.j5 oc (.own c))/\∃w,oc.data = .cell w:=λc hc=>by
      obtain⟨x,e1,e2⟩:=hC c hc;obtain⟨v,oc,ho,hd⟩:=I.cell x c e1;exact⟨oc,(cz c hc oc ho).1,v,hd⟩
     refine(hok b o e).stay (λ_ _ _ q=>q) (λc q=>?_) (λc xs q=>?_) λc oc u vs hv q=>?_
     ·rw[gC λhc=>?_]
      ·exact q
      ·obtain⟨oc,z,_⟩:=j5 c hc;rw[q] at z;cases z
     ·rw[gC λhc=>?_]
      ·exact q
      ·obtain⟨oc,z,_⟩:=j5 c hc;rw[q] at z;cases z
     ·rw[gC λhc=>?_]
      ·exact q
      ·obtain⟨oc,z,w,hw⟩:=j5 c hc;rw[q] at z;cases z;rw[hv] at hw;cases hw
   exact I.after ⟨v,rK Cs H',os,bare,un2,aif,rv,hQ v H' q⟩
end L2
namespace Ev
open PySem PySem.Spec PyProof.Rows L2
def Rel.grow{C:Cfg}{Pr F:Hp}{env:Env}{σ:L2.St}{H H':Hp}(r:Rel C Pr F env σ H)(s:aQ H H'):Rel C Pr F env σ H':=by refine⟨r.pr.trans s,r.fr.trans s,r.len,r.val,λj e he=>?_,r.apart,r.dj,r.fix⟩;obtain⟨a,h1,h2,h3,h4⟩:=r.own j e he;obtain⟨o,ho⟩:=h2.some;exact⟨a,h1,h2.mono (aQ.refl F) (by rw[ho,s _ _ ho]),h3,h4⟩
def Rel.unset{C:Cfg}{Pr F:Hp}{env:Env}{σ:L2.St}{H:Hp}{i:Nat}{v:V}(r:Rel C Pr F env σ H)(hfx:C.fx i=none):Rel C Pr F (env.set i none) (σ.set i (some v)) H:=by
 have un:∀(j:Nat) (x:Bool×D),(env.set i none)[j]? = some (some x)->j≠i/\env[j]? = some (some x):=λj x he=>by
  have hj:j≠i:=λz=>by
   subst z;have hl:j<env.length:=by
    have:=(List.getElem?_eq_some_iff.mp he).1
    rwa [List.length_set] at this
   rw[List.getElem?_set_self hl] at he;cases he
  rw[List.getElem?_set_ne (Ne.symm hj)] at he;exact⟨hj,he⟩
 refine⟨r.pr,r.fr,by rw[List.length_set,List.length_set];exact r.len,λj e he=>?_,λj e he=>?_,λj k e f b hj hk g1 g2=>?_,r.dj,λj a hj=>?_⟩
 ·obtain⟨nj,he⟩:=un j _ he;rw[List.getElem?_set_ne (Ne.symm nj)];exact r.val j e he
 ·obtain⟨nj,he⟩:=un j _ he;rw[List.getElem?_set_ne (Ne.symm nj)];exact r.own j e he
 ·obtain⟨nj,hj⟩:=un j _ hj;obtain⟨nk,hk⟩:=un k _ hk;rw[List.getElem?_set_ne (Ne.symm nj)] at g1;rw[List.getElem?_set_ne (Ne.symm nk)] at g2;exact r.apart j k e f b hj hk g1 g2
 ·have hji:j≠i:=λz=>by rw[z,hfx] at hj;cases hj
  rw[List.getElem?_set_ne (Ne.symm hji)];exact r.fix j a hj
def Rel.Lb{C:Cfg}{Pr F:Hp}{env:Env}{σ:L2.St}{H:Hp}{b:Addr}{x:Obj}{u:HO}(r:Rel C Pr F env σ H)(e:H b=some (.j5 x u)) :
  ∃Pr',Rel C Pr' F env σ H/\aQ Pr Pr'/\(Pr' b=some (.j5 x u)\/F b=some (.j5 x u)):=by
 cases hF:F b with
 | some o=>
  have:=r.fr b o hF;rw[e] at this;cases this;exact⟨Pr,r,aQ.refl Pr,.inr rfl⟩
 | none=>
  refine⟨upd Pr b (.j5 x u),⟨λc o h=>?_,r.fr,r.len,r.val,λj d he=>?_,r.apart,λc o h=>?_,r.fix⟩,λc o h=>?_,.inl aZ⟩
  ·by_cases hc:c=b
   ·subst hc;rw[aZ] at h;cases h;exact e
   ·rw[bH hc] at h;exact r.pr c o h
  ·obtain⟨a,h1,h2,h3,h4⟩:=r.own j d he;refine⟨a,h1,h2,h3,?_⟩;rw[bH λz=>?_]
   ·exact h4
   ·subst z;cases d with
    | lst xs=>obtain⟨_,vs,g,_⟩:=h2;rw[e] at g;cases g
    | dct xs=>obtain⟨_,vs,g,_⟩:=h2;rw[e] at g;cases g
    | gR xs=>obtain⟨_,vs,g,_⟩:=h2;rw[e] at g;cases g
    | _=>exact h2.elim
  ·rw[bH λz=>by rw[z,hF] at h;cases h];exact r.dj c o h
  ·by_cases hc:c=b
   ·subst hc;have:=r.pr c o h;rw[e] at this;cases this;exact aZ
   ·rw[bH hc];exact h
def Tv(env:Env):List Nat->Option (List D)
 | []=>some []
 | j::js=>match env[j]?,Tv env js with
  | some (some (false,d)),some ds=>some (d::ds)
  | _,_=>none
def Ky:D->Bool
 | .non=>true
 | .bl _=>true
 | .int _=>true
 | .str _=>true
 | _=>false
def PB{K:Fg}{F F':Hp}{d:D}{v:V}(h:Ky d=true)(r:Rep K F d v):Rep K F' d v:=by cases d<;>first|exact r|cases h
def vI(st1 st2:Stmt)(js1 js2:List Nat)(i1 i2:Nat)(g:List D->Option D)(a1 a2 a3:Ev):bW:=λenv=>
 dD (aa a1 (aa a2 (aa a3 ak)) ((env.set i1 none).set i2 none)) λds aM=>(match Tv aM js1,Tv aM js2 with
  | some c1,some c2=>(match g (ds++[.clo st1 c1,.clo st2 c2]) with
   | some d=>if Ky d=true then .rt false d aM else .stuck
   | none=>.stuck)
  | _,_=>.stuck)
def Oq(env:PySem.Env)(xs:List Str):List (Str×Addr):=xs.map λx=>(x,(env.cells.lookup x).getD 0)
theorem DY(env:PySem.Env):∀(names:List (Str×NameKind)) (acc:List (Str×Addr)),gD env names acc=Oq env (((names.filter (·.2 == .free)).map (·.1)).reverse)++acc
 | [],acc=>rfl
 | (n,k)::r,acc=>by
  unfold gD;cases hk:k == NameKind.free with
  | true=>
   rw[if_pos rfl,DY env r];simp[List.filter_cons,hk,Oq]
  | false=>
   rw[if_neg (by simp),DY env r];simp[List.filter_cons,hk]
theorem Lq(env:PySem.Env)(st:Stmt):gD env (aL st).names []=Oq env (freeOf st):=by rw[DY,List.append_nil];rfl
def xZ(N:List Str):List Nat->List Str->Prop
 | [],[]=>True
 | j::js,x::xs=>N[j]? = some x/\xZ N js xs
 | _,_=>False
theorem Eb{X:Cx}{C:Cfg}{xs0:List Str}{pins:List (Addr×Obj)}{Pr F Fp:Hp}{env:Env}{σ:L2.St}{H:Hp}{s:Shared}(I:Inv X pins σ H s)(r:Rel C Pr F env σ H)
  (hF:∀c o,s.heap.get? c=some o->(∃x,X.env.cells.lookup x=some c/\x∈xs0)->Fp c=some (.j5 o (.own c))) (hs:aQ F Fp) :
  ∀{js:List Nat} {xs:List Str} {ds:List D},xZ X.N js xs->(∀x∈xs,X.env.scope.names.lookup x=some .cell/\x∈xs0)->Tv env js=some ds->∃vs,bT C.K Fp ds vs/\pG Fp (Oq X.env xs) vs
 | [],[],ds,_,_,e=>by cases e;exact⟨[],rfl,rfl⟩
 | [],_::_,_,h,_,_=>h.elim
 | _::_,[],_,h,_,_=>h.elim
 | j::js,x::xs,ds,⟨h1,h2⟩,hx,e=>by
  unfold Tv at e;split at e
  ·rename_i d ds' e1 e2;cases e;obtain⟨vs,q1,q2⟩:=Eb I r hF hs h2 (λy hy=>hx y (List.mem_cons_of_mem _ hy)) e2;obtain⟨v,g1,g2⟩:=r.val j d e1;obtain⟨hk,hm⟩:=hx x List.mem_cons_self;obtain⟨m,hn,hl⟩:=I.loc;obtain⟨u,rv,l⟩:=hl j x v h1 g1 (.inr (.inl hk));have hk':X.env.kindOf x=some .cell:=hk;rcases l with ⟨z,_⟩|⟨_,c,hc,oc,ho,hd⟩
   ·rw[hk'] at z;cases z
   ·refine⟨v::vs,⟨v,vs,rfl,Rep.mono hs _ _ g2,q1⟩,v,vs,rfl,⟨oc,.own c,u,?_,hd,rv⟩,q2⟩;rw[hc];exact hF c oc ho ⟨x,hc,hm⟩
  ·cases e
structure HD(X:Cx)(qs:List (Pos×Str))(i:Nat)(js:List Nat)(st:Stmt)(n:Str)(args:Arguments)(body:List Stmt)(sc:Scope)(pos:Pos)(qual:Str):Prop where
 eq:st = .FunctionDef n args body [] none [] sc none n pos
 hq:(pos,qual)∈qs
 hqs:∀q∈qs,q.1.line=pos.line->q.1.col=pos.col->q.2=qual
 hd0:args.defaults=[]
 hk0:args.kw_defaults=[]
 ha:annTrees args none X.env=[]
 hqn:qualnameIn X.env n n=qual
 fr:∀x∈freeOf st,X.env.scope.names.lookup x=some .cell
 fnd:(freeOf st).Nodup
 hi:X.N[i]? = some n
 hx:X.env.scope.names.lookup n=some .local
 sl:xZ X.N js (freeOf st)
def GK{n:Str}{st:Stmt}(h:(n,NameKind.free)∈(aL st).names):n∈freeOf st:=by unfold freeOf;exact List.mem_reverse.mpr (List.mem_map.mpr ⟨(n,.free),List.mem_filter.mpr ⟨h,rfl⟩,rfl⟩)
open Classical in
def Mz{X:Cx}{C:Cfg}{qs:List (Pos×Str)}{c0 P:Addr}{i1 i2:Nat}{js1 js2:List Nat}{st1 st2:Stmt}{n1 n2:Str}{ar1 ar2:Arguments}{bd1 WM:List Stmt}{PJ FW:Scope}{ps1 ps2:Pos}{q1 q2:Str}{e1 e2 e3:Expr}{a1 a2 a3:Ev}{x:Str}{p Dn Dm pos rpos:Pos}{k k':Nat}{ps:List Str}{g:List D->Option D}
  (G:Good X C) (B:Bj X.base X.mg c0 P) (hcode:X.env.code = .ref c0) (hT:X.H₀ P=some (.tab qs)) (hfn:∀y,X.fn y=true) (hN:X.N.Nodup) (hfx:∀i,C.fx i=none) (h12:i1≠i2)
  (D1:HD X qs i1 js1 st1 n1 ar1 bd1 PJ ps1 q1) (D2:HD X qs i2 js2 st2 n2 ar2 WM FW ps2 q2)
  (O:Own X.prog X.w X.K X.mg X.base x k ps (j7 X.K 5 g)) (hr:fJ k' X.A) (hkk:k<=k') (hx:∀e s,False->X.xe e s) (hg:Gl X x) (hdb:(x == ("__debug__" : Str))=false)
  (h1:PX X C e1 a1) (h2:PX X C e2 a2) (h3:PX X C e3 a3) (hv1:(n1 == ("__debug__" : Str))=false) (hv2:(n2 == ("__debug__" : Str))=false) (hw1:(n1 == ("__classdict__" : Str))=false) (hw2:(n2 == ("__classdict__" : Str))=false)
  (s1:starEach [e1,e2,e3,.Name n1 Dn,.Name n2 Dm] X.env=(false,eval e1 X.env)::starEach [e2,e3,.Name n1 Dn,.Name n2 Dm] X.env) (s2:starEach [e2,e3,.Name n1 Dn,.Name n2 Dm] X.env=(false,eval e2 X.env)::starEach [e3,.Name n1 Dn,.Name n2 Dm] X.env)
  (s3:starEach [e3,.Name n1 Dn,.Name n2 Dm] X.env=(false,eval e3 X.env)::starEach [.Name n1 Dn,.Name n2 Dm] X.env) (hpl:(backTo pos (starEach [e2,e3,.Name n1 Dn,.Name n2 Dm] X.env)).any (·.1)=false) :
  my X C [st1,st2,.Return (some (.Call (.Name x p) [e1,e2,e3,.Name n1 Dn,.Name n2 Dm] [] pos)) rpos] (vI st1 st2 js1 js2 i1 i2 g a1 a2 a3):=by
 obtain⟨f,fd,FO,hm,hk,hb⟩:=O;intro pins s σ H D I h;obtain⟨Pr,F,env,r,fin⟩:=h;unfold vI at fin;obtain⟨ds,aM,ea,fin⟩:=dJ fin;obtain⟨d1,afc,ea1,ea⟩:=aW ea;obtain⟨ds1,al6,ea,eb⟩:=aW ea;cases eb;obtain⟨d2,afb,ea2,ea⟩:=aW ea;obtain⟨ds2,al5,ea,eb⟩:=aW ea;cases eb;obtain⟨d3,envE,ea3,ea⟩:=aW ea;obtain⟨ds3,al4,ea,eb⟩:=aW ea;cases eb;cases ea;split at fin
 ·rename_i cp1 cp2 ec1 ec2;split at fin
  ·rename_i d eg;split at fin
   ·rename_i hsc
    -- the first def
    have hP:∀{σ:L2.St} {H:Hp} {s:Shared},Inv X pins σ H s->H P=some (.tab qs):=λI=>I.base.tabs P qs hT;have fr1:∀n,(n,NameKind.free)∈PJ.names->∃c,X.env.cells.lookup n=some c:=λn hn=>I.ok.has n (.inl (D1.fr n (GK (st:=st1) (by rw[D1.eq];exact hn))));have fr2:∀n,(n,NameKind.free)∈FW.names->∃c,X.env.cells.lookup n=some c:=λn hn=>I.ok.has n (.inl (D2.fr n (GK (st:=st2) (by rw[D2.eq];exact hn))));have eS1:=D1.eq;have eS2:=D2.eq;rw[eS1,eS2];refine wpAny_execs_cons (BW I B hcode (hP I) D1.hq D1.hqs D1.hd0 D1.hk0 D1.ha D1.hqn fr1 hN D1.hi (.inl D1.hx) (λf1 c1 H1 Wo pm1 Wv s1' hf1 aio sH1 hH1 hc1 hb1 I1=>?_) (.inl (hfn _)));refine wpAny_execs_cons (BW I1 B hcode (hP I1) D2.hq D2.hqs D2.hd0 D2.hk0 D2.ha D2.hqn fr2 hN D2.hi (.inl D2.hx) (λf2 c2 H2 JS ZV JT UJ hf2 ain sH2 hH2 hc2 hb2 I2=>?_) (.inl (hfn _)))
    -- what is known then
    have sA:aQ H (upd H1 f1 (.j5 (PySem.W.fnMade n1 q1 ar1 bd1 PJ (gD X.env PJ.names []) Wo pm1 c1 Wv) (.own f1))):=λb o e=>by rw[bH (cW (sH1 _ _ e) hH1)];exact sH1 _ _ e
    have sB:aQ (upd H1 f1 (.j5 (PySem.W.fnMade n1 q1 ar1 bd1 PJ (gD X.env PJ.names []) Wo pm1 c1 Wv) (.own f1))) (upd H2 f2 (.j5 (PySem.W.fnMade n2 q2 ar2 WM FW (gD X.env FW.names []) JS ZV c2 JT) (.own f2))):=λb o e=>by rw[bH (cW (sH2 _ _ e) hH2)];exact sH2 _ _ e
    have r2:=(((r.grow sA).unset (i:=i1) (v:=.ref f1) (hfx i1)).grow sB).unset (i:=i2) (v:=.ref f2) (hfx i2);obtain⟨co1,cu1,cv1,ct1,g1a,g1b⟩:=hc1;obtain⟨co2,cu2,cv2,ct2,g2a,g2b⟩:=hc2;have k1:(upd H2 f2 (.j5 (PySem.W.fnMade n2 q2 ar2 WM FW (gD X.env FW.names []) JS ZV c2 JT) (.own f2))) f1=some (.j5 (PySem.W.fnMade n1 q1 ar1 bd1 PJ (gD X.env PJ.names []) Wo pm1 c1 Wv) (.own f1)):=sB _ _ aZ;have k2:(upd H2 f2 (.j5 (PySem.W.fnMade n2 q2 ar2 WM FW (gD X.env FW.names []) JS ZV c2 JT) (.own f2))) f2=some (.j5 (PySem.W.fnMade n2 q2 ar2 WM FW (gD X.env FW.names []) JS ZV c2 JT) (.own f2)):=aZ;have k3:(upd H2 f2 (.j5 (PySem.W.fnMade n2 q2 ar2 WM FW (gD X.env FW.names []) JS ZV c2 JT) (.own f2))) c1=some (.j5 co1 cu1):=sB _ _ (by rw[bH aio];exact g1a);have k4:(upd H2 f2 (.j5 (PySem.W.fnMade n2 q2 ar2 WM FW (gD X.env FW.names []) JS ZV c2 JT) (.own f2))) c2=some (.j5 co2 cu2):=by rw[bH ain];exact g2a
    obtain⟨Pr1,r3,sP1,w1⟩:=r2.Lb k1;obtain⟨Pr2,r4,sP2,w2⟩:=r3.Lb k2;obtain⟨Pr3,r5,sP3,w3⟩:=r4.Lb k3;obtain⟨Yl,r6,sP4,w4⟩:=r5.Lb k4;have sP:aQ Pr Yl:=((sP1.trans sP2).trans sP3).trans sP4;have l1:i1<σ.length:=by rw[I.len];exact(List.getElem?_eq_some_iff.mp D1.hi).1
    have l2:i2<σ.length:=by rw[I.len];exact(List.getElem?_eq_some_iff.mp D2.hi).1
    have hσ1:((σ.set i1 (some (V.ref f1))).set i2 (some (V.ref f2)))[i1]? = some (some (V.ref f1)):=by rw[List.getElem?_set_ne (Ne.symm h12),List.getElem?_set_self l1]
    have hσ2:((σ.set i1 (some (V.ref f1))).set i2 (some (V.ref f2)))[i2]? = some (some (V.ref f2)):=by rw[List.getElem?_set_self (by rw[List.length_set];exact l2)]
    -- the call
    have hE:PE X (.Call (.Name x p) [e1,e2,e3,.Name n1 Dn,.Name n2 Dm] [] pos) (λσ' H' Q=>σ'=(σ.set i1 (some (V.ref f1))).set i2 (some (V.ref f2))/\Rel C Yl F ((env.set i1 none).set i2 none) σ' H'/\
      ∀v H3 F3,Rel C Yl F3 aM σ' H3->aQ F F3->Rep C.K F3 d v->Q v H3):=by
     intro pins s σ' H' Q I ⟨eσ,r,q⟩;subst eσ;refine wpAny_Call_Name_kw (yg I hg hm ?_ hdb);have hA:PA X [e1,e2,e3,.Name n1 Dn,.Name n2 Dm] (Bm (tE C a1) (Bm (tE C a2) (Bm (tE C a3) (Bm (Ur i1) (Bm (Ur i2) ac4))))):=
      iH h1 (iH h2 (iH h3 (iH (jk D1.hi (.inl D1.hx) hv1 hw1) (iH (jk D2.hi (.inl D2.hx) hv2 hw2) vR rfl) rfl) s3) s2) s1
     refine PySem.W.callWith_K (h₀:=X.base) I.ok.mod.HJ hk (gr (hA pos pins s _ H' (λvs H3=>∃v1 v2 v3 F3,vs=[v1,v2,v3,.ref f1,.ref f2]/\Rel C Yl F3 aM ((σ.set i1 (some (V.ref f1))).set i2 (some (V.ref f2))) H3/\aQ F F3/\bT C.K F3 [d1,d2,d3] [v1,v2,v3]) I ?_) λus s4 hq=>?_) s1 hpl
     ·refine⟨Yl,F,_,afc,d1,r,ea1,λv1 Ha Fa ra sa pa=>⟨Yl,Fa,afc,afb,d2,ra,ea2,λv2 Hb Fb rb sb pb=>⟨Yl,Fb,afb,aM,d3,rb,ea3,λv3 Hc Fc rc sc pc=>?_⟩⟩⟩;exact⟨_,hσ1,_,hσ2,v1,v2,v3,Fc,rfl,rc,(sa.trans sb).trans sc,_,_,rfl,Rep.mono (sb.trans sc) _ _ pa,_,_,rfl,Rep.mono sc _ _ pb,_,_,rfl,pc,rfl⟩
     ·obtain⟨vs,H3,I3,rv,v1,v2,v3,F3,rfl,r3,sF3,p3⟩:=hq;refine⟨I3.RP,?_⟩;have up:∀{b:Addr} {o:HO},(Yl b=some o\/F b=some o)->H3 b=some o:=λz=>z.elim (λz=>r3.pr _ _ z) λz=>r3.fr _ _ (sF3 _ _ z);have m1:=up (w1.imp (λz=>sP4 _ _ (sP3 _ _ (sP2 _ _ z))) id);have m2:=up (w2.imp (λz=>sP4 _ _ (sP3 _ _ z)) id);have m3:=up (w3.imp (λz=>sP4 _ _ z) id);have m4:=up w4
      let xs0:=freeOf st1++freeOf st2
      let Cs:=(Oq X.env xs0).map (·.2)
      have hC:∀c∈Cs,∃y,X.env.cells.lookup y=some c/\X.fn y=true:=λc hc=>by
       obtain⟨q,hq,rfl⟩:=List.mem_map.mp hc;obtain⟨y,hy,rfl⟩:=List.mem_map.mp hq;have hy':X.env.scope.names.lookup y=some .cell:=(List.mem_append.mp hy).elim (D1.fr y) (D2.fr y);obtain⟨c,hc⟩:=I.ok.has y (.inl hy');exact⟨y,by simp only[hc,Option.getD_some],hfn y⟩
      have cn:∀c∈Cs,H3 c=none:=λc hc=>by
       obtain⟨y,g1,g2⟩:=hC c hc;exact(I3.qG y c g1).resolve_right λz=>by rw[g2] at z;cases z.1
      have nC:∀b u,H3 b=some u->b ∉ Cs:=λb u e hb=>by rw[cn b hb] at e;cases e
      have YD:∀b u,H3 b=some u->jr s4.heap Cs H3 b=some u:=λb u e=>by rw[gH (nC b u e)];exact e
      let Sp:=f1::f2::c1::c2::Cs
      let Fp:Hp:=λb=>if b∈Sp then jr s4.heap Cs H3 b else F3 b
      have Ab:∀b,b∈Sp->Fp b=jr s4.heap Cs H3 b:=λb hb=>if_pos hb;have Ke:∀b,b ∉ Sp->Fp b=F3 b:=λb hb=>if_neg hb;have sFp:aQ F3 Fp:=λb o e=>by
       by_cases hb:b∈Sp
       ·rw[Ab b hb];exact YD _ _ (r3.fr _ _ e)
       ·rw[Ke b hb];exact e
      have ahd:aQ Fp (jr s4.heap Cs H3):=λb o e=>by
       by_cases hb:b∈Sp
       ·rw[Ab b hb] at e;exact e
       ·rw[Ke b hb] at e;exact YD _ _ (r3.fr _ _ e)
      have hFc:∀c o,s4.heap.get? c=some o->(∃y,X.env.cells.lookup y=some c/\y∈xs0)->Fp c=some (.j5 o (.own c)):=λc o e ⟨y,hy,hm⟩=>by
       have hc:c∈Cs:=List.mem_map.mpr ⟨(y,c),List.mem_map.mpr ⟨y,hm,by simp only[hy,Option.getD_some]⟩,rfl⟩;rw[Ab c (List.mem_cons_of_mem _ (List.mem_cons_of_mem _ (List.mem_cons_of_mem _ (List.mem_cons_of_mem _ hc))))];exact vB hc e
      obtain⟨us1,rp1,ca1⟩:=Eb (xs0:=xs0) I3 r3 hFc sFp D1.sl (λy hy=>⟨D1.fr y hy,List.mem_append_left _ hy⟩) ec1;obtain⟨us2,rp2,ca2⟩:=Eb (xs0:=xs0) I3 r3 hFc sFp D2.sl (λy hy=>⟨D2.fr y hy,List.mem_append_right _ hy⟩) ec2;have nda:∀xs:List Str,xs.Nodup->(∀y∈xs,X.env.scope.names.lookup y=some .cell)->((Oq X.env xs).map (·.2)).Nodup:=by
       intro xs
       induction xs with
       | nil=>intro _ _;exact .nil
       | cons y ys ih=>
        intro hn hy;show((X.env.cells.lookup y).getD 0::(Oq X.env ys).map (·.2)).Nodup;refine List.nodup_cons.mpr ⟨λhm=>?_,ih (List.nodup_cons.mp hn).2 λz hz=>hy z (List.mem_cons_of_mem _ hz)⟩;obtain⟨q,hq,eq⟩:=List.mem_map.mp hm;obtain⟨z,hz,rfl⟩:=List.mem_map.mp hq;obtain⟨cy,hcy⟩:=I.ok.has y (.inl (hy y List.mem_cons_self));obtain⟨cz,hcz⟩:=I.ok.has z (.inl (hy z (List.mem_cons_of_mem _ hz)));simp only[hcy,hcz,Option.getD_some] at eq;subst eq;exact(List.nodup_cons.mp hn).1 (I.ok.inj y z _ hcy hcz ▸ hz)
      have RG:∀xs:List Str,(Oq X.env xs).map (·.1)=xs:=λxs=>by
       induction xs with
       | nil=>rfl
       | cons y ys ih=>exact congrArg (y :: ·) ih
      have e5:gD X.env PJ.names []=Oq X.env (freeOf st1):=by have:=Lq X.env st1;rw[eS1] at this ⊢;exact this
      have e6:gD X.env FW.names []=Oq X.env (freeOf st2):=by have:=Lq X.env st2;rw[eS2] at this ⊢;exact this
      have ai1:Rep C.K Fp (.clo st1 cp1) (.ref f1):=by
       refine⟨f1,us1,rfl,⟨.own f1,q1,Oq X.env (freeOf st1),Wo,pm1,Wv,c1,?_,⟨co1,cu1,cv1,ct1,?_,g1b⟩,RG _,nda _ D1.fnd D1.fr,ca1⟩,rp1⟩
       ·rw[Ab f1 List.mem_cons_self,YD _ _ m1,<-e5,eS1];rfl
       ·rw[Ab c1 (List.mem_cons_of_mem _ (List.mem_cons_of_mem _ List.mem_cons_self))];exact YD _ _ m3
      have ai0:Rep C.K Fp (.clo st2 cp2) (.ref f2):=by
       refine⟨f2,us2,rfl,⟨.own f2,q2,Oq X.env (freeOf st2),JS,ZV,JT,c2,?_,⟨co2,cu2,cv2,ct2,?_,g2b⟩,RG _,nda _ D2.fnd D2.fr,ca2⟩,rp2⟩
       ·rw[Ab f2 (List.mem_cons_of_mem _ List.mem_cons_self),YD _ _ m2,<-e6,eS2];rfl
       ·rw[Ab c2 (List.mem_cons_of_mem _ (List.mem_cons_of_mem _ (List.mem_cons_of_mem _ List.mem_cons_self)))];exact YD _ _ m4
      refine UL (Cs:=Cs) (Q':=λv H4=>∃F4,aQ (jr s4.heap Cs H3) H4/\aQ F4 H4/\aQ Fp F4/\(∀b o,F4 b=some o->Fp b=some o\/jr s4.heap Cs H3 b=none)/\Rep X.K F4 d v) FO (hr.mono hkk) hb hx I3 rv hC ?_ ?_
      ·refine⟨Fp,[d1,d2,d3]++[.clo st1 cp1,.clo st2 cp2],d,rfl,ahd,?_,eg,λv H4 F4 t1 t2 t3 t4 p4=>⟨F4,t1,t2,t3,t4,p4⟩⟩;rw[G.K];exact bT.append (vs:=[v1,v2,v3]) (ws:=[.ref f1,.ref f2]) (bT.mono sFp _ _ p3) ⟨_,_,rfl,ai1,_,_,rfl,ai0,rfl⟩
      ·rintro v H4 ⟨F4,t1,t2,t3,t4,p4⟩
       let F5:Hp:=λb=>if b∈Sp then F3 b else F4 b
       have T7:∀b,b∈Sp->F5 b=F3 b:=λb hb=>if_pos hb;have Kf:∀b,b ∉ Sp->F5 b=F4 b:=λb hb=>if_neg hb;have nSp:∀b,b ∉ Sp->b ∉ Cs:=λb hb hc=>hb (List.mem_cons_of_mem _ (List.mem_cons_of_mem _ (List.mem_cons_of_mem _ (List.mem_cons_of_mem _ hc))));have s35:aQ F3 F5:=λb o e=>by
        by_cases hb:b∈Sp
        ·rw[T7 b hb];exact e
        ·rw[Kf b hb];exact t3 _ _ (sFp _ _ e)
       have hH:aQ H3 (rK Cs H4):=λb o e=>by rw[gC (nC _ _ e)];exact t1 _ _ (YD _ _ e)
       have s5H:aQ F5 (rK Cs H4):=λb o e=>by
        by_cases hb:b∈Sp
        ·rw[T7 b hb] at e;exact hH _ _ (r3.fr _ _ e)
        ·rw[Kf b hb] at e;rw[gC (nSp b hb)];exact t2 _ _ e
       have nw:∀b o,F5 b=some o->F3 b=some o\/H3 b=none:=λb o e=>by
        by_cases hb:b∈Sp
        ·rw[T7 b hb] at e;exact .inl e
        ·rw[Kf b hb] at e;rcases t4 b o e with z|z
         ·rw[Ke b hb] at z;exact .inl z
         ·rw[gH (nSp b hb)] at z;exact .inr z
       exact q v _ F5 (r3.after hH s5H s35 nw) (sF3.trans s35) (by rw[<-G.K];exact PB hsc p4)
    have aeN:=KH (Jj (pos:=rpos) hE) pins UJ _ _ D I2 ⟨rfl,r6,λv H3 F3 r3 s3 p3=>?_⟩
    ·exact aeN
    ·exact fin v _ H3 F3 (r3.less sP) s3 p3
   ·exact fin.elim
  ·exact fin.elim
 ·exact fin.elim
end Ev
namespace L2
open PySem PySem.Spec PyProof.Rows
def spT(T:Hp)(sp:Sp):Sp:=λvs H Q E=>aQ T H/\sp vs H Q E
def vg(T:Hp):Prop:=∀b o,T b=some o->∃qs,o = .tab qs
def Rh{X:Cx}{CX:Ot}{T:Hp}{k:Nat}{f:Addr}{fd:FuncData}{ps:List Str}{sp:Sp}{Tf:List V}{ds:List Value}{E:XK}{x:Str}{p pos:Pos}{e:Expr}{es:List Expr}{t:TA}
  (F:lC X.prog X.w X.K X.mg X.base CX k f fd ps (spT T sp)) (hT:aQ T X.H₀) (hO:vg T) (hr:fJ k X.A) (hg:Gl X x) (hm:X.mg x=some (.ref f)) (hk:PySem.W.keepIn X.K (.ref f)=true) (hb:Binds X.K fd ps ds) (hd:Vals Tf ds) (hx:Passes CX X E)
  (ha:PA X (e::es) t) (hdb:iZ x:=by decide) (he:starEach (e::es) X.env=(false,eval e X.env)::starEach es X.env:=by rfl) (hpl:(backTo pos (starEach es X.env)).any (·.1)=false:=by rfl) :
  PE X (.Call (.Name x p) (e::es) [] pos) (Xg sp Tf E t):=by
 intro pins s σ H Q I h;refine wpAny_Call_Name_kw (yg I hg hm ?_ hdb);refine PySem.W.callWith_K (h₀:=X.base) I.ok.mod.HJ hk (gr (ha pos pins s σ H _ I h) λus s1 ⟨vs,H1,I1,r,q⟩=>⟨I1.RP,?_⟩) he hpl;exact Qa F hr hb hd hx I1 r ⟨λb o e=>by obtain⟨qs,rfl⟩:=hO b o e;exact I1.base.tabs b qs (hT b _ e),q⟩
end L2
namespace Ev
open PySem PySem.Spec PySem.W PySem.Calls PyProof.Rows L2
section
variable{X:Cx}{C:Cfg}{T:Hp}{pos p:Pos}{n:Str}{e:Expr}{es:List Expr}{ea:cV}{P:Program}{w:World}{K:Fg}{mg:Str->Option Value}{base:Heap}{x:Str}{st:Stmt}{N ps:List Str}{k:Nat}{ev:bW}{f:Addr}{fd:FuncData}
def Yq{k k':Nat}{m:Nat}{ps:List Str}{g:List D->Option D}(O:Own X.prog X.w X.K X.mg X.base n k ps (spT T (j7 X.K m g)))(hT:aQ T X.H₀)(hO:vg T)(G:Good X C)(hr:fJ k' X.A)(hk:Nat.ble k k'=true)(ha:Cr X C (e::es) ea)(hn:∀env ds env',ea env = .ok ds env'->ds.length=m)
  (hg:Gl X n:=by rfl) (hdb:iZ n:=by decide) (he:starEach (e::es) X.env=(false,eval e X.env)::starEach es X.env:=by rfl) (hpl:(backTo pos (starEach es X.env)).any (·.1)=false:=by rfl):PX X C (.Call (.Name n p) (e::es) [] pos) (au g ea):=by
 obtain⟨f,fd,h1,h2,h3,h4⟩:=O;have h1':lC X.prog X.w X.K X.mg X.base xx k f fd ps (spT T (j7 C.K m g)):=by rw[<-G.K];exact h1
 refine(Rh h1' hT hO (hr.mono (Nat.le_of_ble_eq_true hk)) hg h2 h3 h4 .nil KY ha hdb he hpl).imp λσ H Q hq=>?_;obtain⟨Pr,F,env,env',d,r,e,q⟩:=hq;obtain⟨ds,e1,e2⟩:=tu e;refine⟨Pr,F,env,env',ds,r,e1,λvs H1 F1 r1 s1 p1=>?_⟩;show j7 C.K m g (vs++[]) H1 Q E0;rw[List.append_nil];exact⟨F1,ds,d,hn _ _ _ e1,r1.fr,p1,e2,λv H2 F2 t1 t2 t3 t4 p2=>q v H2 F2 (r1.after t1 t2 t3 t4) (s1.trans t3) p2⟩
theorem Vr{cdv:Value}{A:Around}{outer:List PySem.Env}{s:Shared}{H:Hp}{vs:List V}{Q:VK}{E:XK}(hb:my (bx P w K mg base N x st f cdv A outer s H E) (C0 K) (cI st) ev)(h:j7 K ps.length (cQ N.length ev) vs H Q E) :
  ∃t,Et (Hn xx P w K mg base N x (aL st) f cdv A outer s H E).VV (cI st) t/\t { nx:=λ_ H'=>Q .non H',rt:=Q } (start N vs) H:=by
 obtain⟨F0,ds,d,hl,sF,p,e,q⟩:=h;refine⟨_,hb,Ay H F0,F0,envOf N.length ds,qT sF p,?_⟩;unfold cQ at e;split at e
 ·rename_i d' env' h1;cases e;rw[h1];exact λv σ' H' F' r' s' p'=>q v H' F' (aQ.sS r'.pr s' r'.fr sF) r'.fr s' (sW s' r'.dj) p'
 ·rename_i env' h1;cases e;rw[h1];exact λσ' H' F' r' s'=>q .non H' F' (aQ.sS r'.pr s' r'.fr sF) r'.fr s' (sW s' r'.dj) rfl
 ·cases e
def Uv{vs:List V}{H:Hp}{Q:VK}{E:XK}{n:Nat}{g:List D->Option D}(h:j7 K n g vs H Q E):vs.length=n:=by obtain⟨F0,ds,d,hl,_,p,_⟩:=h;rw[p.length,hl]
def wI(F:Oj K x x st f fd)(S:bI N ps (aL st))
  (hb:∀(cdv:Value) (A:Around) (outer:List PySem.Env) (s:Shared) (H:Hp) (E:XK),fd.code=cdv->aQ T H->fJ k (A.deeper (envOfC x (aL st) s.heap.objs.size f cdv))->Good (bx P w K mg base N x st f cdv A outer s H E) (C0 K)->my (bx P w K mg base N x st f cdv A outer s H E) (C0 K) (cI st) ev) :
  lC P w K mg base xx (k+1) f fd ps (spT T (j7 K ps.length (cQ N.length ev))):=by
 obtain⟨oc,od,kV,doc,pm,an,cdv,ct,osl,rfl,lk,hcd⟩:=F.ex;refine X3 lk hcd S (λvs H Q E h=>Uv h.2) λA outer s H vs Q E hr h=>?_;obtain⟨t,ht,q⟩:=Vr (hb cdv A outer s H E rfl h.1 hr (yl rfl hr)) h.2;exact⟨t,ht.VV,q⟩
def M8(F:dI K mg x st ps)(S:bI N ps (aL st))
  (hb:∀(f:Addr) (cdv:Value) (A:Around) (outer:List PySem.Env) (s:Shared) (H:Hp) (E:XK),aQ T H->fJ k (A.deeper (envOfC x (aL st) s.heap.objs.size f cdv))->Good (bx P w K mg base N x st f cdv A outer s H E) (C0 K)->my (bx P w K mg base N x st f cdv A outer s H E) (C0 K) (cI st) ev) :
  Own P w K mg base x (k+1) ps (spT T (j7 K ps.length (cQ N.length ev))):=by
 obtain⟨f,fd,h1,h2,h3⟩:=F;exact⟨f,fd,wI h1 S λcdv A outer s H E _ hT hr G=>hb f cdv A outer s H E hT hr G,h2,h1.kp,h3⟩
def W4(K:Fg)(mg:Str->Option Value)(x:Str)(st:Stmt)(ps:List Str)(c:Addr):Prop:=∃f fd,Oj K x x st f fd/\mg x=some (.ref f)/\Binds K fd ps []/\fd.code = .ref c
def M9{c:Addr}(F:W4 K mg x st ps c)(S:bI N ps (aL st))
  (hb:∀(f:Addr) (A:Around) (outer:List PySem.Env) (s:Shared) (H:Hp) (E:XK),aQ T H->fJ k (A.deeper (envOfC x (aL st) s.heap.objs.size f (.ref c)))->Good (bx P w K mg base N x st f (.ref c) A outer s H E) (C0 K)->my (bx P w K mg base N x st f (.ref c) A outer s H E) (C0 K) (cI st) ev) :
  Own P w K mg base x (k+1) ps (spT T (j7 K ps.length (cQ N.length ev))):=by
 obtain⟨f,fd,h1,h2,h3,h4⟩:=F;refine⟨f,fd,wI h1 S λcdv A outer s H E hc hT hr G=>?_,h2,h1.kp,h3⟩;rw[h4] at hc;subst hc;exact hb f A outer s H E hT hr G
end
abbrev J5:=List (Str×List (Pos×Str))
def ju(K:Fg)(x:Str):Addr×Addr:=(tabIn K x).getD (0,0)
def mW(K:Fg):J5->Hp
 | [],_=>none
 | (x,qs)::r,b=>if b=(ju K x).2 then some (.tab qs) else mW K r b
theorem lE(K:Fg):∀l:J5,vg (mW K l)
 | [],_,_,h=>by cases h
 | (x,qs)::r,b,o,h=>by
  unfold mW at h;split at h
  ·cases h;exact⟨qs,rfl⟩
  ·exact lE K r b o h
theorem Fe(K:Fg):∀(l:J5) (b:Addr) (o:HO),mW K l b=some o->∃x qs,(x,qs)∈l/\b=(ju K x).2/\o = .tab qs
 | [],_,_,h=>by cases h
 | (x,qs)::r,b,o,h=>by
  unfold mW at h;split at h
  ·rename_i hb;cases h;exact⟨x,qs,List.mem_cons_self,hb,rfl⟩
  ·obtain⟨y,ps,h1,h2⟩:=Fe K r b o h;exact⟨y,ps,List.mem_cons_of_mem _ h1,h2⟩
def Np{P:Program}{w:World}{K:Fg}{mg mb:Str->Option Value}{k:Nat}{fa a:Addr}{fd:FuncData}{x:Str}{f:List D->Option D}{s₁:Shared}{vs:List Value}{ns:List Int}{l:J5}
  (KX:K.In s₁.heap) (hns:s₁.heap.Ns mainGlobals mg) (hb:s₁.heap.Ns builtinsNs mb) (hbb:∀x:Str,x ≠ "__name__"->mb x=bootBuiltins x) (hlim:s₁.heap.NoLimit) (hg:s₁.gens = #[])
  (ha:s₁.heap.get? a=some { cls:=.type "list",data:=.seq vs.toArray }) (hi:IntsAre vs ns) (hl:ns.length<=sizeLine) (hr:fJ k callerA)
  (hbm:∃bm ob,mg "__builtins__" = some (.ref bm)/\bm≠builtinsNs/\s₁.heap.get? bm=some ob/\ob.cls = .type "module"/\ob.dict=some builtinsNs/\ob.data = .plain)
  (hK:noTabs K=true) (hT:∀q∈l,CodeHd s₁.heap (ju K q.1).1 (ju K q.1).2/\s₁.heap.get? (ju K q.1).2=some (tabObj #[]))
  (F:∀base:Heap,K.In base->base.Ns mainGlobals mg->(∀q∈l,Bj base mg (ju K q.1).1 (ju K q.1).2)->lC P w K mg base xx k fa fd [x] (spT (mW K l) (j7 K 1 f))) (hbind:∀(s:Shared) (u:Value),BindsTo s fd ⟨[u],[]⟩ [(x,u)])
  (hf:f [.arr (ns.map .int)]=some (.bl true)) :
  codeAny (model P w) callerA (.call (.ref fa) ⟨[.ref a],[]⟩) (λr s'=>r = .ok (.ret (.bool true))/\OldK s₁.heap s'.heap/\s'.os=s₁.os/\AllBare s'.gens) s₁:=by
 have rv:=Bl hi;have lenV:=hi.length;have Mp:∀b o,mW K l b=some o->∃qs c,o = .tab qs/\CodeHd s₁.heap c b/\s₁.heap.get? b=some (tabObj #[]):=λb o e=>by
  obtain⟨y,qs,h1,h2,h3⟩:=Fe K l b o e;subst h2;exact⟨qs,_,h3,hT _ h1⟩
 have Uq:∀b o,mW K l b=some o->b≠a:=λb o e z=>by
  obtain⟨qs,c,_,_,h⟩:=Mp b o e;rw[z,ha] at h;cases h
 have core:∀H:Hp,aQ (mW K l) H->n8 K H a (ns.map V.int)->tQ P w H s₁.heap->(∀b,H b≠none->(b=a/\K.lookup a=none/\∃o xs,H b=some (.j5 o (.lst xs)))\/mW K l b=H b)->
   codeAny (model P w) callerA (.call (.ref fa) ⟨[.ref a],[]⟩) (λr s'=>r = .ok (.ret (.bool true))/\OldK s₁.heap s'.heap/\s'.os=s₁.os/\AllBare s'.gens) s₁:=by
  intro H hTH hS hok hA;have yu:∀{b:Addr} {o:Obj},s₁.heap.get? b=some o->H b=none->(Bb s₁.heap H).get? b=some o:=λe n=>Sx e n;have Ua:∀{b:Addr} {o:Obj},s₁.heap.get? b=some o->o.cls ≠ .type "list"->o.cls ≠ .none->H b=none:=λ{b o} e d1 d2=>by
   cases q:H b with
   | none=>rfl
   | some u=>
    rcases hA b (by rw[q];simp) with ⟨e',_⟩|e'
    ·subst e';rw[ha] at e;cases e;exact absurd rfl d1
    ·rw[q] at e';obtain⟨_,_,_,_,h⟩:=Mp b u e';rw[e] at h;cases h;exact absurd rfl d2
  have noD:∀{b:Addr} {o:Obj} {es:Array DictEntry} {ep:Nat},s₁.heap.get? b=some o->o.data = .dict es ep->H b=none:=λ{b o es ep} e d=>by
   cases q:H b with
   | none=>rfl
   | some u=>
    rcases hA b (by rw[q];simp) with ⟨e',_⟩|e'
    ·subst e';rw[ha] at e;cases e;have d':Data.seq vs.toArray _=Data.dict es ep:=d;cases d'
    ·rw[q] at e';obtain⟨_,_,_,_,h⟩:=Mp b u e';rw[e] at h;cases h;have d':Data.fields #[]=Data.dict es ep:=d;cases d'
  have nsK:∀{b:Addr} {m:Str->Option Value},s₁.heap.Ns b m->(Bb s₁.heap H).Ns b m:=λ{b m} ⟨o,es,ep,e,d,r⟩=>⟨o,es,ep,yu e (noD e d),d,r⟩;have hKb:K.In (Bb s₁.heap H):=λb o e=>yu (KX b o e) (by
   cases q:H b with
   | none=>rfl
   | some u=>
    rcases hA b (by rw[q];simp) with ⟨e',hk,_⟩|e'
    ·subst e';rw[hk] at e;cases e
    ·rw[q] at e';obtain⟨_,_,_,_,h⟩:=Mp b u e';rw[KX b o e] at h;cases h;have h2:=List.all_eq_true.mp hK (b,tabObj #[]) (mem_of_lookupK e);exact absurd (show false=true from h2) Bool.false_ne_true)
  have hM:Mod K mg (Bb s₁.heap H):=⟨hKb,nsK hns,⟨mb,nsK hb,hbb⟩,let ⟨mc,h1,h2⟩:=hlim;⟨mc,nsK h1,h2⟩⟩;have hTB:∀q∈l,Bj (Bb s₁.heap H) mg (ju K q.1).1 (ju K q.1).2:=λq hq=>by
   obtain⟨⟨o,us,file,tf,flags,tg,inF,text,tt,e1,r1,rr⟩,h2⟩:=hT q hq;obtain⟨bm,ob,b1,b2,b3,b4,b5,b6⟩:=hbm;refine⟨⟨o,us,file,tf,flags,tg,inF,text,tt,yu e1 (Ua e1 (by rw[r1];decide) (by rw[r1];intro z;cases z)),r1,rr⟩,⟨bm,ob,b1,b2,?_,?_,yu b3 (Ua b3 (by rw[b4];decide) (by rw[b4];intro z;cases z)),b4,b5,b6⟩,?_⟩
   ·intro z;obtain⟨o',es,ep,e,hd,_⟩:=hns;rw[z,e] at b3;cases b3;rw[hd] at b6;cases b6
   ·intro z;rw[z,h2] at b3;cases b3;cases b4
   ·intro z;obtain⟨o',es,ep,e,hd,_⟩:=hns;rw[z,h2] at e;cases e;cases hd
  have e0:HB P w K mg (Bb s₁.heap H) callerA [] s₁ H:=⟨rfl,hM,λb o e=>VN e,Nat.le_of_eq (Ny _ _),trivial,λb hb=>absurd (show b∈([]:List Addr) from hb) (by simp),hok,.of_eq hg⟩;have Sw:Rep K H (.arr (ns.map .int)) (.ref a):=by
   refine⟨by rw[List.length_map];exact hl,a,_,rfl,hS,?_⟩;clear hf hS hi lenV hl rv
   induction ns with
   | nil=>exact rfl
   | cons m ns ih=>exact⟨_,_,rfl,rfl,ih⟩
  refine codeAny_mono ((F _ hKb (nsK hns) hTB).run callerA [] s₁ H ⟨[.ref a],[]⟩ [.ref a] [.ref a] (λv _=>v = .bl true) (λ_ _ _=>False) hr e0 (hbind s₁ (.ref a)) (.cons rfl .nil) ⟨hTH,H,[.arr (ns.map .int)],.bl true,rfl,aQ.refl H,⟨_,_,rfl,Sw,rfl⟩,hf,λv H' F' _ _ _ _ p=>p⟩) λr s' h=>?_;cases r with
  | error e=>exact h.elim
  | ok fl=>
   cases fl with
   | next=>exact False.elim h
   | brk=>exact False.elim h
   | cont=>exact False.elim h
   | ret u=>
    obtain⟨v,H',os,bare,un,hok',r',q⟩:=h;have q':v = .bl true:=q;subst q';obtain rfl:u=Value.bool true:=r';have all:∀b o,s₁.heap.get? b=some o->s'.heap.get? b=some o\/(isCodeTable s₁.heap b/\o=tabObj #[]/\∃ps,s'.heap.get? b=some (tabObj ps)):=λb o e=>by
     cases q:H b with
     | none=>exact .inl (un.keep b o e q (by intro z;exact absurd (show b∈([]:List Addr) from z) (by simp)) (by simp))
     | some u=>
      rcases hA b (by rw[q];simp) with ⟨_,_,ob,xs,z⟩|e'
      ·have z2:=un.wD b ob _ z;obtain⟨e1,_⟩:=hok b _ z;obtain⟨e2,_⟩:=hok' b _ z2;rw[e] at e1;cases e1;exact .inl e2
      ·rw[q] at e';obtain⟨qs,c,rfl,h1,h2⟩:=Mp b u e';obtain⟨ps,e3,_⟩:=hok' b _ (un.tabs b qs q);rw[e] at h2;cases h2;exact .inr ⟨(h1.tab e).isCodeTable,rfl,ps,e3⟩
    refine⟨rfl,⟨λb o e=>?_,λb o e=>?_⟩,os,bare⟩
    ·rcases all b o e with z|⟨h1,rfl,ps,h2⟩
     ·exact .inl z
     ·exact .inr (.inl ⟨h1,rfl, #[],ps,rfl,by rw[Array.empty_append];exact h2⟩)
    ·rcases all b o e with z|⟨h1,rfl,ps,h2⟩
     ·exact⟨o,z⟩
     ·exact⟨_,h2⟩
 have Xf:∀H:Hp,∀b o,mW K l b=some o->gq P w H s₁.heap b o:=λH b o e=>by
  obtain⟨qs,c,rfl,_,h⟩:=Mp b o e;exact⟨#[],h,True.intro,λq _=>.inl rfl⟩
 cases hk:K.lookup a with
 | some o=>
  have e:=KX a o hk;rw[ha] at e;cases e;exact core (mW K l) (aQ.refl _) (.inr ⟨_,vs.toArray,_,hk,rfl,rfl,rfl,by rw[List.size_toArray,lenV];exact hl,by simpa using rv⟩) (λb u z=>Xf _ b u z) λb z=>.inr rfl
 | none=>
  refine core (λb=>if b=a then some (.j5 { cls:=.type "list",data:=.seq vs.toArray } (.lst (ns.map V.int))) else mW K l b) (λb o e=>?_) (.inl (.inr ⟨{ cls:=.type "list",data:=.seq vs.toArray },if_pos rfl⟩)) (λb u z=>?_) λb z=>?_
  ·exact(if_neg (Uq b o e)).trans e
  ·by_cases hb:b=a
   ·have z':=(if_pos hb).symm.trans z;cases z';subst hb;exact⟨ha,by rw[List.length_map];exact hl,vs,_,rv,ha⟩
   ·have z':=(if_neg hb).symm.trans z;exact Xf _ b u z'
  ·by_cases hb:b=a
   ·exact .inl ⟨hb,hk,_,_,if_pos hb⟩
   ·exact .inr (if_neg hb).symm
def Wi{K:Fg}{h:Heap}{mg:Str->Option Value}{x:Str}{st:Stmt}{ps:List Str}{f c P:Addr}{oc kV doc pm cdv ct:Value}{od an:Option Addr}{osl:Array (Option Value)}(X:K.In h)(G:h.Ns mainGlobals mg)
  (a:PySem.W.nsIn K mainGlobals x=some (some (.ref f))) (l:K.lookup f=some ⟨oc,od,.func (PySem.W.fnOf x x (gh st) (cI st) (aL st) .none kV doc pm an cdv ct),osl⟩) (c0:PySem.W.codeIn K cdv x=true) (k:PySem.W.keepIn K (.ref f)=true) (ht:tabIn K x=some (c,P))
  (b:∀{kV doc pm:Value} {an:Option Addr} {cdv ct:Value} (us:List Value),us.length=ps.length->bindArgs (PySem.W.fnOf x x (gh st) (cI st) (aL st) .none kV doc pm an cdv ct) ⟨us,[]⟩=pure (ps.zip us)):W4 K mg x st ps (ju K x).1:=by
 have e3:ju K x=(c,P):=by unfold ju;rw[ht];rfl
 refine⟨f,_,zy (st:=st) l c0 k,PySem.W.mg_of X G a,(zy (st:=st) l c0 k).binds λ_ _ _ _ _ _ us hl=>b us hl,?_⟩;rw[e3];exact law_code (fa:=f) X G ht (PySem.W.mg_of X G a) (X _ _ l) rfl
open PySem PySem.Spec PyProof.Rows L2
def nest(s:Stmt)(j:Nat):Stmt:=(cI s).getD j (.Pass ⟨0,0,0,0⟩)
def wJ(s:Stmt):Pos:=match s with
 | .FunctionDef _ _ _ _ _ _ _ _ _ p=>p
 | _=>⟨0,0,0,0⟩
def Ft(i:Nat)(a:Ev):bW:=λenv=>match env[i]? with
 | some (some (false,.int k))=>dD (a env) λd aM=>(match d with
  | .int j=>.nx (aM.set i (some (false,.int (k+j))))
  | _=>.stuck)
 | _=>.stuck
section
variable{X:Cx}{C:Cfg}{pos pos':Pos}{x:Str}{e:Expr}{a:Ev}
def adk(i:Nat)(he:PX X C e a)(hnd:ig X.N=true:=by rfl)(hfx:C.fx i=none:=by rfl)(hi:X.N[i]? = some x:=by rfl)(hx:Loc X.env.scope x:=by first|exact Or.inl rfl|exact Or.inr rfl)
  (hf:X.fn x=true\/X.env.scope.names.lookup x=some .local:=by first|exact .inl rfl|exact .inr rfl):yw X C (.AugAssign (.Name x pos') .Add e pos) (Ft i a):=
 (ZR (gw hnd) hi hx he abm hf).imp λD σ H h=>by
  obtain⟨Pr,F,env,r,f⟩:=h;unfold Ft at f;split at f
  ·rename_i k h0;obtain⟨d,aM,e1,f1⟩:=dJ f;split at f1
   ·rename_i j;obtain⟨v,h1,h2⟩:=r.val i _ h0;cases h2;exact⟨_,h1,Pr,F,env,aM,.int j,r,e1,λv2 H1 F1 r1 s1 p1=>⟨k,j,rfl,p1,f1 _ H1 F1 (r1.put hfx rfl) s1⟩⟩
   ·exact f1.elim
  ·exact f.elim
end
def Ry{N ps qs:List Str}{sc:Scope}(h1:sc.kind = .function:=by rfl)(h2:sc.isCoroutine=false:=by rfl)(h3:sc.isGenerator=false:=by rfl)(h4:ig N=true:=by rfl)(h5:N.take (ps.length+qs.length)=ps++qs:=by rfl)
  (h6:(ps.all λx=>decide (sc.names.lookup x=some .local))=true:=by rfl) (h7:(sc.names.all λy=>!decide (y.2 = .cell)&&(!decide (y.2 = .free)||qs.contains y.1))=true:=by rfl) (h8:(qs.all λx=>decide (sc.names.lookup x=some .free))=true:=by rfl):lK N ps qs sc:=by
 refine⟨h1,h2,h3,gw h4,h5,λx hx=>of_decide_eq_true (List.all_eq_true.mp h6 x hx),λx hx=>?_,λx hx=>of_decide_eq_true (List.all_eq_true.mp h8 x hx),λy hy z=>?_⟩
 ·have h:=List.all_eq_true.mp h7 _ (PySem.mem_of_lookup hx);rw[Bool.and_eq_true,Bool.or_eq_true] at h;rcases h.2 with z|z
  ·rw[decide_eq_true rfl] at z;exact absurd z (by decide)
  ·exact List.contains_iff_mem.mp z
 ·have h:=List.all_eq_true.mp h7 y hy;rw[decide_eq_true z] at h;exact absurd h (by simp)
def CV(N:List Str):List Nat->List Str->Bool
 | [],[]=>true
 | j::js,x::xs=>decide (N[j]? = some x)&&CV N js xs
 | _,_=>false
theorem Bp{N:List Str}:∀{js:List Nat} {xs:List Str},CV N js xs=true->xZ N js xs
 | [],[],_=>True.intro
 | [],_::_,h=>by cases h
 | _::_,[],h=>by cases h
 | j::js,x::xs,h=>by
  have h':(decide (N[j]? = some x)&&CV N js xs)=true:=h;rw[Bool.and_eq_true] at h';exact⟨of_decide_eq_true h'.1,Bp h'.2⟩
def X4{X:Cx}{qs:List (Pos×Str)}{i:Nat}{js:List Nat}{st:Stmt}{n:Str}{args:Arguments}{body:List Stmt}{sc:Scope}{pos:Pos}{qual:Str}
  (eq:st = .FunctionDef n args body [] none [] sc none n pos:=by rfl) (hq:(pos,qual)∈qs) (hqs:∀q∈qs,q.1.line=pos.line->q.1.col=pos.col->q.2=qual)
  (hd0:args.defaults=[]:=by rfl) (hk0:args.kw_defaults=[]:=by rfl) (ha:annTrees args none X.env=[]:=by rfl) (hqn:qualnameIn X.env n n=qual:=by rfl)
  (fr:((freeOf st).all λx=>decide (X.env.scope.names.lookup x=some .cell))=true:=by rfl) (fnd:ig (freeOf st)=true:=by rfl) (hi:X.N[i]? = some n:=by rfl) (hx:X.env.scope.names.lookup n=some .local:=by rfl) (sl:CV X.N js (freeOf st)=true:=by rfl) :
  HD X qs i js st n args body sc pos qual:=⟨eq,hq,hqs,hd0,hk0,ha,hqn,λx hx=>of_decide_eq_true (List.all_eq_true.mp fr x hx),gw fnd,hi,hx,Bp sl⟩
section
variable{X:Cx}{C:Cfg}{T:Hp}{pos p pos':Pos}{n:Str}{e:Expr}{es:List Expr}{ea:cV}{a:Ev}
def Za(i:Nat)(he:SX X C e a)(hnd:ig X.N=true:=by rfl)(hfx:C.fx i=none:=by rfl)(hi:X.N[i]? = some n:=by rfl)(hx:Loc X.env.scope n:=by first|exact Or.inl rfl|exact Or.inr rfl)
  (hf:X.fn n=true\/X.env.scope.names.lookup n=some .local:=by first|exact .inl rfl|exact .inr rfl):HN X C (.AugAssign (.Name n pos') .Add e pos) (Ft i a):=⟨Ev.adk i he.u hnd hfx hi hx hf⟩
def tW{k k':Nat}{m:Nat}{ps:List Str}{g:List D->Option D}(O:Own X.prog X.w X.K X.mg X.base n k ps (spT T (j7 X.K m g)))(hT:aQ T X.H₀)(hO:vg T)(G:Good X C)(hr:fJ k' X.A)(ha:J7 X C (e::es) ea)(hn:∀env ds env',ea env = .ok ds env'->ds.length=m)(hk:Nat.ble k k'=true:=by rfl)
  (hg:Gl X n:=by rfl) (hdb:iZ n:=by decide) (he:starEach (e::es) X.env=(false,eval e X.env)::starEach es X.env:=by rfl) (hpl:(backTo pos (starEach es X.env)).any (·.1)=false:=by rfl):SX X C (.Call (.Name n p) (e::es) [] pos) (au g ea):=
 ⟨Ev.Yq O hT hO G hr hk ha.u hn hg hdb he hpl⟩
def HX{k k':Nat}{Φ:Stmt->List D->List D->Option D}(i:Nat)(hΦ:∀st jE ds d,Φ st jE ds=some d->vm X.prog X.w X.K X.mg X.base k st (Φ st))(G:Good X C)(hr:fJ k' X.A)(hk:Nat.ble k k'=true)(ha:J7 X C (e::es) ea)
  (hN:X.N[i]? = some n:=by rfl) (hv:pD X.env.scope n:=by first|exact Or.inl rfl|exact Or.inr (Or.inl rfl)|exact Or.inr (Or.inr rfl)) (hx:∀e s,False->X.xe e s:=by exact λ_ _ h=>h.elim)
  (hd:iZ n:=by decide) (hcd:oU n:=by decide) (he:starEach (e::es) X.env=(false,eval e X.env)::starEach es X.env:=by rfl) (hpl:(backTo pos (starEach es X.env)).any (·.1)=false:=by rfl) :
  SX X C (.Call (.Name n p) (e::es) [] pos) (kW Φ i ea):=⟨Ev.ZK i hN hv G hΦ (hr.mono (Nat.le_of_ble_eq_true hk)) hx ha.u hd hcd he hpl⟩
end
def Wt{X:Cx}{C:Cfg}{qs:List (Pos×Str)}{c0 P:Addr}{i1 i2:Nat}{js1 js2:List Nat}{st1 st2:Stmt}{n1 n2:Str}{ar1 ar2:Arguments}{bd1 WM:List Stmt}{PJ FW:Scope}{ps1 ps2:Pos}{q1 q2:Str}{e1 e2 e3:Expr}{a1 a2 a3:Ev}{x:Str}{p Dn Dm pos rpos:Pos}{k k':Nat}{ps:List Str}{g:List D->Option D}
  (G:Good X C) (B:Bj X.base X.mg c0 P) (hcode:X.env.code = .ref c0) (hT:X.H₀ P=some (.tab qs))
  (D1:HD X qs i1 js1 st1 n1 ar1 bd1 PJ ps1 q1) (D2:HD X qs i2 js2 st2 n2 ar2 WM FW ps2 q2)
  (O:Own X.prog X.w X.K X.mg X.base x k ps (j7 X.K 5 g)) (hr:fJ k' X.A) (hkk:Nat.ble k k'=true)
  (h1:SX X C e1 a1) (h2:SX X C e2 a2) (h3:SX X C e3 a3) (hg:Gl X x:=by rfl) (hdb:iZ x:=by decide)
  (hfn:∀y,X.fn y=true:=by intro _;rfl) (hN:ig X.N=true:=by rfl) (hfx:∀i,C.fx i=none:=by intro _;rfl) (h12:i1≠i2:=by decide) (hx:∀e s,False->X.xe e s:=by exact λ_ _ h=>h.elim)
  (hv1:iZ n1:=by decide) (hv2:iZ n2:=by decide) (hw1:oU n1:=by decide) (hw2:oU n2:=by decide)
  (s1:starEach [e1,e2,e3,.Name n1 Dn,.Name n2 Dm] X.env=(false,eval e1 X.env)::starEach [e2,e3,.Name n1 Dn,.Name n2 Dm] X.env:=by rfl) (s2:starEach [e2,e3,.Name n1 Dn,.Name n2 Dm] X.env=(false,eval e2 X.env)::starEach [e3,.Name n1 Dn,.Name n2 Dm] X.env:=by rfl)
  (s3:starEach [e3,.Name n1 Dn,.Name n2 Dm] X.env=(false,eval e3 X.env)::starEach [.Name n1 Dn,.Name n2 Dm] X.env:=by rfl) (hpl:(backTo pos (starEach [e2,e3,.Name n1 Dn,.Name n2 Dm] X.env)).any (·.1)=false:=by rfl) :
  fK X C [st1,st2,.Return (some (.Call (.Name x p) [e1,e2,e3,.Name n1 Dn,.Name n2 Dm] [] pos)) rpos] (vI st1 st2 js1 js2 i1 i2 g a1 a2 a3):=
 ⟨Ev.Mz G B hcode hT hfn (gw hN) hfx h12 D1 D2 O hr (Nat.le_of_ble_eq_true hkk) hx hg hdb h1.u h2.u h3.u hv1 hv2 hw1 hw2 s1 s2 s3 hpl⟩
def FC(K:Fg)(x:Str)(st:Stmt):Prop:=∃(f c P:Addr) (oc kV doc pm ct oc2:Value) (od an od2:Option Addr) (osl Nb:Array (Option Value)) (vs:Array Value),PySem.W.nsIn K mainGlobals x=some (some (.ref f))/\
 K.lookup f=some ⟨oc,od,.func (PySem.W.fnOf x x (gh st) (cI st) (aL st) .none kV doc pm an (.ref c) ct),osl⟩/\PySem.W.codeIn K (.ref c) x=true/\PySem.W.keepIn K (.ref f)=true/\K.lookup c=some ⟨oc2,od2,.fields vs,Nb⟩/\vs[11]? = some (.ref P)
def FC.mk{K:Fg}{x:Str}{st:Stmt}{f c P:Addr}{oc kV doc pm ct oc2:Value}{od an od2:Option Addr}{osl Nb:Array (Option Value)}{vs:Array Value}(a:PySem.W.nsIn K mainGlobals x=some (some (.ref f)))
  (l:K.lookup f=some ⟨oc,od,.func (PySem.W.fnOf x x (gh st) (cI st) (aL st) .none kV doc pm an (.ref c) ct),osl⟩) (c0:PySem.W.codeIn K (.ref c) x=true) (k:PySem.W.keepIn K (.ref f)=true) (lc:K.lookup c=some ⟨oc2,od2,.fields vs,Nb⟩) (v:vs[11]? = some (.ref P)):FC K x st:=
 ⟨f,c,P,oc,kV,doc,pm,ct,oc2,od,an,od2,osl,Nb,vs,a,l,c0,k,lc,v⟩
def FC.tab{K:Fg}{x:Str}{st:Stmt}(F:FC K x st):∃cp,tabIn K x=some cp:=by obtain⟨f,c,P,oc,kV,doc,pm,ct,oc2,od,an,od2,osl,Nb,vs,a,l,c0,k,lc,v⟩:=F;refine⟨(c,P),?_⟩;unfold tabIn;rw[a];simp only[l,lc,v]
def FC.at{K:Fg}{h:Heap}{mg:Str->Option Value}{x:Str}{st:Stmt}{ps:List Str}(X:K.In h)(G:h.Ns mainGlobals mg)(F:FC K x st)
  (b:∀{kV doc pm:Value} {an:Option Addr} {cdv ct:Value} (us:List Value),us.length=ps.length->bindArgs (PySem.W.fnOf x x (gh st) (cI st) (aL st) .none kV doc pm an cdv ct) ⟨us,[]⟩=pure (ps.zip us)):W4 K mg x st ps (ju K x).1:=by
 obtain⟨⟨c',P'⟩,ht⟩:=F.tab;obtain⟨f,c,P,oc,kV,doc,pm,ct,oc2,od,an,od2,osl,Nb,vs,a,l,c0,k,lc,v⟩:=F;exact Wi X G a l c0 k ht b
def FA.ahu{P:Program}{w:World}{K:Fg}{h:Heap}{mg:Str->Option Value}{fa:Addr}{x y:Str}{st:Stmt}{k:Nat}{g:List D->Option D}{tl:J5}(X:K.In h)(G:h.Ns mainGlobals mg)(hfa:mg x=some (.ref fa))(F:FA K x st)
  (b:∀{kV doc pm:Value} {an:Option Addr} {cdv ct:Value} (s:Shared) (v:Value),BindsTo s (PySem.W.fnOf x x (gh st) (cI st) (aL st) .none kV doc pm an cdv ct) ⟨[v],[]⟩ [(y,v)])
  (q:∀{fd:FuncData} (base:Heap),(∀z∈tl,Bj base mg (ju K z.1).1 (ju K z.1).2)->Oj K x x st fa fd->lC P w K mg base xx k fa fd [y] (spT (mW K tl) (j7 K 1 g))) :
  ∃fd:FuncData,(∀(s:Shared) (v:Value),BindsTo s fd ⟨[v],[]⟩ [(y,v)])/\∀base:Heap,K.In base->base.Ns mainGlobals mg->(∀z∈tl,Bj base mg (ju K z.1).1 (ju K z.1).2)->lC P w K mg base xx k fa fd [y] (spT (mW K tl) (j7 K 1 g)):=by
 obtain⟨f,oc,kV,doc,pm,cdv,ct,od,an,osl,a,l,c,k⟩:=F;have e:=hfa.symm.trans (PySem.W.mg_of X G a);cases e;exact⟨_,b,λbase _ _ hB=>q base hB (zy (st:=st) l c k)⟩
theorem YB{l:PySem.W.OpenLaw}{n k:Nat}{q:Program}{loose:List Str}{XP:(Str->Option Value)->Heap->Prop}{YP:World->Heap->Prop}{d:DefRec}{K:Params->PySem.W.Frag}{x:Str}{f:List D->Option D}(tl:J5)
  (hn:l.most=some n) (hn2:n<=sizeLine) (hdf:d.params.defaults=[]) (hr:fJ k callerA)
  (hY:∀(w:World) (h:Heap),YP w h->(K w.params).In h)
  (hf:∀ns:List Int,ns.length<=n->Ol ns->f [.arr (ns.map .int)]=some (.bl true))
  (hK:∀w:World,noTabs (K w.params)=true) (hrec:∀y∈tl,∃e,(recsOf q).find? (λe=>e.name == y.1)=some e)
  (F:∀(w:World) (mg:Str->Option Value) (fa:Addr) (h:Heap),(K w.params).In h->h.Ns mainGlobals mg->mg d.name=some (.ref fa)->(∀y∈tl,∃cp,tabIn (K w.params) y.1=some cp)/\
   ∃fd:FuncData,(∀(s:Shared) (u:Value),BindsTo s fd ⟨[u],[]⟩ [(x,u)])/\
    ∀base:Heap,(K w.params).In base->base.Ns mainGlobals mg->(∀y∈tl,Bj base mg (ju (K w.params) y.1).1 (ju (K w.params) y.1).2)->lC l.prog w (K w.params) mg base xx k fa fd [x] (spT (mW (K w.params) tl) (j7 (K w.params) 1 f))) :
  PySem.W.WalkO q loose XP YP l.row.toRowW d [] (λf vs=>PySem.call f vs):=by
 refine Ej hn hdf λw s₀ s₁ mg mb fa o pm cd doc a vs ns G Y ho hd hcd hmg hobj hints hlen Sy hg=>?_;have KX:=hY w _ Y;obtain⟨htab,fd,hb,hF⟩:=F w mg fa _ KX G.T.g hmg;refine Np (l:=tl) KX G.T.g G.T.b G.T.builtins G.T.nolimit hg hobj hints (Nat.le_trans hlen hn2) hr G.T.bmain (hK w) (λy hy=>?_) hF hb (hf ns hlen Sy);obtain⟨⟨c,P⟩,e1⟩:=htab y hy;obtain⟨e,e2⟩:=hrec y hy;have e3:ju (K w.params) y.1=(c,P):=by unfold ju;rw[e1];rfl
 rw[e3];exact tab_of G.T KX e2 e1
section
variable{P:Program}{w:World}{A:Around}{E:Value->Shared->Prop}{s:Shared}{it d:Addr}{es:Array DictEntry}{ep i:Nat}{X:Cx}{C:Cfg}{e:Expr}{ea:cV}{p pos:Pos}
def Er(h:Heap)(d:Addr)(es:Array DictEntry)(ep:Nat):Prop:=∃o,h.get? d=some o/\o.ExactDict/\o.data = .dict es ep
def Er.ty(r:Er s.heap d es ep):s.TypeIs (.ref d) "dict":=let ⟨o,ho,hc,_⟩:=r;⟨o,ho,hc.1⟩
def Er.keep{h h':Heap}(r:Er h d es ep)(k:∀o,h.get? d=some o->h'.get? d=some o):Er h' d es ep:=let ⟨o,ho,q⟩:=r;⟨o,k o ho,q⟩
def Ql{Q:Value->Shared->Prop}(lo:(d == sysModules)=false)(r:Er s.heap d es ep)
  (q:Q (.ref s.heap.objs.size) { s with heap:=s.heap.push { cls:=.type "dict_keyiterator",data:=.fields #[.ref d,.int 0 0,.int es.size 0,.int ep 0] } }):wpAny (model P w) A (pyIter (.ref d)) Q E s:=by
 obtain⟨o,ho, -,hdat⟩:=id r;refine wpAny_pyIter_slot r.ty F.slot_dict_iter (wpAny_call_entry F.slot_dict_iter r.ty F.entry_dict_iter ?_ (F.args_dict_iter_1 _));unfold Builtin.«dict.__iter__» Builtin.Dict.dictSlotNone;refine wpAny_bind (wpAny_bind (wpAny_notOrdered_dict r.ty ?_));show wpAny _ _ (pure (Value.ref d)) _ _ _;refine wpAny_pure ?_;show wpAny _ _ (Builtin.Dict.showsAll d >>= _) _ _ _;unfold Builtin.Dict.showsAll;rw[if_neg (by rw[lo];simp)];exact wpAny_bind (wpAny_pure (wpAny_bind (wpAny_dictEntries ho hdat (wpAny_bind (wpAny_dictEpoch ho hdat (wpAny_bind (wpAny_newObj_type (wpAny_pure ⟨_,rfl,"dict_keyiterator",_,⟨_,Heap.get?_push_size _ rfl,rfl⟩,F.slot_dict_keyiterator_next.lookup,by simpa[rawInt] using q⟩))))))))
def Ge{Q:Option Value->Shared->Prop}(hh:A.handled=none)(x:s.heap.IsKeyIter it d i es.size ep)(r:Er s.heap d es ep)
  (q1:∀(hi:i<es.size) h',h'.IsKeyIter it d (i+1) es.size ep->Heap.SameBut it s.heap h'->Q (some es[i].key) { s with heap:=h' })
  (q2:es.size<=i->∀h',Heap.ExtBut it s.heap h'->Q none { s with heap:=h' }):wpAny (model P w) A (pyNext (.ref it)) Q E s:=by
 obtain⟨o,ho,hc,hd⟩:=id x;obtain⟨od,hod, -,hdd⟩:=id r;unfold pyNext;refine wpAny_bind (wpAny_attempt (wpAny_callSpecial?_slot (name:=Str.ofString "__next__") x.typeIs F.slot_dict_keyiterator_next (wpAny_call_entry F.slot_dict_keyiterator_next x.typeIs F.entry_dict_keyiterator_next (wpAny_bind (wpAny_pure (wpAny_bind (wpAny_bind ?_)))) (F.args_dict_keyiterator_next_1 _))));refine wpAny_bind (wpAny_typeNameOfWhole_keyiter x.typeIs (wpAny_pure (wpAny_bind (wpAny_fieldsOf ho hd ?_))));simp only[show Builtin.Dict_items.ownsTuple "dict_keyiterator" = false by decide,Bool.false_eq_true,if_false];show wpAny _ _ (if (Value.ref d == Value.none)=true then _ else _) _ _ _;rw[if_neg (show ¬((Value.ref d == Value.none)=true) by simp[show(Value.ref d == Value.none)=false from rfl])];refine wpAny_bind (wpAny_pure (wpAny_bind (wpAny_dictEntries hod hdd ?_)));rw[if_neg (by simp)];refine wpAny_bind (wpAny_pure (wpAny_bind (wpAny_dictEpoch hod hdd ?_)));rw[if_neg (by simp)];refine wpAny_pure ?_;by_cases hi:i<es.size
 ·simp only[show ¬((i:Int)<0) by omega,if_false,Int.toNat_natCast,Array.getElem?_eq_getElem hi];refine wpAny_bind (wpAny_bind (wpAny_typeNameOfWhole_keyiter x.typeIs (wpAny_pure (wpAny_bind (wpAny_isOneOf_keyiter x.typeIs ?_)))));show wpAny _ _ (setField (.ref it) 1 (rawInt ((i:Int)+1)) >>= _) _ _ _;refine wpAny_bind (wpAny_setField ho hd (by simp) ?_);have y:(s.heap.update it (Obj.mapFields (·.setIfInBounds 1 (rawInt ((i:Int)+1))))).IsKeyIter it d (i+1) es.size ep:=
   ⟨_,Heap.get?_update_self _ ho (Obj.isFreed_of_fields (Obj.data_mapFields hd _)),(Obj.cls_mapFields ..).trans hc,by rw[Obj.data_mapFields hd];simp[rawInt]⟩
  refine wpAny_bind (wpAny_holding (wpAny_bind (wpAny_isOneOf_keyiter (s:={ s with heap:=s.heap.update it (Obj.mapFields (·.setIfInBounds 1 (rawInt ((i:Int)+1)))) }) y.typeIs ?_)));show wpAny _ _ (pure es[i].key) _ _ _;exact wpAny_pure (wpAny_pure ⟨_,rfl,wpAny_pure (q1 hi _ y (Heap.SameBut.update ..))⟩)
 ·have hi:es.size<=i:=by omega
  simp only[show ¬((i:Int)<0) by omega,if_false,Int.toNat_natCast,Array.getElem?_eq_none hi];refine wpAny_bind (wpAny_bind (wpAny_typeNameOfWhole_keyiter x.typeIs (wpAny_pure ?_)));show wpAny _ _ (setField (.ref it) 0 .none >>= _) _ _ _;refine wpAny_bind (wpAny_setField ho hd (by simp) ?_);show wpAny _ _ (newExc (.type "StopIteration") [] >>= _) _ _ _;simp only[newExc,newTuple];refine wpAny_bind (wpAny_bind (wpAny_newObj_type (wpAny_bind (m:=firstArgMember _ _) (wpAny_of_eq (a:=Value.none) rfl (wpAny_newObj_type ?_ (by size_fits)))) (by size_fits)));simp only[raiseNew];refine wpAny_bind (wpAny_handled ?_);rw[show A.in1.handled=none from hh];refine wpAny_bind (wpAny_pure (wpAny_throw ?_));refine wpAny_bind (wpAny_isInstance (T:="StopIteration") (b:=true) ⟨_,Heap.get?_push_size _ rfl,rfl⟩ isSubtype_stop (wpAny_pure ?_));exact q2 hi _ (((Heap.SameBut.update ..).extBut.push _).push _)
def Qk(hh:A.handled=none)(hne:d≠it):Walks P w A it [it,d] [it] es.size (λi v=>∃e,es[i]? = some e/\v=e.key) (λi h=>h.IsKeyIter it d i es.size ep/\Er h d es ep) where
 sub:=λb hb=>by simp at hb;simp[hb]
 frame:=λ_ _ _ st k=>⟨st.1.at (k it (by simp)),st.2.keep (k d (by simp))⟩
 item:=λi s Q E hi st q=>Ge hh st.1 st.2 (λhi h' a b=>q _ h' s.toks ⟨_,Array.getElem?_eq_getElem hi,rfl⟩ ⟨a,st.2.keep λo e=>b.extBut d o hne e⟩ λb' o hb e=>b.extBut b' o (λz=>hb (by simp[z])) e) λz=>absurd hi (by omega)
 done:=λs Q E st q=>Ge hh st.1 st.2 (λhi=>absurd hi (by omega)) λ_ h' b=>q h' s.toks λb' o hb e=>b b' o (λz=>hb (by simp[z])) e
 self:=λ_ _ _ _ st q=>wpAny_pyIter_keyiter st.1 q
theorem U4(lo:(d == sysModules)=false):PySem.W.KdlSrc P w "dict" d d es.size (λi v=>∃e,es[i]? = some e/\v=e.key) (λh=>Er h d es ep) where
 type:=λ_ r=>r.ty
 there:=λ_ ⟨o,ho,_⟩=>⟨Heap.lt_size ho,Heap.lt_size ho⟩
 keep:=λ_ _ r k=>r.keep (k d (.inl rfl))
 notList:=by decide
 notTuple:=by decide
 hint:=λ_ _ _ _ r q=>PySem.W.kdl_hint_dict r.ty q
 iter:=λA s hh r=>⟨_,_,λ_ _ q=>Ql lo r q,Qk hh (let ⟨o,ho,_⟩:=r;Nat.ne_of_lt (Heap.lt_size ho)),⟨_,Heap.get?_push_size _ rfl,rfl,rfl⟩,r.keep λo e=>Heap.get?_push_of_some _ e⟩
abbrev Jd(K:Fg):List V->Hp->VK->Prop:=λxs H Q=>∃p ks kvs,xs=[.ref p]/\Rd H p (.dN ks)/\cU K H kvs ks/\∀l,H l=none->Q (.ref l) (upd H l (.lst (ks.map (·.2.1))))
def JW(hc:X.calm=true):jo X (.type "list") (Jd X.K):=by
 intro pins s σ H xs us Q I r h;obtain⟨p,ks,kvs,rfl,hq,hr,q⟩:=h;obtain⟨u,rfl,rx⟩:=vals1 r;cases rx;obtain⟨z,lo,xs,kn,o,es,ep,h1,h2,h3,h4,_,_⟩:=Hl I hq hr;have hsz:es.size=ks.length:=by rw[<-Array.length_toList,h4,List.length_map,kn.len]
 refine PySem.W.kdl_call (U4 (es:=es) (ep:=ep) lo) (I.ok.hd hc) ⟨o,h1,h2,h3⟩ (by rw[hsz];exact z) λh' tk acc c' hk hl hacc=>?_;refine⟨.ref s.heap.objs.size,_,I.laid (t':=tk) hk (Nat.le_refl _) (show gq X.prog X.w _ h' _ (.lst (ks.map (·.2.1))) from⟨by rw[List.length_map];exact z,acc.toList,c',?_,by simpa using hl⟩),rfl,q _ (I.hok.fresh (Nat.le_refl _))⟩;have go:∀{ks:List (NK×V×V)} {xs:List (NK×Addr×Value)},KN ks xs->∀(vs:List Value),vs.length=ks.length->(∀(j:Nat) v,vs[j]? = some v->∃x,xs[j]? = some x/\v = .ref x.2.1)->Vals (ks.map (·.2.1)) vs:=by
  intro ks xs kn
  induction kn with
  | nil=>intro vs hl _;rw[List.eq_nil_of_length_eq_zero hl];exact .nil
  | @cons a b as bs h t ih=>
   intro vs hl hv;cases vs with
   | nil=>simp at hl
   | cons v vs=>
    obtain⟨x,e1,e2⟩:=hv 0 v rfl;simp at e1;subst e1 e2;rw[List.map_cons,h.2.1];exact .cons rfl (ih vs (by simpa using hl) λj w hw=>by simpa using hv (j+1) w (by simpa using hw))
 refine go kn _ (by rw[Array.length_toList,hacc.1,hsz]) λj v hv=>?_;rw[Array.getElem?_toList] at hv;obtain⟨y,e1,e2⟩:=hacc.2 j v hv;rw[<-Array.getElem?_toList,h4,List.getElem?_map] at e1;obtain⟨x,g1,g2⟩:=Option.map_eq_some_iff.mp e1;exact⟨x,g1,by rw[e2,<-g2];rfl⟩
def wC:List D->Option D
 | [.gR kvs]=>some (.lst (kvs.map (·.1)))
 | _=>none
theorem cU.keys{K:Fg}{F:Hp}:∀{kvs:List (D×D)} {ks:List (NK×V×V)},cU K F kvs ks->bT K F (kvs.map (·.1)) (ks.map (·.2.1))
 | [],_,h=>by cases h;rfl
 | (k,d)::kvs,_,h=>by
  obtain⟨q,u,v,r,rfl,_,_,h1,_,h2⟩:=h;exact⟨u,_,rfl,h1,cU.keys h2⟩
def Tu:CallD C (Jd C.K) wC:=by
 intro Pr F env σ H ds d vs Q r hs h q;unfold wC at h;split at h
 ·rename_i kvs;cases h;obtain⟨v,rfl,hv⟩:=jL hs;have hv2:∃a ks,v = .ref a/\Rd H a (.dN ks)/\cU C.K F kvs ks/\kvs.length<=sizeLine:=by
   rcases hv with hv|⟨a,rfl,hv⟩
   ·obtain⟨z,a,ks,rfl,g1,g2⟩:=hv;exact⟨a,ks,rfl,g1.imp (λg=>r.fr _ _ g) (λ⟨o,g⟩=>⟨o,r.fr _ _ g⟩),g2,z⟩
   ·obtain⟨z,ks,g1,g2⟩:=hv;exact⟨a,ks,rfl,.inl g1,g2,z⟩
  obtain⟨a,ks,rfl,h1,h2,z⟩:=hv2;refine⟨a,ks,_,rfl,h1,cU.mono r.fr _ _ h2,λl hl=>?_⟩;obtain⟨r2,s2⟩:=r.new (o:=.lst (ks.map (·.2.1))) hl;exact q _ _ _ r2 s2 ⟨by rw[List.length_map];exact z,l,_,rfl,aZ,bT.mono s2 _ _ h2.keys⟩
 ·cases h
def Uk(G:Good X C)(hm:X.mg "list" = none)(ha:rD X C [e] ea)(hg:Gl X "list":=by rfl)(he:xG e X.env:=by rfl):PX X C (.Call (.Name "list" p) [e] [] pos) (au wC ea):=
 nJ (T:="list") (r:=Jd C.K) (by rw[<-G.K];exact JW G.calm) Tu hg hm (by decide +kernel) ha (by decide) (by decide) he rfl
def O1(G:Good X C)(hm:X.mg "list" = none)(ha:xV X C [e] ea)(hg:Gl X "list":=by rfl)(he:xG e X.env:=by rfl):SX X C (.Call (.Name "list" p) [e] [] pos) (au wC ea):=⟨Ev.Uk G hm ha.u hg he⟩
end
end Ev
abbrev OD:=Option (Bool×Ev.D)
abbrev Zf(d:Ev.D):OD:=some (false,d)
abbrev Zt(d:Ev.D):OD:=some (true,d)
abbrev Zs(w:List Nat):OD:=some (false,.str w)
abbrev Zb(b:Bool):OD:=some (false,.bl b)
abbrev Zl(l:List Ev.D):OD:=some (true,.lst l)
abbrev Zv(i:Nat)(a:Ev.cV):Ev.cV:=Ev.aa (Ev.aP i) a
abbrev Zi(i:Int):Ev.Ev:=Ev.jg (.int i)
abbrev Zw(w:List Nat):Ev.Ev:=Ev.jg (.str w)
abbrev LD:=List Ev.D->Option Ev.D
abbrev Zn:OD:=none
abbrev WW:List PySem.Str:=["_law_pack_here","_law_sounds_here"]
abbrev Yi:List PySem.Str:=["_law_side","_law_rule_here","_law_word"]
abbrev Zq2:List PySem.Str:=["rule","standing","sign"]
abbrev Zq3:List PySem.Str:=["_law_rule_here","_law_word"]
abbrev Zq4:List PySem.Str:=["stock","side","rule","other"]
abbrev Zq5:List PySem.Str:=["_law_stock_here"]
abbrev Zq6:List PySem.Str:=["_law_signs_here","_law_sign"]
abbrev Zq7:List PySem.Str:=["rule","standing","signs"]
abbrev Zq8:List PySem.Str:=["order","standing","sound"]
abbrev Zq9:List PySem.Str:=["stock","side","first","lead","shows"]
abbrev ach:List PySem.Str:=["stock","side","rule","other","behind","alone"]
abbrev acg:List PySem.Str:=["_law_pack_here","_law_size"]
abbrev acf:List PySem.Str:=["_law_pack_here","_law_sounds_here","_law_rule_here"]
abbrev ace:List PySem.Str:=["_law_rule_here","_law_standing","_law_signs_here"]
abbrev acd:List PySem.Str:=["_law_rules","_law_row","_law_sign","_law_end"]
abbrev acb:List PySem.Str:=["_law_side","_law_rule_here","_law_other","_law_sounds_here","_law_wished"]
abbrev aca:List PySem.Str:=["_law_side","_law_rule_here","_law_other","_law_word"]
abbrev afq:List PySem.Str:=["rule","standing","sign","way","changes","left","right","near","held","put"]
namespace pO
open PySem L2 Ev
section
def top(i:Nat):Stmt:=PySem.Challenge.pw_soundrules_k37_taking.main.body.getD i (.Pass ⟨0,0,0,0⟩)
def bw:Stmt:=nest (top 19) 2
def bj:Stmt:=nest (top 19) 3
def qx:Ev:=iD 1 3 (ik (aP 0)) (cJ 2 (aG (aj 1) (aG (aj 2) cN))) fP (aP 1)
def qM:bW:=bA (au dG (aa (qx) ak))
def iz:LD:=cQ 1 qM
def jC:bW:=bA (Wk (cP (ao j4 0 (Zw [114,105,103,104,116]))) (rJ (aP 1)) (aP 1))
def gA:LD:=cQ 2 jC
def mj:bW:=aC (aJ (aP 0) (cJ 4 (aG (aj 1) (aG (aj 2) (aG (aj 3) (aG (aj 4) cN)))))) (bA (bV (Zv 1 (Zv 2 (Zv 4 (Zv 3 ak))))))
def jW:LD:=cQ 5 mj
def sX:Ev:=iD 3 4 (ik (aP 2)) (aj 3) fP (au jW (Zv 3 ak))
def jj:bW:=aC (aJ (aP 0) (cJ 2 (aG (aj 1) (aG (aj 2) cN)))) (aC (cY (cP (ao j4 1 (Zw [114,105,103,104,116]))) (bA (au dG (aa (sX) ak))) bN) (bA (aP 2)))
def di:LD:=cQ 3 jj
def jM:bW:=bA (aH j4 (aH bY (aH bY (ao bY 0 (Zi 1)) (Zi 0)) (Zi 0)) (Zw []))
def jm:LD:=cQ 1 jM
def pB:bW:=bA (lq (ao NP 0 (jg .non)) (ao gIn 1 (bf 0)))
def fO:LD:=cQ 2 pB
def gj:bW:=aC (aJ (aP 0) (cJ 4 (aG (aj 3) (aG (aj 4) (aG (aj 5) (aG (aj 6) cN)))))) (aC (aJ (aP 1) (cJ 2 (aG (aj 7) (aG (aj 8) cN)))) (aC (aJ (aP 8) (aj 9)) (aC (cY (fC (cP (aP 7)) (cP (au fO (Zv 6 (Zv 2 ak))))) (aJ (ao cB 8 (aH bY (ao bY 4 (Zi 0)) (Zi 1))) (aj 9)) bN) (bA (bV (aa (bV (aa (au fO (Zv 5 (Zv 2 ak))) (Zv 2 ak))) (Zv 9 ak)))))))
def eG:LD:=cQ 10 gj
def gW:bW:=aC (aJ (aP 0) (cJ 4 (aG (aj 3) (aG (aj 4) (aG (aj 5) (aG (aj 6) cN)))))) (aC (aJ (aP 1) (cJ 2 (aG (aj 7) (aG (aj 8) cN)))) (aC (cY (cP (ao j4 8 (Zw []))) (bA (bV (aa (bV (Zv 7 (Zv 2 ak))) (aa (Zw []) ak)))) bN) (aC (aJ (aP 8) (aj 9)) (aC (cY (fC (cP (aP 7)) (cP (au fO (Zv 6 (Zv 2 ak))))) (aJ (wG (au nW (aa (bf 4) ak)) (aP 8) (aP 8)) (aj 9)) bN) (aC (cY (cP (ao j4 3 (Zw [111,110,99,101]))) (bA (bV (aa (bV (aa (au fO (Zv 5 (Zv 8 ak))) (Zv 2 ak))) (Zv 9 ak)))) bN) (aC (cY (cP (ao j4 9 (Zw []))) (bA (bV (aa (bV (Zv 7 (Zv 2 ak))) (Zv 9 ak)))) bN) (bA (bV (aa (bV (aa (au fO (Zv 5 (Zv 9 ak))) (Zv 2 ak))) (Zv 9 ak))))))))))
def eV:LD:=cQ 10 gW
def pI:bW:=aC (aJ (ao bY 1 (Zi 1)) (aj 6)) (aC (cY (cP (au jm (Zv 0 ak))) (aJ (au eG (Zv 0 (Zv 1 (Zv 5 ak)))) (cJ 2 (aG (aj 1) (aG (aj 7) cN)))) (aJ (au eV (Zv 0 (Zv 1 (Zv 5 ak)))) (cJ 2 (aG (aj 1) (aG (aj 7) cN))))) (aC (aJ (lq (aP 4) (ao qC 7 (bf 6))) (aj 4)) (gG 3 (aP 7))))
def lr:bW:=aC (dq 3 (cC ak)) (aC (aJ (jg (.bl false)) (aj 4)) (aC (fY (ik (aP 2)) (aj 5) (pI)) (bA (bV (Zv 1 (aa (aH nU (Zw []) (bf 3)) (Zv 4 ak)))))))
def gO:LD:=cQ 8 lr
def rH:bW:=aC (aJ (au gO (Zv 6 (Zv 7 (Zv 3 ak)))) (cJ 3 (aG (aj 8) (aG (aj 3) (aG (aj 9) cN))))) (aC (gG 4 (aP 8)) (gG 5 (aP 9)))
def o9:bW:=aC (aJ (aP 2) (aj 3)) (aC (dq 4 (cC ak)) (aC (dq 5 (cC ak)) (aC (fY (wZ (aa (au di (Zv 0 ak)) (Zv 1 ak))) (cJ 2 (aG (aj 6) (aG (aj 7) cN))) (rH)) (bA (bV (aa (au dG (aa (bf 4) ak)) (Zv 3 (aa (au dG (aa (bf 5) ak)) ak))))))))
def gM:LD:=cQ 10 o9
def qy:bW:=aC (aJ (au gO (Zv 4 (Zv 5 (aa (ao cB 2 (Zw [35])) ak)))) (cJ 3 (aG (aj 6) (aG (aj 2) (aG (aj 7) cN))))) (gG 3 (aP 7))
def mO:bW:=aC (aJ (Zw []) (aj 2)) (aC (dq 3 (cC ak)) (aC (fY (wZ (aa (au di (Zv 0 ak)) (Zv 1 ak))) (cJ 2 (aG (aj 4) (aG (aj 5) cN))) (qy)) (bA (bV (Zv 2 (aa (au dG (aa (bf 3) ak)) ak))))))
def f9:LD:=cQ 8 mO
def pg:bW:=aC (aJ (aP 0) (cJ 4 (aG (aj 4) (aG (aj 5) (aG (aj 6) (aG (aj 7) cN)))))) (aC (aJ (au gM (Zv 3 (Zv 4 (Zv 1 ak)))) (cJ 3 (aG (aj 4) (aG (aj 8) (aG (aj 9) cN))))) (aC (aJ (au gM (Zv 2 (Zv 5 (Zv 1 ak)))) (cJ 3 (aG (aj 5) (aG (aj 8) (aG (aj 10) cN))))) (bA (bV (Zv 4 (Zv 5 (aa (lq (aP 6) (ao bY 9 (Zi 1))) (aa (lq (aP 7) (ao bY 10 (Zi 0))) ak))))))))
def gQ:List D->LD:=runC 2 11 pg
def nZ:bW:=aC (aJ (aP 0) (cJ 4 (aG (aj 5) (aG (aj 6) (aG (aj 7) (aG (aj 8) cN)))))) (aC (aJ (lq (aP 7) (aH bY (aH bY (au f9 (Zv 2 (Zv 5 ak))) (Zi 1)) (Zi 1))) (aj 9)) (aC (aJ (lq (aP 8) (aH bY (aH bY (au f9 (Zv 1 (Zv 6 ak))) (Zi 1)) (Zi 0))) (aj 10)) (bA (jY (ao j4 9 (bf 3)) (ao j4 10 (bf 4))))))
def gF:List D->LD:=runC 1 11 nZ
open Classical in
def Ma(st:Stmt):List D->LD:=if st=bw then gQ else if st=bj then gF else λ_ _=>none
def sY:bW:=aC (aJ (kW Ma 3 (aa (ao bY 5 (bf 8)) (Zv 9 ak))) (aj 10)) (aC (cY (jX (cP (ao NP 10 (jg .non))) (cP (ao JP 10 (bf 7)))) ((λenv=>.ct env)) bN) (aC (cY (cP (kW Ma 4 (Zv 10 ak))) (bA (au gA (Zv 1 (aa (aH cB (ao bY 6 (bf 8)) (bf 9)) ak)))) bN) (aC (ou 7 (aP 10) (jg (.bl true))) (aC (gG 5 (aP 10)) (gG 6 (aH cB (ao bY 6 (bf 8)) (bf 9)))))))
def rP:bW:=aC (fY (ik (au iz (Zv 0 ak))) (aj 9) (sY)) (Ft 8 (Zi 1))
def dM:bW:=aC (cY (cP (kW Ma 4 (Zv 2 ak))) (bA (Zw [])) bN) (aC (dq 5 (cC (Zv 2 ak))) (aC (dq 6 (cC (aa (Zw []) ak))) (aC (dq 7 (o5 (aP 2) (jg (.bl true)))) (aC (aJ (Zi 0) (aj 8)) (aC (dU (cP (ao Ud 8 (au gU (aa (bf 5) ak)))) (rP) 7000) (bA (jg .non)))))))
def pJ:LD:=cQ 11 dM
def rB:Ev:=iD 1 5 (ik (au di (Zv 0 ak))) (cJ 4 (aG (aj 1) (aG (aj 2) (aG (aj 3) (aG (aj 4) cN))))) fP (bV (aa (au fO (Zv 3 (aa (Zw [35]) ak))) (aa (Zw []) ak)))
def jO:bW:=bA (au dG (aa (rB) ak))
def cG:LD:=cQ 1 jO
def wL:bW:=aC (aJ (bV (Zv 1 (aa (bV (Zv 2 (Zv 3 ak))) ak))) (aj 6)) (aC (aJ (bV (Zv 1 (aa (bV (Zv 3 ak)) ak))) (aj 7)) (vI bw bj [7,6] [7,6,4,5] 8 9 pJ (aP 0) (aP 1) (bV (aa (au cG (Zv 6 ak)) (aa (au cG (Zv 7 ak)) (aa (jg (.bl false)) (aa (jg (.bl false)) ak)))))))
def iI:LD:=cQ 10 wL
def Eh:bW:=bA (au iI (Zv 0 (Zv 1 (Zv 2 (Zv 3 (aa (jg (.bl false)) (aa (jg (.bl true)) ak)))))))
def fB:LD:=cQ 4 Eh
def mR:bW:=bA (aH abz (ao sZ 0 (Zi 915965594177219015054603514932384110774149374281672134266497)) (aH JM (Zi 10) (Zi 60)))
def iC:LD:=cQ 1 mR
def Az:bW:=aJ (aH cB (ao sZ 2 (aH JM (Zi 10) (Zi 60))) (au iC (aa (aH bY (aH cB (uL (aP 0) (vo (aP 3)) (vo (ao cB 3 (Zi 1)))) (cC (aa (aH cB (aH sZ (Zi 7919) (bf 3)) (Zi 61)) ak))) (Zi 0)) ak))) (aj 2)
def jN:bW:=aC (aJ (Zi 0) (aj 2)) (aC (fY (ik (cC (aa (ao cB 1 (Zi 1)) (Zv 1 ak)))) (aj 3) (Az)) (pW (cC (Zv 2 ak))))
def oX:LD:=runN 4 jN
def mq:bW:=aC (aJ (au rm (aa (ao bY 0 (Zi 0)) (aa (bf 1) ak))) (cJ 2 (aG (SJ 0 (Zi 0)) (aG (aj 2) cN)))) (bA (aP 2))
def aX:List D->Option (D×D):=jF 3 mq
def zf:Ev:=iD 7 8 (iK (aa (Zi 5) ak)) (aj 7) (cP (aH j4 (aH G9 (ao G6 5 (bf 7)) (Zi 1)) (Zi 1))) (ao bY 2 (bf 7))
def zj:bW:=aC (aJ (dC aX 0 (aa (Zi 32) ak)) (aj 5)) (aC (aJ (au iu (aa (zf) ak)) (aj 6)) (gG 3 (bV (Zv 4 (aa (au dG (aa (uL (aP 6) kO (vo (Zi 4))) ak)) ak)))))
def mQ:bW:=aC (aJ (aH bY (cC (aa (Zw [97]) (aa (Zw [97,98]) (aa (Zw [97,98]) (aa (Zw [97,98,99]) (aa (Zw [97,101,112,116]) (aa (Zw [109,110,122]) ak))))))) (dC aX 0 (aa (Zi 6) ak))) (aj 1)) (aC (aJ (cC (aa (Zw [115,116,111,112]) (aa (Zw [115,116,111,112,115]) (aa (Zw [115]) (aa (Zw [111,112,101,110]) (aa (Zw [97,98,99,100,101,102,103,104]) ak)))))) (aj 2)) (aC (dq 3 (cC ak)) (aC (fY (ik (aP 1)) (aj 4) (zj)) (bA (au dG (aa (bf 3) ak))))))
def mL:List D->Option (D×D):=jF 7 mQ
def xO:Ev:=pO.qx
def ph:bW:=bA (aH nU (Zw []) (xO))
def lg:LD:=cQ 1 ph
def zg:Ev:=iD 4 5 (iK (aa (au gU (aa (bf 3) ak)) ak)) (aj 4) (cP (aH j4 (aH G9 (ao G6 2 (bf 4)) (Zi 1)) (Zi 1))) (ao bY 3 (bf 4))
def jZ:bW:=aC (cY (cP (aH j4 (dC aX 0 (aa (Zi 2) ak)) (Zi 0))) (bA (jg .non)) bN) (aC (aJ (aH cB (Zi 1) (dC aX 0 (aa (aH qz (aH Wf (Zi 2) (au gU (aa (bf 1) ak))) (Zi 1)) ak))) (aj 2)) (aC (aJ (aH cB (Zw [35]) (bf 1)) (aj 3)) (bA (au dG (aa (zg) ak)))))
def d9:List D->Option (D×D):=jF 4 jZ
def wk:Ev:=iD 6 7 (ik (aH cB (au qD (aa (bf 1) ak)) (cC (aa (Zw []) ak)))) (aj 6) (cP (ao qC 6 (bf 4))) (aP 6)
def wu:bW:=aC (aJ (ao bY 1 (dC aX 0 (aa (au gU (aa (bf 1) ak)) ak))) (aj 4)) (aC (dq 5 (wk)) (mX 2 (aP 4) (ao bY 5 (dC aX 0 (aa (au gU (aa (bf 5) ak)) ak)))))
def wj:Ev:=iD 6 7 (ik (au iu (aa (bf 2) ak))) (aj 6) fP (bV (Zv 6 (aa (ao jd 2 (bf 6)) ak)))
def jh:bW:=aC (cY (cP (aH j4 (dC aX 0 (aa (Zi 5) ak)) (Zi 0))) (bA (bV (aa (bV (aa (Zw []) (aa (ao bY 1 (dC aX 0 (aa (au gU (aa (bf 1) ak)) ak))) ak))) ak))) bN) (aC (dq 2 (zE)) (aC (fY (iK (aa (aH cB (Zi 1) (dC aX 0 (aa (Zi 3) ak))) ak)) (aj 3) (wu)) (bA (au dG (aa (wj) ak)))))
def je:List D->Option (D×D):=jF 6 jh
def pq:bW:=aC (aJ (aH bY (cC (aa (Zw [111,110,99,101]) (aa (Zw [97,108,111,110,103]) ak))) (dC aX 0 (aa (Zi 2) ak))) (aj 2)) (aC (aJ (dC je 0 (Zv 1 ak)) (aj 3)) (bA (bV (Zv 2 (Zv 3 (aa (dC d9 0 (Zv 1 ak)) (aa (dC d9 0 (Zv 1 ak)) ak)))))))
def iB:List D->Option (D×D):=jF 4 pq
def tL:bW:=pO.pB
def bQ:LD:=cQ 2 tL
def xP:bW:=aC (cY (fC (cP (au bQ (aa (ao bY 0 (Zi 2)) (aa (ao bY 2 (ao qz 4 (Zi 1))) ak)))) (cP (au bQ (aa (ao bY 0 (Zi 3)) (aa (ao bY 2 (bf 4)) ak))))) (aJ (ao cB 3 (aH bY (aH bY (ao bY 0 (Zi 1)) (Zi 0)) (Zi 1))) (aj 3)) bN) (aJ (ao cB 3 (ao bY 2 (bf 4))) (aj 3))
def lA:bW:=aC (aJ (aH cB (aH cB (Zw [35]) (bf 1)) (Zw [35])) (aj 2)) (aC (aJ (Zw []) (aj 3)) (aC (fY (iK (aa (Zi 1) (aa (au gU (aa (bf 2) ak)) ak))) (aj 4) (xP)) (bA (uK (aP 3) kO (vo (uJ Bc (Zi 1)))))))
def jA:LD:=cQ 5 lA
def wA:bW:=aC (aJ (ao bY 7 (ao qz 9 (Zi 1))) (aj 10)) (aC (cY (cP (ao j4 2 (Zw [97,108,111,110,103]))) (aJ (ao bY 8 (uJ Bc (Zi 1))) (aj 10)) bN) (cY (fC (cP (aH qF (ao bY 7 (bf 9)) (bf 6))) (fC (cP (au bQ (Zv 4 (Zv 10 ak)))) (cP (au bQ (Zv 5 (aa (ao bY 7 (ao cB 9 (Zi 1))) ak)))))) (aJ (ao cB 8 (ao jd 6 (ao bY 7 (bf 9)))) (aj 8)) (aJ (ao cB 8 (ao bY 7 (bf 9))) (aj 8))))
def ji:bW:=aC (aJ (aP 0) (cJ 4 (aG (aj 2) (aG (aj 3) (aG (aj 4) (aG (aj 5) cN)))))) (aC (cY (cP (aH j4 (aH bY (ao bY 3 (Zi 0)) (Zi 0)) (Zw []))) (bA (au jA (Zv 0 (Zv 1 ak)))) bN) (aC (aJ (au nW (aa (bf 3) ak)) (aj 6)) (aC (aJ (aH cB (aH cB (Zw [35]) (bf 1)) (Zw [35])) (aj 7)) (aC (aJ (Zw [35]) (aj 8)) (aC (fY (iK (aa (Zi 1) (aa (aH qz (au gU (aa (bf 7) ak)) (Zi 1)) ak))) (aj 9) (wA)) (bA (uK (aP 8) (vo (Zi 1)) kO)))))))
def ie:LD:=cQ 11 ji
def lz:bW:=bA (bV (aa (ao bY 0 (Zi 0)) (aa (ao bY 0 (Zi 1)) (aa (ao bY 0 (Zi 3)) (aa (ao bY 0 (Zi 2)) ak)))))
def gb:LD:=cQ 1 lz
def nq:bW:=aC (cY (cP (ao j4 0 (Zw [114,105,103,104,116]))) (bA (rJ (au ie (aa (au gb (Zv 1 ak)) (aa (rJ (aP 2)) ak))))) bN) (bA (au ie (Zv 1 (Zv 2 ak))))
def jf:LD:=cQ 3 nq
def m8:Ev:=iD 7 8 (ik (aH cB (au qD (aa (bf 1) ak)) (cC (aa (Zw []) ak)))) (aj 7) (cP (ao qC 7 (bf 3))) (aP 7)
def JZ:bW:=aC (aJ (aH bY (aH bY (ao bY 2 (Zi 1)) (dC aX 0 (aa (au gU (aa (ao bY 2 (Zi 1)) ak)) ak))) (Zi 0)) (aj 3)) (aC (cY (jX (cP (ao j4 3 (Zw []))) (cP (aH qC (dC aX 0 (aa (Zi 4) ak)) (Zi 1)))) (bA (dC iB 0 (Zv 1 ak))) bN) (aC (dq 4 (m8)) (aC (aJ (bV (Zv 3 (aa (ao bY 4 (dC aX 0 (aa (au gU (aa (bf 4) ak)) ak))) ak))) (aj 5)) (aC (aJ (aH bY (cC (aa (Zw [111,110,99,101]) (aa (Zw [97,108,111,110,103]) ak))) (dC aX 0 (aa (Zi 2) ak))) (aj 6)) (bA (bV (Zv 6 (aa (bV (Zv 5 ak)) (aa (dC d9 0 (Zv 1 ak)) (aa (dC d9 0 (Zv 1 ak)) ak))))))))))
def zA:List D->Option (D×D):=jF 7 JZ
def gZ:bW:=aC (aJ (jY (aP 3) (au bQ (aa (ao bY 0 (Zi 3)) (Zv 7 ak)))) (aj 8)) (aC (cY (cP (aH j4 (aH bY (aH bY (ao bY 0 (Zi 1)) (Zi 0)) (Zi 0)) (Zw []))) (aC (aJ (aH cB (ao cB 5 (bf 4)) (aH DP (aH bY (aH bY (ao bY 0 (Zi 1)) (Zi 0)) (Zi 1)) (au G8 (aa (bf 8) ak)))) (aj 5)) (aC (aJ (lq (aP 6) (aP 8)) (aj 6)) (aJ (au bQ (aa (ao bY 0 (Zi 2)) (Zv 7 ak))) (aj 3)))) (cY (cP (ao qC 4 (Zw []))) (aC (aJ (aP 4) (aj 9)) (aC (cY (cP (aP 8)) (aJ (wG (au nW (aa (ao bY 0 (Zi 1)) ak)) (aP 4) (aP 4)) (aj 9)) bN) (aC (aJ (lq (aP 6) (ao qC 9 (bf 4))) (aj 6)) (aC (aJ (ao cB 5 (bf 9)) (aj 5)) (cY (cP (aH j4 (ao bY 0 (Zi 0)) (Zw [111,110,99,101]))) (aJ (au bQ (aa (ao bY 0 (Zi 2)) (Zv 4 ak))) (aj 3)) (cY (cP (ao qC 9 (Zw []))) (aJ (au bQ (aa (ao bY 0 (Zi 2)) (Zv 9 ak))) (aj 3)) bN)))))) bN)) (aJ (aP 7) (aj 4)))
def zT:bW:=aC (aJ (aP 1) (cJ 2 (aG (aj 3) (aG (aj 4) cN)))) (aC (aJ (Zw []) (aj 5)) (aC (aJ (jg (.bl false)) (aj 6)) (aC (fY (ik (aP 2)) (aj 7) (gZ)) (bA (bV (aa (bV (Zv 3 (Zv 4 ak))) (Zv 5 (Zv 6 ak))))))))
def lY:LD:=cQ 10 zT
def uU:bW:=aC (aJ (au lY (aa (ao bY 0 (Zi 0)) (aa (ao bY 1 (Zi 0)) (Zv 2 ak)))) (cJ 3 (aG (aj 4) (aG (aj 5) (aG (aj 6) cN))))) (aC (aJ (au lY (aa (ao bY 0 (Zi 1)) (aa (ao bY 1 (Zi 1)) (aa (ao cB 5 (bf 3)) ak)))) (cJ 3 (aG (aj 7) (aG (aj 8) (aG (aj 6) cN))))) (aC (aJ (au lY (aa (ao bY 0 (Zi 1)) (aa (ao bY 1 (Zi 2)) (Zv 2 ak)))) (cJ 3 (aG (aj 9) (aG (aj 8) (aG (aj 10) cN))))) (bA (bV (Zv 4 (Zv 7 (Zv 9 (aa (lq (ao bY 1 (Zi 3)) (aP 6)) (aa (lq (ao bY 1 (Zi 4)) (aP 10)) ak)))))))))
def d7:LD:=cQ 11 uU
def pH:Ev:=iD 14 15 (ik (aP 5)) (aj 14) fP (bV (aa (au bQ (aa (ao bY 14 (Zi 2)) (aa (Zw [35]) ak))) (aa (Zw []) ak)))
def fW:bW:=aC (aJ (au d7 (Zv 5 (Zv 11 (Zv 12 (aa (Zw []) ak))))) (aj 13)) (cY (cP (ao qZ 13 (bf 7))) (aC (ou 7 (aP 13) (jg (.bl true))) (gG 10 (aP 13))) bN)
def fV:bW:=aC (cY (cP (aH j4 (xf (au d7 (Zv 5 (Zv 11 (aa (Zw [35]) (aa (Zw [35]) ak))))) (vo (Zi 3)) kO) (bf 4))) (bA (aP 9)) bN) (fY (ik (aP 3)) (aj 12) (fW))
def dg:bW:=aC (dq 10 (cC ak)) (aC (fY (ik (aP 8)) (aj 11) (fV)) (aC (aJ (aP 10) (aj 8)) (aJ (ao cB 9 (Zi 1)) (aj 9))))
def pA:bW:=aC (aJ (cC (Zv 1 (Zv 2 ak))) (aj 5)) (aC (cY (cP (ao j4 0 (Zw [114,105,103,104,116]))) (aJ (cC (aa (au gb (Zv 1 ak)) (aa (au gb (Zv 2 ak)) ak))) (aj 5)) bN) (aC (dq 6 (pH)) (aC (dq 7 (o5 (bV (aa (ao bY 6 (Zi 0)) (aa (ao bY 6 (Zi 1)) (aa (ao bY 6 (Zi 1)) (aa (jg (.bl false)) (aa (jg (.bl false)) ak)))))) (jg (.bl true)))) (aC (aJ (au wC (aa (bf 7) ak)) (aj 8)) (aC (aJ (Zi 0) (aj 9)) (aC (dU (cP (ao qC 8 (cC ak))) (dg) 7000) (bA (jg .non))))))))
def oY:LD:=cQ 14 pA
def zU:bW:=bA (aH qC (au jf (Zv 0 (Zv 1 (Zv 2 ak)))) (bf 2))
def jK:LD:=cQ 3 zU
def qN:bW:=aC (aJ (au jf (Zv 0 (Zv 1 (Zv 3 ak)))) (aj 4)) (bA (jY (au jK (Zv 0 (Zv 2 (Zv 3 ak)))) (zB (au jK (Zv 0 (Zv 2 (Zv 4 ak)))))))
def jB:LD:=cQ 5 qN
def uD:Ev:=iD 10 11 (ik (aP 7)) (aj 10) fP (ao gIn 10 (bf 3))
def Yb:bW:=aC (dq 1 (au oX (Zv 0 (aa (Zi 0) ak)))) (aC (aJ (dC mL 1 ak) (aj 2)) (aC (aJ (au lg (Zv 2 ak)) (aj 3)) (aC (aJ (aH bY (cC (aa (Zw [108,101,102,116]) (aa (Zw [114,105,103,104,116]) ak))) (dC aX 1 (aa (Zi 2) ak))) (aj 4)) (aC (aJ (dC iB 1 (Zv 3 ak)) (aj 5)) (aC (aJ (dC zA 1 (Zv 3 (Zv 5 ak))) (aj 6)) (aC (aJ (au fB (Zv 2 (Zv 4 (Zv 5 (Zv 6 ak))))) (aj 7)) (aC (aJ (au fB (Zv 2 (Zv 4 (Zv 6 (Zv 5 ak))))) (aj 8)) (aC (cY (jX (cP (aH qC (au fB (Zv 2 (Zv 4 (Zv 5 (Zv 6 ak))))) (bf 7))) (cP (aH qC (au fB (Zv 2 (Zv 4 (Zv 6 (Zv 5 ak))))) (bf 8)))) (bA (jg (.bl false))) bN) (aC (aJ (au oY (Zv 4 (Zv 5 (Zv 6 (Zv 3 (aa (bV (aa (jg (.bl false)) (aa (jg (.bl true)) ak))) ak)))))) (aj 9)) (aC (cY (cP (ao NP 7 (jg .non))) (bA (ao NP 9 (jg .non))) bN) (aC (cY (jX (qH (cP (uJ (JN "str") (aP 7)))) (qH (cP (au Hd (aa (uD) ak))))) (bA (jg (.bl false))) bN) (bA (jY (au jB (Zv 4 (Zv 5 (Zv 6 (Zv 7 ak))))) (aH j4 (au gU (aa (bf 7) ak)) (bf 9)))))))))))))))
def Lj:LD:=cQ 10 Yb
end
open PySem PySem.Spec PyProof.Rows L2 Ev
abbrev pY:Stmt:=top 2
abbrev lU:Stmt:=top 4
abbrev yM:Stmt:=top 8
abbrev j9:Stmt:=top 11
abbrev vO:Stmt:=top 9
abbrev IW:Stmt:=top 7
abbrev jx:Stmt:=top 13
abbrev kh:Stmt:=top 14
abbrev oE:Stmt:=top 15
abbrev rY:Stmt:=top 16
abbrev pX:Stmt:=top 17
abbrev j8:Stmt:=top 5
abbrev jH:Stmt:=top 12
abbrev jG:Stmt:=top 19
abbrev oA:Stmt:=top 20
abbrev p7:Stmt:=top 22
abbrev su:Stmt:=top 23
abbrev rZ:Stmt:=top 24
abbrev pZ:Stmt:=top 25
abbrev oG:Stmt:=top 26
abbrev p6:Stmt:=top 27
abbrev mZ:Stmt:=top 28
abbrev sr:Stmt:=top 29
abbrev sI:Stmt:=top 30
abbrev oJ:Stmt:=top 31
abbrev m5:Stmt:=top 32
abbrev oF:Stmt:=top 33
abbrev m6:Stmt:=top 34
abbrev sE:Stmt:=top 35
abbrev sG:Stmt:=top 36
abbrev oH:Stmt:=top 37
abbrev oK:Stmt:=top 38
abbrev sJ:Stmt:=top 39
abbrev lQ:Stmt:=top 40
abbrev PL:Stmt:=top 41
abbrev cX:List (Pos×Str):=[(wJ bw,"shortest_where.<locals>.lead"),(wJ bj,"shortest_where.<locals>.shows")]
def nR:∀q∈cX,q.1.line=(wJ bw).line->q.1.col=(wJ bw).col->q.2 = "shortest_where.<locals>.lead":=by decide +kernel
def m9:∀q∈cX,q.1.line=(wJ bj).line->q.1.col=(wJ bj).col->q.2 = "shortest_where.<locals>.shows":=by decide +kernel
def tabs:J5:=[("shortest_where",cX)]
def uQ:(("shortest_where" : Str),cX)∈tabs:=by unfold tabs;simp
def t7{K:Fg}:mW K tabs (ju K "shortest_where").2=some (.tab cX):=if_pos rfl
structure Top(K:Fg)(mg:Str->Option Value):Prop where
 aaJ:mg "all" = none
 Dy:mg "dict" = none
 Nm:mg "divmod" = none
 aaI:mg "int" = none
 Ax:mg "isinstance" = none
 lX:mg "len" = none
 Dw:mg "list" = none
 qm:mg "range" = none
 Bx:mg "sorted" = none
 aaH:mg "str" = none
 iY:mg "tuple" = none
 RB:mg "zip" = none
 uF:∀d:D,PySem.W.kitOne K (.type (Xe d)) (.type "str")=some (uG d "str")
 jU:Glb K mg "EDGE" (.str [35])
 Fi:dI K mg "sounds_of" pY ["stock"]
 yF:dI K mg "as_it_stands" lU ["side","read"]
 O9:dI K mg "turned" yM ["rule"]
 xB:dI K mg "reading_rules" j9 ["order"]
 Mq:dI K mg "puts_in" vO ["rule"]
 YL:dI K mg "fits" IW ["signs","sign"]
 ue:dI K mg "read_putting_in" jx Zq2
 xC:dI K mg "read_changing" kh Zq2
 Cy:dI K mg "read_signs" oE Zq7
 Ij:dI K mg "watch_on" rY Zq8
 Ff:dI K mg "watch_end" pX ["order","standing"]
 xA:dI K mg "shortest_word" j8 Zq9
 vD:dI K mg "first_standing" jH ["order"]
 vC:W4 K mg "shortest_where" jG ach (ju K "shortest_where").1
 Cw:dI K mg "takes_from" oA Zq4
 Fo:dI K mg "_law_mixed" p7 ["_law_cell"]
 Im:dI K mg "_law_pack" su ["_law_script","_law_k"]
 Ik:dI K mg "_law_take" rZ acg
 Fj:dI K mg "_law_stock" pZ ["_law_pack_here"]
 CG:dI K mg "_law_sounds" oG Zq5
 Fl:dI K mg "_law_signs" p6 WW
 Ae:dI K mg "_law_changes" mZ WW
 Il:dI K mg "_law_rule" sr WW
 Ir:dI K mg "_law_fits" sI Zq6
 CK:dI K mg "_law_put_in" oJ Zq3
 Af:dI K mg "_law_changed" m5 Zq3
 Cz:dI K mg "_law_turned" oF ["_law_rule_here"]
 Ag:dI K mg "_law_by_side" m6 Yi
 Io:dI K mg "_law_near" sE acf
 Ip:dI K mg "_law_goes" sG ace
 CJ:dI K mg "_law_row_on" oH acd
 CN:dI K mg "_law_fewest" oK acb
 Iu:dI K mg "_law_acts" sJ Yi
 yE:dI K mg "_law_is_taken" lQ aca
section
variable{P:Program}{w:World}{K:Fg}{mg:Str->Option Value}{base:Heap}(Z:Top K mg)(BB:∀y∈tabs,Bj base mg (ju K y.1).1 (ju K y.1).2)
def Dd:bI ["stock"] ["stock"] (aL pY):=iy
include Z in
def Gu:Own P w K mg base "sounds_of" 1 ["stock"] (j7 K 1 iz):=by exact cL (k:=0) Z.Fi Dd (λf cdv A outer s H E hr G=>(fK.u (aD (bu (iR G Z.iY (bJ (aV (eN (wW ["stock","sound","marks"] 1 lZ G (iQ G (bz 0)) (λX1 h1=>by have G:=G.at h1;obtain⟨_,_,_,_,_,rfl⟩:=h1;exact(eU G (aF (aR 1) (aF (aR 2) cA)))) (λX1 h1=>by have G:=G.at h1;obtain⟨_,_,_,_,_,rfl⟩:=h1;exact jJ) (λX1 h1=>by have G:=G.at h1;obtain⟨_,_,_,_,_,rfl⟩:=h1;exact(bz 1)))))))))))
def xF:bI ["side","read"] ["side","read"] (aL lU):=iy
include Z in
def za:Own P w K mg base "as_it_stands" 1 ["side","read"] (j7 K 2 gA):=by exact cL (k:=0) Z.yF xF (λf cdv A outer s H E hr G=>(fK.u (aD (bu (ZG (fj 0 (ni G) (aV (bD [114,105,103,104,116]))) (HS (bz 1)) (bz 1))))))
def Mx:bI ["rule","way","changes","left","right"] ["rule"] (aL yM):=iy
include Z in
def Rt:Own P w K mg base "turned" 1 ["rule"] (j7 K 1 jW):=by
 exact cL (k:=0) Z.O9 Mx (λf cdv A outer s H E hr G=>(fK.u (aq (dw (bz 0) (eU G (aF (aR 1) (aF (aR 2) (aF (aR 3) (aF (aR 4) cA))))))
   (aD (bu (cj (cH 1 (cH 2 (cH 4 (cH 3 az))))))))))
def vM:bI ["order","side","rules"] ["order"] (aL j9):=iy
include Z in
def kE:Own P w K mg base "reading_rules" 2 ["order"] (j7 K 1 di):=by
 exact cL (k:=1) Z.xB vM (λf cdv A outer s H E hr G=>(fK.u (aq (dw (bz 0) (eU G (aF (aR 1) (aF (aR 2) cA))))
   (aq (cO (fj 1 (ni G) (aV (bD [114,105,103,104,116]))) (aD (bu (iR G Z.iY (bJ (aV (eN (wW ["order","side","rules","rule"] 3 lZ G (iQ G (bz 2)) (λX1 h1=>by have G:=G.at h1;obtain⟨_,_,_,_,_,rfl⟩:=h1;exact(aR 3)) (λX1 h1=>by have G:=G.at h1;obtain⟨_,_,_,_,_,rfl⟩:=h1;exact jJ) (λX1 h1=>by have G:=G.at h1;obtain⟨_,_,_,_,_,rfl⟩:=h1;exact(bU (Rt Z) G hr (cH 3 az) (aY len0)))))))))) cu)
   (aD (bu (bz 2)))))))
def IV:bI ["rule"] ["rule"] (aL vO):=iy
include Z in
def Nk:Own P w K mg base "puts_in" 1 ["rule"] (j7 K 1 jm):=by exact cL (k:=0) Z.Mq IV (λf cdv A outer s H E hr G=>(fK.u (aD (bu (HW (ni G) (iU G (iU G (bM 0 G (aV aN)) (aV aN)) (aV aN)) (aV (bD [])))))))
def Ux:bI ["signs","sign"] ["signs","sign"] (aL IW):=iy
include Z in
def vY:Own P w K mg base "fits" 1 ["signs","sign"] (j7 K 2 fO):=by exact cL (k:=0) Z.YL Ux (λf cdv A outer s H E hr G=>(fK.u (aD (bu (lV (jQ 0 TJ (aV mG)) (gJ (jQ 1 (abZ G) (bZ 0))))))))
def rW:bI afq Zq2 (aL jx):=iy
include Z in
def uA:Own P w K mg base "read_putting_in" 2 Zq2 (j7 K 3 eG):=by
 exact cL (k:=1) Z.ue rW (λf cdv A outer s H E hr G=>(fK.u (aq (dw (bz 0) (eU G (aF (aR 3) (aF (aR 4) (aF (aR 5) (aF (aR 6) cA))))))
   (aq (dw (bz 1) (eU G (aF (aR 7) (aF (aR 8) cA))))
   (aq (bC 9 (bz 8))
   (aq (cO (mV (qe (fZ (bz 7)) (qW (fZ (bU (vY Z) G hr (cH 6 (cH 2 az)) (aY (aY len0))))))) (aD (bC 9 (fc 8 (gn G) (aV (iU G (bM 4 G (aV aN)) (aV aN)))))) cu)
   (aD (bu (cj (aA (cj (aA (bU (vY Z) G hr (cH 5 (cH 2 az)) (aY (aY len0))) (cH 2 az))) (cH 9 az)))))))))))
def vN:bI afq Zq2 (aL kh):=iy
include Z in
def xM:Own P w K mg base "read_changing" 2 Zq2 (j7 K 3 eV):=by
 exact cL (k:=1) Z.xC vN (λf cdv A outer s H E hr G=>(fK.u (aq (dw (bz 0) (eU G (aF (aR 3) (aF (aR 4) (aF (aR 5) (aF (aR 6) cA))))))
   (aq (dw (bz 1) (eU G (aF (aR 7) (aF (aR 8) cA))))
   (aq (cO (fj 8 (ni G) (aV (bD []))) (aD (bu (cj (aA (cj (cH 7 (cH 2 az))) (aA (bD []) az))))) cu)
   (aq (bC 9 (bz 8))
   (aq (cO (mV (qe (fZ (bz 7)) (qW (fZ (bU (vY Z) G hr (cH 6 (cH 2 az)) (aY (aY len0))))))) (aD (bC 9 (Ko G (Cu G Z.Dy (bJ (bZ 4))) (bz 8) (bz 8)))) cu)
   (aq (cO (fj 3 (ni G) (aV (bD [111,110,99,101]))) (aD (bu (cj (aA (cj (aA (bU (vY Z) G hr (cH 5 (cH 8 az)) (aY (aY len0))) (cH 2 az))) (cH 9 az))))) cu)
   (aq (cO (fj 9 (ni G) (aV (bD []))) (aD (bu (cj (aA (cj (cH 7 (cH 2 az))) (cH 9 az))))) cu)
   (aD (bu (cj (aA (cj (aA (bU (vY Z) G hr (cH 5 (cH 9 az)) (aY (aY len0))) (cH 2 az))) (cH 9 az))))))))))))))
def Aj:bI ["rule","standing","signs","puts","acting","sign","held","put"] Zq7 (aL oE):=iy
include Z in
def uz:Own P w K mg base "read_signs" 3 Zq7 (j7 K 3 gO):=by
 exact cL (k:=2) Z.Cy Aj (λf cdv A outer s H E hr G=>(fK.u (aq (kj 3 (dB az))
   (aq (bC 4 iM)
   (aq (km G (iQ G (bz 2)) (aR 5) (aq (bC 6 (bM 1 G (aV aN)))
   (aq (cO (fZ (bU (Nk Z) G hr (cH 0 az) (aY len0))) (aD (dw (bU (uA Z) G hr (cH 0 (cH 1 (cH 5 az))) (aY (aY (aY len0)))) (eU G (aF (aR 1) (aF (aR 7) cA))))) (aD (dw (bU (xM Z) G hr (cH 0 (cH 1 (cH 5 az))) (aY (aY (aY len0)))) (eU G (aF (aR 1) (aF (aR 7) cA))))))
   (aq (bC 4 (lV (bz 4) (gJ (jQ 7 (zN G) (bZ 6)))))
   (aD (p8 3 G (bz 7)))))))
   (aD (bu (cj (cH 1 (aA (Km G (bD []) (bZ 3)) (cH 4 az)))))))))))
def Fx:bI ["order","standing","sound","put","behind","acting","rule","own","new","acts_here"] Zq8 (aL rY):=iy
include Z in
def yV:Own P w K mg base "watch_on" 4 Zq8 (j7 K 3 gM):=by
 exact cL (k:=3) Z.Ij Fx (λf cdv A outer s H E hr G=>(fK.u (aq (bC 3 (bz 2))
   (aq (kj 4 (dB az))
   (aq (kj 5 (dB az))
   (aq (km G (Sv G Z.RB (aA (bU (kE Z) G hr (cH 0 az) (aY len0)) (cH 1 az))) (eU G (aF (aR 6) (aF (aR 7) cA))) (aq (dw (bU (uz Z) G hr (cH 6 (cH 7 (cH 3 az))) (aY (aY (aY len0)))) (eU G (aF (aR 8) (aF (aR 3) (aF (aR 9) cA)))))
   (aq (p8 4 G (bz 8))
   (aD (p8 5 G (bz 9))))))
   (aD (bu (cj (aA (iR G Z.iY (bJ (bZ 4))) (cH 3 (aA (iR G Z.iY (bJ (bZ 5))) az))))))))))))
def Dc:bI ["order","standing","put","acting","rule","own","new","acts_here"] ["order","standing"] (aL pX):=iy
include Z in
def wV:Own P w K mg base "watch_end" 4 ["order","standing"] (j7 K 2 f9):=by
 obtain⟨YC,YG,jU⟩:=Z.jU;exact cL (k:=3) Z.Ff Dc (λf cdv A outer s H E hr G=>(fK.u (aq (bC 2 (bD []))
   (aq (kj 3 (dB az))
   (aq (km G (Sv G Z.RB (aA (bU (kE Z) G hr (cH 0 az) (aY len0)) (cH 1 az))) (eU G (aF (aR 4) (aF (aR 5) cA))) (aq (dw (bU (uz Z) G hr (cH 4 (cH 5 (aA (fc 2 (gn G) (aV (Gj (.str [35]) rfl jU.1 jU.2.1 (λF=>jU.2.2 F)))) az))) (aY (aY (aY len0)))) (eU G (aF (aR 6) (aF (aR 2) (aF (aR 7) cA)))))
   (aD (p8 3 G (bz 7)))))
   (aD (bu (cj (cH 2 (aA (iR G Z.iY (bJ (bZ 3))) az))))))))))
def nG:lK ["row","sound","itself","both","standing","own","so_far","own_so_far","put","acting","own_acting"] ["row","sound"] (freeOf bw) (aL bw):=Ry
include Z in
def oR:vm P w K mg base 5 bw gQ:=by
 exact Tq (k:=4) nG (λus hl=>match us,hl with|[_,_],_=>rfl) (λq f cdv cl A outer s H E hr G=>(fK.u (aq (dw (bz 0) (eU G (aF (aR 4) (aF (aR 5) (aF (aR 6) (aF (aR 7) cA))))))
   (aq (dw (bU (yV Z) G hr (cH 3 (cH 4 (cH 1 az))) (aY (aY (aY len0)))) (eU G (aF (aR 4) (aF (aR 8) (aF (aR 9) cA)))))
   (aq (dw (bU (yV Z) G hr (cH 2 (cH 5 (cH 1 az))) (aY (aY (aY len0)))) (eU G (aF (aR 5) (aF (aR 8) (aF (aR 10) cA)))))
   (aD (bu (cj (cH 4 (cH 5 (aA (lV (bz 6) (gJ (bM 9 G (aV aN)))) (aA (lV (bz 7) (gJ (bM 10 G (aV aN)))) az))))))))))))
def mY:lK ["row","itself","both","behind","alone","standing","own","so_far","own_so_far","at_end","own_at_end"] ["row"] (freeOf bj) (aL bj):=Ry
include Z in
def nO:vm P w K mg base 5 bj gF:=by
 exact Tq (k:=4) mY (λus hl=>match us,hl with|[_],_=>rfl) (λq f cdv cl A outer s H E hr G=>(fK.u (aq (dw (bz 0) (eU G (aF (aR 5) (aF (aR 6) (aF (aR 7) (aF (aR 8) cA))))))
   (aq (bC 9 (lV (bz 7) (gJ (iU G (iU G (bU (wV Z) G hr (cH 2 (cH 5 az)) (aY (aY len0))) (aV aN)) (aV aN)))))
   (aq (bC 10 (lV (bz 8) (gJ (iU G (iU G (bU (wV Z) G hr (cH 1 (cH 6 az)) (aY (aY len0))) (aV aN)) (aV aN)))))
   (aD (bu (ye (jQ 9 (ni G) (bZ 3)) (gJ (jQ 10 (ni G) (bZ 4)))))))))))
include Z in
def Jm:∀st jE ds d,Ma st jE ds=some d->vm P w K mg base 5 st (Ma st):=by
 intro st jE ds d e;by_cases h0:st=bw
 ·have z:Ma st=gQ:=by unfold Ma;rw[if_pos h0]
  rw[z,h0];exact(oR Z).mono (by decide)
 ·
  by_cases h1:st=bj
  ·have z:Ma st=gF:=by unfold Ma;rw[if_neg h0,if_pos h1]
   rw[z,h1];exact(nO Z).mono (by decide)
  ·unfold Ma at e;rw[if_neg h0,if_neg h1] at e;cases e
def vL:bI ["stock","side","first","lead","shows","places","words","known","at","sound","place"] Zq9 (aL j8):=iy
include Z in
def xK:Own P w K mg base "shortest_word" 6 Zq9 (j7 K 5 pJ):=by
 exact cL (k:=5) Z.xA vL (λf cdv A outer s H E hr G=>(fK.u (aq (cO (fZ (HX 4 (Jm Z) G hr (by rfl) (cH 2 az))) (aD (bu (bD []))) cu)
   (aq (kj 5 (dB (cH 2 az)))
   (aq (kj 6 (dB (aA (bD []) az)))
   (aq (kj 7 (Bs G (bz 2) iM))
   (aq (bC 8 aN)
   (aq (FZ 7000 G (fj 8 ai2 (aV (lL G Z.lX (bJ (bZ 5))))) (aq (km G (iQ G (bU (Gu Z) G hr (cH 0 az) (aY len0))) (aR 9) (aq (bC 10 (HX 3 (Jm Z) G hr (by rfl) (aA (bM 5 G (bZ 8)) (cH 9 az))))
   (aq (cO (mV (yd (fj 10 TJ (aV mG)) (uw (fj 10 (afl G) (bZ 7))))) (aD Ar) cu)
   (aq (cO (fZ (HX 4 (Jm Z) G hr (by rfl) (cH 10 az))) (aD (bu (bU (za Z) G hr (cH 1 (aA (eO (gn G) (bM 6 G (bZ 8)) (bZ 9)) az)) (aY (aY len0))))) cu)
   (aq (Ga 7 G (bz 10) iM)
   (aq (p8 5 G (bz 10))
   (aD (p8 6 G (eO (gn G) (bM 6 G (bZ 8)) (bZ 9))))))))))
   (aD (Za 8 aN))))
   (aD (bu mG))))))))))
def ur:bI ["order"] ["order"] (aL jH):=iy
include Z in
def nM:Own P w K mg base "first_standing" 3 ["order"] (j7 K 1 cG):=by obtain⟨YC,YG,jU⟩:=Z.jU;exact cL (k:=2) Z.vD ur (λf cdv A outer s H E hr G=>(fK.u (aD (bu (iR G Z.iY (bJ (aV (eN (wW ["order","way","changes","left","right"] 1 lZ G (iQ G (bU (kE Z) G hr (cH 0 az) (aY len0))) (λX1 h1=>by have G:=G.at h1;obtain⟨_,_,_,_,_,rfl⟩:=h1;exact(eU G (aF (aR 1) (aF (aR 2) (aF (aR 3) (aF (aR 4) cA)))))) (λX1 h1=>by have G:=G.at h1;obtain⟨_,_,_,_,_,rfl⟩:=h1;exact jJ) (λX1 h1=>by have G:=G.at h1;obtain⟨_,_,_,_,_,rfl⟩:=h1;exact(cj (aA (bU (vY Z) G hr (cH 3 (aA (Gj (.str [35]) rfl jU.1 jU.2.1 (λF=>jU.2.2 F)) az)) (aY (aY len0))) (aA (bD []) az)))))))))))))
def uq:bI ["stock","side","rule","other","behind","alone","both","itself","lead","shows"] ach (aL jG):=iy
include Z BB in
def vX:Own P w K mg base "shortest_where" 7 ach (spT (mW K tabs) (j7 K 6 iI)):=by
 exact M9 (k:=6) Z.vC uq (λf A outer s H E hT hr G=>(fK.u (aq (bC 6 (cj (cH 1 (aA (cj (cH 2 (cH 3 az))) az))))
   (aq (bC 7 (cj (cH 1 (aA (cj (cH 3 az)) az))))
   (Wt (qs:=cX) (c0:=(ju K "shortest_where").1) (P:=(ju K "shortest_where").2) G (BB _ uQ) rfl (hT _ _ t7) (X4 rfl List.mem_cons_self nR) (X4 rfl (List.mem_cons_of_mem _ List.mem_cons_self) m9) (xK Z) hr (by rfl) (bz 0) (bz 1) (cj (aA (bU (nM Z) G hr (cH 6 az) (aY len0)) (aA (bU (nM Z) G hr (cH 7 az) (aY len0)) (aA iM (aA iM az))))))))))
def Ai:bI Zq4 Zq4 (aL oA):=iy
include Z BB in
def kZ:Own P w K mg base "takes_from" 8 Zq4 (spT (mW K tabs) (j7 K 4 fB)):=by exact M8 (k:=7) Z.Cw Ai (λf cdv A outer s H E hT hr G=>(fK.u (aD (bu (tW (vX Z BB) hT (lE K tabs) G hr (cH 0 (cH 1 (cH 2 (cH 3 (aA iM (aA iM az)))))) (aY (aY (aY (aY (aY (aY len0)))))))))))
def Dg:bI ["_law_cell"] ["_law_cell"] (aL p7):=iy
include Z in
def Gw:Own P w K mg base "_law_mixed" 1 ["_law_cell"] (j7 K 1 iC):=by exact cL (k:=0) Z.Fo Dg (λf cdv A outer s H E hr G=>(fK.u (aD (bu (eO afp (fc 0 TV (aV aN)) (aV (eO X8 aN (aV aN))))))))
def FJ:bI ["_law_script","_law_k","_law_found","_law_at"] ["_law_script","_law_k"] (aL su):=iy
include Z in
def Jp:Own P w K mg base "_law_pack" 2 ["_law_script","_law_k"] (Xi K 2 oX):=by
 exact VH (k:=1) Z.Im FJ (λf cdv A outer s H E hr G=>(fK.u (aq (bC 2 aN)
   (aq (km G (iQ G (eN (dB (aA (fc 1 (gn G) (aV aN)) (cH 1 az))))) (aR 3) (aD (bC 2 (eO (gn G) (fc 2 TV (aV (eO X8 aN (aV aN)))) (aV (bU (Gw Z) G hr (aA (iU G (eO (gn G) (Xb G (bz 0) (lF (bz 3)) (lF (fc 3 (gn G) (aV aN)))) (aV (eN (dB (aA (eO (gn G) (eO TV aN (bZ 3)) (aV aN)) az))))) (aV aN)) az) (aY len0)))))))
   (aD (Gh (dB (cH 2 az))))))))
def Fy:bI ["_law_pack_here","_law_size","_law_digit"] acg (aL rZ):=iy
include Z in
def du:Own P w K mg base "_law_take" 1 acg (vJ K 2 aX):=by
 exact vU (k:=0) Z.Ik Fy (λf cdv A outer s H E a hr G=>(fK.u (aq (dw (Mh G Z.Nm (Ji (bM 0 G (aV aN)) (bJ (bZ 1)))) (eU G (aF (aeV 0 aN) (aF (aR 2) cA))))
   (aD (bu (bz 2))))))
def De:bI ["_law_pack_here","_law_sounds_here","_law_known","_law_found","_law_sound","_law_number","_law_marks"] ["_law_pack_here"] (aL pZ):=iy
include Z in
def Gv:Own P w K mg base "_law_stock" 2 ["_law_pack_here"] (vJ K 1 mL):=by
 exact vU (k:=1) Z.Fj De (λf cdv A outer s H E a hr G=>(fK.u (aq (bC 1 (iU G (eN (V0 (lG (bD [97]) (lG (bD [97,98]) (lG (bD [97,98]) (lG (bD [97,98,99]) (lG (bD [97,101,112,116]) (lG (bD [109,110,122]) QG)))))))) (aV (il 0 (du Z) G hr (aA aN az) (ir (aY len0))))))
   (aq (bC 2 (eN (dB (aA (bD [115,116,111,112]) (aA (bD [115,116,111,112,115]) (aA (bD [115]) (aA (bD [111,112,101,110]) (aA (bD [97,98,99,100,101,102,103,104]) az))))))))
   (aq (kj 3 (dB az))
   (aq (km G (iQ G (bz 1)) (aR 4) (aq (bC 5 (il 0 (du Z) G hr (aA aN az) (ir (aY len0))))
   (aq (bC 6 (Bk G Z.Bx (bJ (aV (eN (wW ["_law_pack_here","_law_sounds_here","_law_known","_law_found","_law_sound","_law_number","_law_marks","_law_k"] 7 lZ G (DN Z.qm (aA aN az) (aY len0)) (λX1 h1=>by have G:=G.at h1;obtain⟨_,_,_,_,_,rfl⟩:=h1;exact(aR 7)) (λX1 h1=>by have G:=G.at h1;obtain⟨_,_,_,_,_,rfl⟩:=h1;exact(qY (j6 (ni G) (eO Yc (fc 5 X7 (bZ 7)) (aV aN)) (aV aN)))) (λX1 h1=>by have G:=G.at h1;obtain⟨_,_,_,_,_,rfl⟩:=h1;exact(bM 2 G (bZ 7)))))))))
   (aD (p8 3 G (cj (cH 4 (aA (iR G Z.iY (bJ (aV (Xb G (bz 6) qX (lF aN))))) az))))))))
   (aD (bu (iR G Z.iY (bJ (bZ 3)))))))))))
def Al:bI Zq5 Zq5 (aL oG):=iy
include Z in
def Dr:Own P w K mg base "_law_sounds" 1 Zq5 (j7 K 1 lg):=by exact cL (k:=0) Z.CG Al (λf cdv A outer s H E hr G=>(fK.u (aD (bu (Km G (bD []) (aV (eN (wW ["_law_stock_here","_law_sound","_law_marks"] 1 lZ G (iQ G (bz 0)) (λX1 h1=>by have G:=G.at h1;obtain⟨_,_,_,_,_,rfl⟩:=h1;exact(eU G (aF (aR 1) (aF (aR 2) cA)))) (λX1 h1=>by have G:=G.at h1;obtain⟨_,_,_,_,_,rfl⟩:=h1;exact jJ) (λX1 h1=>by have G:=G.at h1;obtain⟨_,_,_,_,_,rfl⟩:=h1;exact(bz 1))))))))))
def Df:bI ["_law_pack_here","_law_sounds_here","_law_number","_law_signs_here"] WW (aL p6):=iy
include Z in
def mJ:Own P w K mg base "_law_signs" 2 WW (vJ K 2 d9):=by
 exact vU (k:=1) Z.Fl Df (λf cdv A outer s H E a hr G=>(fK.u (aq (cO (j6 (ni G) (il 0 (du Z) G hr (aA aN az) (ir (aY len0))) (aV aN)) (aD (bu mG)) cu)
   (aq (bC 2 (eO (gn G) aN (aV (il 0 (du Z) G hr (aA (eO LC (eO afo aN (aV (lL G Z.lX (bJ (bZ 1))))) (aV aN)) az) (ir (aY len0))))))
   (aq (bC 3 (eO (gn G) (bD [35]) (bZ 1)))
   (aD (bu (iR G Z.iY (bJ (aV (eN (wW ["_law_pack_here","_law_sounds_here","_law_number","_law_signs_here","_law_k"] 4 lZ G (DN Z.qm (aA (lL G Z.lX (bJ (bZ 3))) az) (aY len0)) (λX1 h1=>by have G:=G.at h1;obtain⟨_,_,_,_,_,rfl⟩:=h1;exact(aR 4)) (λX1 h1=>by have G:=G.at h1;obtain⟨_,_,_,_,_,rfl⟩:=h1;exact(qY (j6 (ni G) (eO Yc (fc 2 X7 (bZ 4)) (aV aN)) (aV aN)))) (λX1 h1=>by have G:=G.at h1;obtain⟨_,_,_,_,_,rfl⟩:=h1;exact(bM 3 G (bZ 4)))))))))))))))
def yJ:bI ["_law_pack_here","_law_sounds_here","_law_found","_law_turn","_law_one","_law_others"] WW (aL mZ):=iy
include Z in
def Aw:Own P w K mg base "_law_changes" 2 WW (vJ K 2 je):=by
 exact vU (k:=1) Z.Ae yJ (λf cdv A outer s H E a hr G=>(fK.u (aq (cO (j6 (ni G) (il 0 (du Z) G hr (aA aN az) (ir (aY len0))) (aV aN)) (aD (bu (cj (aA (cj (aA (bD []) (aA (bM 1 G (aV (il 0 (du Z) G hr (aA (lL G Z.lX (bJ (bZ 1))) az) (ir (aY len0))))) az))) az)))) cu)
   (aq (kj 2 MK)
   (aq (km G (DN Z.qm (aA (eO (gn G) aN (aV (il 0 (du Z) G hr (aA aN az) (ir (aY len0))))) az) (aY len0)) (aR 3) (aq (bC 4 (bM 1 G (aV (il 0 (du Z) G hr (aA (lL G Z.lX (bJ (bZ 1))) az) (ir (aY len0))))))
   (aq (PK ["_law_pack_here","_law_sounds_here","_law_found","_law_turn","_law_one","_law_others","_law_sound"] 6 5 lZ G (iQ G (eO (gn G) (Kl G Z.Dw (bJ (bZ 1))) (aV (eN (dB (aA (bD []) az)))))) (λX1 h1=>by have G:=G.at h1;obtain⟨_,_,_,_,_,rfl⟩:=h1;exact(aR 6)) (λX1 h1=>by have G:=G.at h1;obtain⟨_,_,_,_,_,rfl⟩:=h1;exact(qY (fj 6 (zN G) (bZ 4)))) (λX1 h1=>by have G:=G.at h1;obtain⟨_,_,_,_,_,rfl⟩:=h1;exact(bz 6)))
   (aD (Uz 2 G (bz 4) (bM 5 G (aV (il 0 (du Z) G hr (aA (lL G Z.lX (bJ (bZ 5))) az) (ir (aY len0))))))))))
   (aD (bu (iR G Z.iY (bJ (aV (eN (wW ["_law_pack_here","_law_sounds_here","_law_found","_law_turn","%4","_law_others","_law_one"] 6 lZ G (iQ G (Bk G Z.Bx (bJ (bZ 2)))) (λX1 h1=>by have G:=G.at h1;obtain⟨_,_,_,_,_,rfl⟩:=h1;exact(aR 6)) (λX1 h1=>by have G:=G.at h1;obtain⟨_,_,_,_,_,rfl⟩:=h1;exact jJ) (λX1 h1=>by have G:=G.at h1;obtain⟨_,_,_,_,_,rfl⟩:=h1;exact(cj (cH 6 (aA (Ez 2 G (bZ 6)) az))))))))))))))))
def Fz:bI ["_law_pack_here","_law_sounds_here","_law_how","_law_changes_here"] WW (aL sr):=iy
include Z in
def yW:Own P w K mg base "_law_rule" 3 WW (vJ K 2 iB):=by
 exact vU (k:=2) Z.Il Fz (λf cdv A outer s H E a hr G=>(fK.u (aq (bC 2 (iU G (eN (dB (aA (bD [111,110,99,101]) (aA (bD [97,108,111,110,103]) az)))) (aV (il 0 (du Z) G hr (aA aN az) (ir (aY len0))))))
   (aq (bC 3 (il 0 (Aw Z) G hr (cH 1 az) (ir (aY len0))))
   (aD (bu (cj (cH 2 (cH 3 (aA (il 0 (mJ Z) G hr (cH 1 az) (ir (aY len0))) (aA (il 0 (mJ Z) G hr (cH 1 az) (ir (aY len0))) az)))))))))))
def FQ:bI Zq6 Zq6 (aL sI):=iy
include Z in
def gK:Own P w K mg base "_law_fits" 1 Zq6 (j7 K 2 bQ):=by exact cL (k:=0) Z.Ir FQ (λf cdv A outer s H E hr G=>(fK.u (aD (bu (lV (jQ 0 TJ (aV mG)) (gJ (jQ 1 (abZ G) (bZ 0))))))))
def An:bI ["_law_rule_here","_law_word","_law_signs_here","_law_found","_law_k"] Zq3 (aL oJ):=iy
include Z in
def Ds:Own P w K mg base "_law_put_in" 2 Zq3 (j7 K 2 jA):=by
 exact cL (k:=1) Z.CK An (λf cdv A outer s H E hr G=>(fK.u (aq (bC 2 (eO (gn G) (eO (gn G) (bD [35]) (bZ 1)) (aV (bD [35]))))
   (aq (bC 3 (bD []))
   (aq (km G (K9 Z.qm (aA aN (aA (lL G Z.lX (bJ (bZ 2))) az)) (aY (aY len0))) (aR 4) (aq (cO (mV (qe (fZ (bU (gK Z) G hr (aA (bM 0 G (aV aN)) (aA (bM 2 G (aV (fc 4 LC (aV aN)))) az)) (aY (aY len0)))) (qW (fZ (bU (gK Z) G hr (aA (bM 0 G (aV aN)) (aA (bM 2 G (bZ 4)) az)) (aY (aY len0))))))) (aD (bC 3 (fc 3 (gn G) (aV (iU G (iU G (bM 0 G (aV aN)) (aV aN)) (aV aN)))))) cu)
   (aD (bC 3 (fc 3 (gn G) (aV (bM 2 G (bZ 4))))))))
   (aD (bu (Oz (bz 3) qX (lF (OJ aN))))))))))
def yK:bI ["_law_rule_here","_law_word","_law_how","_law_changes_here","_law_first","_law_second","_law_known","_law_signs_here","_law_found","_law_k","_law_near_here"] Zq3 (aL m5):=iy
include Z in
def rF:Own P w K mg base "_law_changed" 3 Zq3 (j7 K 2 ie):=by
 exact cL (k:=2) Z.Af yK (λf cdv A outer s H E hr G=>(fK.u (aq (dw (bz 0) (eU G (aF (aR 2) (aF (aR 3) (aF (aR 4) (aF (aR 5) cA))))))
   (aq (cO (j6 (ni G) (iU G (bM 3 G (aV aN)) (aV aN)) (aV (bD []))) (aD (bu (bU (Ds Z) G hr (cH 0 (cH 1 az)) (aY (aY len0))))) cu)
   (aq (bC 6 (Cu G Z.Dy (bJ (bZ 3))))
   (aq (bC 7 (eO (gn G) (eO (gn G) (bD [35]) (bZ 1)) (aV (bD [35]))))
   (aq (bC 8 (bD [35]))
   (aq (km G (K9 Z.qm (aA aN (aA (eO LC (lL G Z.lX (bJ (bZ 7))) (aV aN)) az)) (aY (aY len0))) (aR 9) (aq (bC 10 (bM 7 G (aV (fc 9 LC (aV aN)))))
   (aq (cO (fj 2 (ni G) (aV (bD [97,108,111,110,103]))) (aD (bC 10 (bM 8 G (aV (OJ aN))))) cu)
   (aD (cO (mV (qe (j6 (WL G) (bM 7 G (bZ 9)) (bZ 6)) (qe (fZ (bU (gK Z) G hr (cH 4 (cH 10 az)) (aY (aY len0)))) (qW (fZ (bU (gK Z) G hr (cH 5 (aA (bM 7 G (aV (fc 9 (gn G) (aV aN)))) az)) (aY (aY len0)))))))) (aD (bC 8 (fc 8 (gn G) (aV (Ez 6 G (aV (bM 7 G (bZ 9)))))))) (aD (bC 8 (fc 8 (gn G) (aV (bM 7 G (bZ 9)))))))))))
   (aD (bu (Oz (bz 8) (lF aN) qX)))))))))))
def Ak:bI ["_law_rule_here"] ["_law_rule_here"] (aL oF):=iy
include Z in
def oO:Own P w K mg base "_law_turned" 1 ["_law_rule_here"] (j7 K 1 gb):=by exact cL (k:=0) Z.Cz Ak (λf cdv A outer s H E hr G=>(fK.u (aD (bu (cj (aA (bM 0 G (aV aN)) (aA (bM 0 G (aV aN)) (aA (bM 0 G (aV aN)) (aA (bM 0 G (aV aN)) az)))))))))
def yL:bI Yi Yi (aL m6):=iy
include Z in
def rG:Own P w K mg base "_law_by_side" 4 Yi (j7 K 3 jf):=by
 exact cL (k:=3) Z.Ag yL (λf cdv A outer s H E hr G=>(fK.u (aq (cO (fj 0 (ni G) (aV (bD [114,105,103,104,116]))) (aD (bu (HS (bU (rF Z) G hr (aA (bU (oO Z) G hr (cH 1 az) (aY len0)) (aA (HS (bz 2)) az)) (aY (aY len0)))))) cu)
   (aD (bu (bU (rF Z) G hr (cH 1 (cH 2 az)) (aY (aY len0))))))))
def FN:bI ["_law_pack_here","_law_sounds_here","_law_rule_here","_law_one","_law_others","_law_change","_law_how"] acf (aL sE):=iy
include Z in
def Jq:Own P w K mg base "_law_near" 4 acf (vJ K 3 zA):=by
 exact vU (k:=3) Z.Io FN (λf cdv A outer s H E a hr G=>(fK.u (aq (bC 3 (iU G (iU G (bM 2 G (aV aN)) (aV (il 0 (du Z) G hr (aA (lL G Z.lX (bJ (aV (bM 2 G (aV aN))))) az) (ir (aY len0))))) (aV aN)))
   (aq (cO (mV (yd (fj 3 (ni G) (aV (bD []))) (uw (j6 (zN G) (il 0 (du Z) G hr (aA aN az) (ir (aY len0))) (aV aN))))) (aD (bu (il 0 (yW Z) G hr (cH 1 az) (ir (aY len0))))) cu)
   (aq (PK ["_law_pack_here","_law_sounds_here","_law_rule_here","_law_one","_law_others","_law_change","_law_how","_law_sound"] 7 4 lZ G (iQ G (eO (gn G) (Kl G Z.Dw (bJ (bZ 1))) (aV (eN (dB (aA (bD []) az)))))) (λX1 h1=>by have G:=G.at h1;obtain⟨_,_,_,_,_,rfl⟩:=h1;exact(aR 7)) (λX1 h1=>by have G:=G.at h1;obtain⟨_,_,_,_,_,rfl⟩:=h1;exact(qY (fj 7 (zN G) (bZ 3)))) (λX1 h1=>by have G:=G.at h1;obtain⟨_,_,_,_,_,rfl⟩:=h1;exact(bz 7)))
   (aq (bC 5 (cj (cH 3 (aA (bM 4 G (aV (il 0 (du Z) G hr (aA (lL G Z.lX (bJ (bZ 4))) az) (ir (aY len0))))) az))))
   (aq (bC 6 (iU G (eN (dB (aA (bD [111,110,99,101]) (aA (bD [97,108,111,110,103]) az)))) (aV (il 0 (du Z) G hr (aA aN az) (ir (aY len0))))))
   (aD (bu (cj (cH 6 (aA (cj (cH 5 az)) (aA (il 0 (mJ Z) G hr (cH 1 az) (ir (aY len0))) (aA (il 0 (mJ Z) G hr (cH 1 az) (ir (aY len0))) az))))))))))))))
def FP:bI ["_law_rule_here","_law_standing","_law_signs_here","_law_near_here","_law_held","_law_put","_law_moved","_law_sign","_law_fit","_law_c"] ace (aL sG):=iy
include Z in
def sU:Own P w K mg base "_law_goes" 2 ace (j7 K 3 lY):=by
 exact cL (k:=1) Z.Ip FP (λf cdv A outer s H E hr G=>(fK.u (aq (dw (bz 1) (eU G (aF (aR 3) (aF (aR 4) cA))))
   (aq (bC 5 (bD []))
   (aq (bC 6 iM)
   (aq (km G (iQ G (bz 2)) (aR 7) (aq (bC 8 (ye (bz 3) (gJ (bU (gK Z) G hr (aA (bM 0 G (aV aN)) (cH 7 az)) (aY (aY len0))))))
   (aq (cO (j6 (ni G) (iU G (iU G (bM 0 G (aV aN)) (aV aN)) (aV aN)) (aV (bD []))) (aq (bC 5 (eO (gn G) (fc 5 (gn G) (bZ 4)) (aV (eO WN (iU G (iU G (bM 0 G (aV aN)) (aV aN)) (aV aN)) (aV (Ul G Z.aaI (bJ (bZ 8))))))))
   (aq (bC 6 (lV (bz 6) (gJ (bz 8))))
   (aD (bC 3 (bU (gK Z) G hr (aA (bM 0 G (aV aN)) (cH 7 az)) (aY (aY len0))))))) (aD (cO (fj 4 (zN G) (aV (bD []))) (aq (bC 9 (bz 4))
   (aq (cO (fZ (bz 8)) (aD (bC 9 (Ko G (Cu G Z.Dy (bJ (aV (bM 0 G (aV aN))))) (bz 4) (bz 4)))) cu)
   (aq (bC 6 (lV (bz 6) (gJ (jQ 9 (zN G) (bZ 4)))))
   (aq (bC 5 (fc 5 (gn G) (bZ 9)))
   (aD (cO (j6 (ni G) (bM 0 G (aV aN)) (aV (bD [111,110,99,101]))) (aD (bC 3 (bU (gK Z) G hr (aA (bM 0 G (aV aN)) (cH 4 az)) (aY (aY len0))))) (aD (cO (fj 9 (zN G) (aV (bD []))) (aD (bC 3 (bU (gK Z) G hr (aA (bM 0 G (aV aN)) (cH 9 az)) (aY (aY len0))))) cu)))))))) cu)))
   (aD (bC 4 (bz 7))))))
   (aD (bu (cj (aA (cj (cH 3 (cH 4 az))) (cH 5 (cH 6 az))))))))))))
def Am:bI ["_law_rules","_law_row","_law_sign","_law_end","_law_one","_law_put","_law_moved","_law_two","_law_out","_law_three","_law_alone"] acd (aL oH):=iy
include Z in
def uB:Own P w K mg base "_law_row_on" 3 acd (j7 K 4 d7):=by
 exact cL (k:=2) Z.CJ Am (λf cdv A outer s H E hr G=>(fK.u (aq (dw (bU (sU Z) G hr (aA (bM 0 G (aV aN)) (aA (bM 1 G (aV aN)) (cH 2 az))) (aY (aY (aY len0)))) (eU G (aF (aR 4) (aF (aR 5) (aF (aR 6) cA)))))
   (aq (dw (bU (sU Z) G hr (aA (bM 0 G (aV aN)) (aA (bM 1 G (aV aN)) (aA (fc 5 (gn G) (bZ 3)) az))) (aY (aY (aY len0)))) (eU G (aF (aR 7) (aF (aR 8) (aF (aR 6) cA)))))
   (aq (dw (bU (sU Z) G hr (aA (bM 0 G (aV aN)) (aA (bM 1 G (aV aN)) (cH 2 az))) (aY (aY (aY len0)))) (eU G (aF (aR 9) (aF (aR 8) (aF (aR 10) cA)))))
   (aD (bu (cj (cH 4 (cH 7 (cH 9 (aA (lV (bM 1 G (aV aN)) (gJ (bz 6))) (aA (lV (bM 1 G (aV aN)) (gJ (bz 10))) az)))))))))))))
def Ao:bI ["_law_side","_law_rule_here","_law_other","_law_sounds_here","_law_wished","_law_rules","_law_begun","_law_known","_law_level","_law_size","_law_further","_law_row","_law_sound","_law_there"] acb (aL oK):=iy
include Z in
def Dt:Own P w K mg base "_law_fewest" 4 acb (j7 K 5 oY):=by
 exact cL (k:=3) Z.CN Ao (λf cdv A outer s H E hr G=>(fK.u (aq (bC 5 (eN (dB (cH 1 (cH 2 az)))))
   (aq (cO (fj 0 (ni G) (aV (bD [114,105,103,104,116]))) (aD (bC 5 (eN (dB (aA (bU (oO Z) G hr (cH 1 az) (aY len0)) (aA (bU (oO Z) G hr (cH 2 az) (aY len0)) az)))))) cu)
   (aq (PK ["_law_side","_law_rule_here","_law_other","_law_sounds_here","_law_wished","_law_rules","_law_begun","_law_known","_law_level","_law_size","_law_further","_law_row","_law_sound","_law_there","_law_one"] 14 6 lZ G (iQ G (bz 5)) (λX1 h1=>by have G:=G.at h1;obtain⟨_,_,_,_,_,rfl⟩:=h1;exact(aR 14)) (λX1 h1=>by have G:=G.at h1;obtain⟨_,_,_,_,_,rfl⟩:=h1;exact jJ) (λX1 h1=>by have G:=G.at h1;obtain⟨_,_,_,_,_,rfl⟩:=h1;exact(cj (aA (bU (gK Z) G hr (aA (bM 14 G (aV aN)) (aA (bD [35]) az)) (aY (aY len0))) (aA (bD []) az)))))
   (aq (kj 7 (Bs G (cj (aA (bM 6 G (aV aN)) (aA (bM 6 G (aV aN)) (aA (bM 6 G (aV aN)) (aA iM (aA iM az)))))) iM))
   (aq (bC 8 (O1 G Z.Dw (bJ (bZ 7))))
   (aq (bC 9 aN)
   (aq (FZ 7000 G (fj 8 (zN G) (aV (eN (dB az)))) (aq (kj 10 (dB az))
   (aq (km G (iQ G (bz 8)) (aR 11) (aq (cO (j6 (ni G) (Yp G (bU (uB Z) G hr (cH 5 (cH 11 (aA (bD [35]) (aA (bD [35]) az)))) (aY (aY (aY (aY len0))))) (lF aN) qX) (bZ 4)) (aD (bu (bz 9))) cu)
   (aD (km G (iQ G (bz 3)) (aR 12) (aq (bC 13 (bU (uB Z) G hr (cH 5 (cH 11 (cH 12 (aA (bD []) az)))) (aY (aY (aY (aY len0))))))
   (aD (cO (fj 13 (TF G) (bZ 7)) (aq (Ga 7 G (bz 13) iM)
   (aD (p8 10 G (bz 13)))) cu)))))))
   (aq (bC 8 (bz 10))
   (aD (bC 9 (fc 9 (gn G) (aV aN))))))))
   (aD (bu mG)))))))))))
def FT:bI Yi Yi (aL sJ):=iy
include Z in
def yZ:Own P w K mg base "_law_acts" 5 Yi (j7 K 3 jK):=by exact cL (k:=4) Z.Iu FT (λf cdv A outer s H E hr G=>(fK.u (aD (bu (HW (zN G) (bU (rG Z) G hr (cH 0 (cH 1 (cH 2 az))) (aY (aY (aY len0)))) (bZ 2))))))
def xE:bI ["_law_side","_law_rule_here","_law_other","_law_word","_law_behind_it"] aca (aL lQ):=iy
include Z in
def yX:Own P w K mg base "_law_is_taken" 6 aca (j7 K 4 jB):=by
 exact cL (k:=5) Z.yE xE (λf cdv A outer s H E hr G=>(fK.u (aq (bC 4 (bU (rG Z) G hr (cH 0 (cH 1 (cH 3 az))) (aY (aY (aY len0)))))
   (aD (bu (ye (bU (yZ Z) G hr (cH 0 (cH 2 (cH 3 az))) (aY (aY (aY len0)))) (gJ (Vn (bU (yZ Z) G hr (cH 0 (cH 2 (cH 4 az))) (aY (aY (aY len0))))))))))))
def Y8:bI ["_law_script","_law_pack_here","_law_stock_here","_law_sounds_here","_law_side","_law_rule_here","_law_other","_law_found","_law_turned_about","_law_due"] ["_law_script"] (aL PL):=iy
include Z BB in
def abG{f:Addr}{fd:FuncData}(F:Oj K "law" "law" PL f fd):lC P w K mg base xx 9 f fd ["_law_script"] (spT (mW K tabs) (j7 K 1 Lj)):=by
 exact wI (k:=8) F Y8 (λcdv A outer s H E _ hT hr G=>(fK.u (aq (kj 1 (aaK (Jp Z) G hr (cH 0 (aA aN az)) (aY (aY len0))))
   (aq (bC 2 (il 1 (Gv Z) G hr az (ir len0)))
   (aq (bC 3 (bU (Dr Z) G hr (cH 2 az) (aY len0)))
   (aq (bC 4 (iU G (eN (dB (aA (bD [108,101,102,116]) (aA (bD [114,105,103,104,116]) az)))) (aV (il 1 (du Z) G hr (aA aN az) (ir (aY len0))))))
   (aq (bC 5 (il 1 (yW Z) G hr (cH 3 az) (ir (aY len0))))
   (aq (bC 6 (il 1 (Jq Z) G hr (cH 3 (cH 5 az)) (ir (aY (aY len0)))))
   (aq (bC 7 (tW (kZ Z BB) hT (lE K tabs) G hr (cH 2 (cH 4 (cH 5 (cH 6 az)))) (aY (aY (aY (aY len0))))))
   (aq (bC 8 (tW (kZ Z BB) hT (lE K tabs) G hr (cH 2 (cH 4 (cH 6 (cH 5 az)))) (aY (aY (aY (aY len0))))))
   (aq (cO (mV (yd (j6 (zN G) (tW (kZ Z BB) hT (lE K tabs) G hr (cH 2 (cH 4 (cH 5 (cH 6 az)))) (aY (aY (aY (aY len0))))) (bZ 7)) (uw (j6 (zN G) (tW (kZ Z BB) hT (lE K tabs) G hr (cH 2 (cH 4 (cH 6 (cH 5 az)))) (aY (aY (aY (aY len0))))) (bZ 8))))) (aD (bu iM)) cu)
   (aq (bC 9 (bU (Dt Z) G hr (cH 4 (cH 5 (cH 6 (cH 3 (aA (cj (aA iM (aA iM az))) az))))) (aY (aY (aY (aY (aY len0)))))))
   (aq (cO (fj 7 TJ (aV mG)) (aD (bu (jQ 9 TJ (aV mG)))) cu)
   (aq (cO (mV (yd (Gg (fZ (Vp (T:="str") rfl Z.Ax rfl Z.aaH (by decide +kernel) Z.uF G.K (bz 7)))) (uw (Gg (fZ (Yy G Z.aaJ (bJ (aV (eN (wW ["_law_script","_law_pack_here","_law_stock_here","_law_sounds_here","_law_side","_law_rule_here","_law_other","_law_found","_law_turned_about","_law_due","_law_sound"] 10 lZ G (iQ G (bz 7)) (λX1 h1=>by have G:=G.at h1;obtain⟨_,_,_,_,_,rfl⟩:=h1;exact(aR 10)) (λX1 h1=>by have G:=G.at h1;obtain⟨_,_,_,_,_,rfl⟩:=h1;exact jJ) (λX1 h1=>by have G:=G.at h1;obtain⟨_,_,_,_,_,rfl⟩:=h1;exact(jQ 10 (abZ G) (bZ 3))))))))))))) (aD (bu iM)) cu)
   (aD (bu (ye (bU (yX Z) G hr (cH 4 (cH 5 (cH 6 (cH 7 az)))) (aY (aY (aY (aY len0))))) (gJ (HW (ni G) (lL G Z.lX (bJ (bZ 7))) (bZ 9))))))))))))))))))))
end
end pO
namespace iG
open Ev
def qM:bW:=bA (au dG (aa (iD 1 3 (ik (aP 0)) (cJ 2 (aG (aj 1) (aG (aj 2) cN))) fP (aP 1)) ak))
def iz:LD:=cQ 1 qM
def mq:bW:=pO.mq
def aX:List D->Option (D×D):=jF 3 mq
def mQ:bW:=aC (aJ (aH bY (cC (aa (Zw [97]) (aa (Zw [97,98]) (aa (Zw [97,98]) (aa (Zw [97,98,99]) (aa (Zw [97,101,112,116]) (aa (Zw [109,110,122]) ak))))))) (dC aX 0 (aa (Zi 6) ak))) (aj 1)) (aC (aJ (cC (aa (Zw [115,116,111,112]) (aa (Zw [115,116,111,112,115]) (aa (Zw [115]) (aa (Zw [111,112,101,110]) (aa (Zw [97,98,99,100,101,102,103,104]) ak)))))) (aj 2)) (aC (dq 3 (cC ak)) (aC (fY (ik (aP 1)) (aj 4) (aC (aJ (dC aX 0 (aa (Zi 32) ak)) (aj 5)) (aC (aJ (au iu (aa (iD 7 8 (iK (aa (Zi 5) ak)) (aj 7) (cP (aH j4 (aH G9 (ao G6 5 (bf 7)) (Zi 1)) (Zi 1))) (ao bY 2 (bf 7))) ak)) (aj 6)) (gG 3 (bV (Zv 4 (aa (au dG (aa (uL (aP 6) kO (vo (Zi 4))) ak)) ak))))))) (bA (au dG (aa (bf 3) ak))))))
def mL:List D->Option (D×D):=jF 7 mQ
def ph:bW:=bA (aH nU (Zw []) (iD 1 3 (ik (aP 0)) (cJ 2 (aG (aj 1) (aG (aj 2) cN))) fP (aP 1)))
def lg:LD:=cQ 1 ph
def jZ:bW:=aC (cY (cP (aH j4 (dC aX 0 (aa (Zi 2) ak)) (Zi 0))) (bA (jg .non)) bN) (aC (aJ (aH cB (Zi 1) (dC aX 0 (aa (aH qz (aH Wf (Zi 2) (au gU (aa (bf 1) ak))) (Zi 1)) ak))) (aj 2)) (aC (aJ (aH cB (Zw [35]) (bf 1)) (aj 3)) (bA (au dG (aa (iD 4 5 (iK (aa (au gU (aa (bf 3) ak)) ak)) (aj 4) (cP (aH j4 (aH G9 (ao G6 2 (bf 4)) (Zi 1)) (Zi 1))) (ao bY 3 (bf 4))) ak)))))
def d9:List D->Option (D×D):=jF 4 jZ
def jh:bW:=aC (cY (cP (aH j4 (dC aX 0 (aa (Zi 5) ak)) (Zi 0))) (bA (bV (aa (bV (aa (Zw []) (aa (ao bY 1 (dC aX 0 (aa (au gU (aa (bf 1) ak)) ak))) ak))) ak))) bN) (aC (dq 2 (zE)) (aC (fY (iK (aa (aH cB (Zi 1) (dC aX 0 (aa (Zi 3) ak))) ak)) (aj 3) (aC (aJ (ao bY 1 (dC aX 0 (aa (au gU (aa (bf 1) ak)) ak))) (aj 4)) (aC (dq 5 (iD 6 7 (ik (aH cB (au qD (aa (bf 1) ak)) (cC (aa (Zw []) ak)))) (aj 6) (cP (ao qC 6 (bf 4))) (aP 6))) (mX 2 (aP 4) (ao bY 5 (dC aX 0 (aa (au gU (aa (bf 5) ak)) ak))))))) (bA (au dG (aa (iD 6 7 (ik (au iu (aa (bf 2) ak))) (aj 6) fP (bV (Zv 6 (aa (ao jd 2 (bf 6)) ak)))) ak)))))
def je:List D->Option (D×D):=jF 6 jh
def pq:bW:=aC (aJ (aH bY (cC (aa (Zw [111,110,99,101]) (aa (Zw [97,108,111,110,103]) ak))) (dC aX 0 (aa (Zi 2) ak))) (aj 2)) (aC (aJ (dC je 0 (Zv 1 ak)) (aj 3)) (bA (bV (Zv 2 (Zv 3 (aa (dC d9 0 (Zv 1 ak)) (aa (dC d9 0 (Zv 1 ak)) ak)))))))
def iB:List D->Option (D×D):=jF 4 pq
open Ev PySem L2
def rA{i:Int}{b:Nat}(h:i.natAbs<2^b):Builtin.Int.intBits i<=b:=by
 unfold Builtin.Int.intBits;split
 ·exact Nat.zero_le _
 ·rename_i h0;have hz:i.natAbs≠0:=λz=>h0 (by rw[Int.natAbs_eq_zero.mp z];rfl);exact(Nat.log2_lt hz).mpr h
def sV{i j:Int}{a b:Nat}(h1:Builtin.Int.intBits i<=a)(h2:Builtin.Int.intBits j<=b)(h:a+b<=134217728):jT i j=true:=
 decide_eq_true (by omega)
def Wu{α:Type}{xs:List α}{lo hi:Option Int}{x:α}(h:x∈cutD xs lo hi):x∈xs:=List.mem_of_mem_drop (List.mem_of_mem_take h)
def TX{α:Type}(x:α)(r:List α):pR (x::r) 0=some x:=iJ (j:=0) rfl
def known:D:=.lst [.str [115,116,111,112],.str [115,116,111,112,115],.str [115],.str [111,112,101,110],.str [97,98,99,100,101,102,103,104]]
def xY:bW:=aJ (au iu (aa (iD 7 8 (iK (aa (Zi 5) ak)) (aj 7) (cP (aH j4 (aH G9 (ao G6 5 (bf 7)) (Zi 1)) (Zi 1))) (ao bY 2 (bf 7))) ak)) (aj 6)
def mk(d:Nat):D:=match xY [Zn,Zn,Zf known,Zn,Zn,Zf (.int d),Zn] with
 | .nx e=>(match e[6]? with|some (some (_,z))=>z|_=>.non)
 | _=>.non
def AllB(P:Nat->Prop):Nat->Prop
 | 0=>True
 | n+1=>AllB P n/\P n
theorem tM{P:Nat->Prop}:∀{n:Nat},AllB P n->∀d,d<n->P d
 | 0,_,d,h=>absurd h (Nat.not_lt_zero d)
 | n+1,⟨a,b⟩,d,h=>by
  by_cases e:d=n
  ·subst e;exact b
  ·exact tM a d (by omega)
def marks(d:Nat)(hd:d<32)(a b c e f:OD):xY [a,b,Zf known,c,e,Zf (.int d),f] = .nx [a,b,Zf known,c,e,Zf (.int d),Zf (mk d)]:=by refine tM (P:=λd=>xY [a,b,Zf known,c,e,Zf (.int (d:Nat)),f] = .nx [a,b,Zf known,c,e,Zf (.int (d:Nat)),Zf (mk d)]) (n:=32) ?_ d hd;and_intros<;>first|exact True.intro|kernel_rfl
def aeE:D->Bool
 | .lst _=>true
 | _=>false
def aaM(d:Nat)(hd:d<32):∃zs,mk d = .lst zs:=by
 have h:((List.range 32).all λd=>aeE (mk d))=true:=by decide +kernel
 have h1:=List.all_eq_true.mp h d (List.mem_range.mpr hd);cases e:mk d with
 | lst zs=>exact⟨zs,rfl⟩
 | _=>rw[e] at h1;cases h1
inductive Rows:List D->List D->Prop where
 | nil:Rows [] []
 | cons {s m:D} {ss rs:List D}:Rows ss rs->Rows (s::ss) (.tup [s,m]::rs)
def Rows.snoc{ss rs:List D}(h:Rows ss rs)(s m:D):Rows (ss++[s]) (rs++[.tup [s,m]]):=by
 induction h with
 | nil=>exact .cons .nil
 | cons _ ih=>exact .cons ih
def Rows.len{ss rs:List D}(h:Rows ss rs):rs.length=ss.length:=by
 induction h with
 | nil=>rfl
 | cons _ ih=>rw[List.length_cons,List.length_cons,ih]
def cZ{i:Nat}{a:Ev}{env e:Ev.Env}{d:D}{xs x0:List D}(h0:env[i]? = some (Zl x0))(h1:a env = .ok d e)(h2:e[i]? = some (Zl xs))(hz:xs.length<sizeLine):gG i a env = .nx (e.set i (Zl (xs++[d]))):=by unfold gG;rw[h0];show dD (a env) _=_;rw[h1];show(match e[i]? with|some (some (true,.lst xs))=>if xs.length<sizeLine then Out.nx (e.set i (Zl (xs++[d]))) else .stuck|_=>.stuck)=_;rw[h2];show(if xs.length<sizeLine then _ else _)=_;rw[if_pos hz]
def vH:bW:=aC (aJ (dC aX 0 (aa (Zi 32) ak)) (aj 5)) (aC xY (gG 3 (bV (Zv 4 (aa (au dG (aa (uL (aP 6) kO (vo (Zi 4))) ak)) ak)))))
def Iv(n:Int)(b v5 v6:OD)(acc:List D)(s:D)(ha:acc.length<=10):∃m v5' v6',vH [Zl [.int n],b,Zf known,Zl acc,Zf s,v5,v6] = .nx [Zl [.int (n / 32)],b,Zf known,Zl (acc++[.tup [s,m]]),Zf s,v5',v6']:=by obtain⟨d,hd,e⟩:=dig n 32 (by decide);obtain⟨zs,hz⟩:=aaM d hd;refine⟨.tup (cutD zs none (some 4)),Zf (.int d),Zf (.lst zs),?_⟩;unfold vH;refine(aB (e:=[Zl [.int (n / 32)],b,Zf known,Zl acc,Zf s,Zf (.int (n % (32:Nat))),v6]) rfl).trans ?_;rw[e];refine(aB (marks d hd _ _ _ _ _)).trans ?_;rw[hz];exact cZ (x0:=acc) (xs:=acc) (e:=[Zl [.int (n / 32)],b,Zf known,Zl acc,Zf s,Zf (.int d),Zf (.lst zs)]) rfl rfl rfl (Nat.lt_of_le_of_lt ha (by decide))
def XS:List (List Nat):=[[97],[97,98],[97,98,99],[97,101,112,116],[109,110,122]]
def pC:∀x∈XS,x.length<=4:=by decide
def stock(n:Int):∃x rows n',x∈XS/\mL [.lst [.int n]]=some (.tup rows,.lst [.int n'])/\Rows (pP x) rows:=by
 obtain⟨d,hd,e⟩:=dig n 6 (by decide);obtain⟨x,hx,h1⟩:∃x,x∈XS/\∀m:Int,(λ(k:Int) (m:Int)=>dD (dX (bY (.lst [.str [97],.str [97,98],.str [97,98],.str [97,98,99],.str [97,101,112,116],.str [109,110,122]]) (.int k)) ([Zl [.int m],Zn,Zn,Zn,Zn,Zn,Zn]:Ev.Env)) λd aM=>BK (aj 1 d aM)) (d:Int) m = .nx [Zl [.int m],Zs x,Zn,Zn,Zn,Zn,Zn]:=by
  have hc:d=0\/d=1\/d=2\/d=3\/d=4\/d=5:=by omega
  rcases hc with rfl|rfl|rfl|rfl|rfl|rfl
  ·exact⟨[97],by decide,λm=>rfl⟩
  ·exact⟨[97,98],by decide,λm=>rfl⟩
  ·exact⟨[97,98],by decide,λm=>rfl⟩
  ·exact⟨[97,98,99],by decide,λm=>rfl⟩
  ·exact⟨[97,101,112,116],by decide,λm=>rfl⟩
  ·exact⟨[109,110,122],by decide,λm=>rfl⟩
 have hxl:x.length<=4:=pC x hx;obtain⟨e',f1,n',acc,v4,v5,v6,rfl,hr⟩:=lJ (g:=aj 4) (b:=vH) (pP x) (λdone env=>∃n acc v4 v5 v6,env=[Zl [.int n],Zs x,Zf known,Zl acc,v4,v5,v6]/\Rows done acc)
  (λdone s rest hall env ⟨n,acc,v4,v5,v6,he,hr⟩=>by
   subst he;have hd:done.length<=4:=by have:=congrArg List.length hall;unfold pP at this;rw[List.length_map,List.length_append,List.length_cons] at this;omega
   obtain⟨m,w5,w6,hb⟩:=Iv n (Zs x) v5 v6 acc s (by rw[hr.len];omega);exact⟨_,_,rfl,hb,n / 32,_,_,_,_,rfl,hr.snoc s m⟩)
  [Zl [.int (n / 6)],Zs x,Zf known,Zl [],Zn,Zn,Zn] ⟨_,[],_,_,_,rfl,.nil⟩
 refine⟨x,acc,n',hx,iW (env:=[Zl [.int n'],Zs x,Zf known,Zl acc,v4,v5,v6]) ?_ rfl,hr⟩;unfold mQ;refine(aB (e:=[Zl [.int (n / 6)],Zs x,Zn,Zn,Zn,Zn,Zn]) ?_).trans ?_
 ·have h2:=h1 (n / 6);rw[<-e] at h2;exact h2
 refine(aB (e:=[Zl [.int (n / 6)],Zs x,Zf known,Zn,Zn,Zn,Zn]) rfl).trans ?_;refine(aB (e:=[Zl [.int (n / 6)],Zs x,Zf known,Zl [],Zn,Zn,Zn]) rfl).trans ?_;refine(aB (e:=[Zl [.int n'],Zs x,Zf known,Zl acc,v4,v5,v6]) ?_).trans ?_
 ·exact(fX (ds:=pP x) rfl).trans f1
 ·rfl
def UT{ss rs:List D}(h:Rows ss rs):∀(a v1 v2:OD),∃w1 w2,Ac (cJ 2 (aG (aj 1) (aG (aj 2) cN))) fP (aP 1) rs [a,v1,v2] = .ok ss [a,w1,w2]:=by
 induction h with
 | nil=>exact λa v1 v2=>⟨v1,v2,rfl⟩
 | cons _ ih=>
  rename_i s m ss rs _;intro a v1 v2;obtain⟨w1,w2,e⟩:=ih a (Zf s) (Zf m);refine⟨w1,w2,?_⟩;unfold Ac;show bindR (Ac _ fP (aP 1) rs [a,Zf s,Zf m]) _=_;rw[e]
  rfl
def Bq{x:List Nat}{rs:List D}(hx:x∈XS)(h:Rows (pP x) rs):iD 1 3 (ik (aP 0)) (cJ 2 (aG (aj 1) (aG (aj 2) cN))) fP (aP 1) [Zf (.tup rs)] = .ok (.lst (pP x)) [Zf (.tup rs)]:=by obtain⟨w1,w2,e⟩:=UT h (Zf (.tup rs)) none none;exact uM (lo:=1) (n:=3) (ds:=rs) (ys:=pP x) (aM:=[Zf (.tup rs)]) (dH:=[Zf (.tup rs),w1,w2]) rfl rfl (by exact e) (by unfold pP;rw[List.length_map];exact Nat.le_trans (pC x hx) (by decide))
def sounds_of{x:List Nat}{rs:List D}(hx:x∈XS)(h:Rows (pP x) rs):iz [.tup rs]=some (.tup (pP x)):=
 cR (cD (aO (aK (Bq hx h) bK) rfl))
def join_eq:∀x∈XS,nU (.str []) (.lst (pP x))=some (.str x):=by intro x hx;unfold XS at hx;simp only[List.mem_cons,List.not_mem_nil,or_false] at hx;rcases hx with rfl|rfl|rfl|rfl|rfl<;>kernel_rfl
def Jz{x:List Nat}{rs:List D}(hx:x∈XS)(h:Rows (pP x) rs):lg [.tup rs]=some (.str x):=
 cR (cD (bL (x:=.str []) rfl (Bq hx h) (join_eq x hx)))
def isT:Option D->Bool
 | some (.bl true)=>true
 | _=>false
def Sq{o:Option D}(h:isT o=true):o=some (.bl true):=by
 cases o with
 | none=>cases h
 | some d=>cases d with
  | bl b=>cases b with
   | true=>rfl
   | false=>cases h
  | _=>cases h
def M(x:List Nat):Nat:=2*2^x.length - 1
def rT:bW:=aC (aJ (aH cB (Zw [35]) (bf 1)) (aj 3)) (bA (au dG (aa (iD 4 5 (iK (aa (au gU (aa (bf 3) ak)) ak)) (aj 4) (cP (aH j4 (aH G9 (ao G6 2 (bf 4)) (Zi 1)) (Zi 1))) (ao bY 3 (bf 4))) ak)))
def Xj(x:List Nat)(d:Nat):D:=match rT [Zn,Zs x,Zf (.int (1+(d:Int))),Zn] with
 | .rt _ r _=>r
 | _=>.non
def SG(x:List Nat):List D:=.non::(List.range (M x)).map (Xj x)
def Uw(a:OD):∀x∈XS,∀d,d<M x->∃e3,rT [a,Zs x,Zf (.int (1+(d:Int))),Zn] = .rt false (Xj x d) [a,Zs x,Zf (.int (1+(d:Int))),e3]:=by
 intro x hx d hd;refine⟨Zs (35::x),?_⟩;unfold XS at hx;simp only[List.mem_cons,List.not_mem_nil,or_false] at hx;rcases hx with rfl|rfl|rfl|rfl|rfl
 ·refine tM (P:=λd=>rT [a,Zs [97],Zf (.int (1+((d:Nat):Int))),Zn] = .rt false (Xj [97] d) [a,Zs [97],Zf (.int (1+((d:Nat):Int))),Zs (35::[97])]) (n:=3) ?_ d hd;and_intros<;>first|exact True.intro|kernel_rfl
 ·refine tM (P:=λd=>rT [a,Zs [97,98],Zf (.int (1+((d:Nat):Int))),Zn] = .rt false (Xj [97,98] d) [a,Zs [97,98],Zf (.int (1+((d:Nat):Int))),Zs (35::[97,98])]) (n:=7) ?_ d hd;and_intros<;>first|exact True.intro|kernel_rfl
 ·refine tM (P:=λd=>rT [a,Zs [97,98,99],Zf (.int (1+((d:Nat):Int))),Zn] = .rt false (Xj [97,98,99] d) [a,Zs [97,98,99],Zf (.int (1+((d:Nat):Int))),Zs (35::[97,98,99])]) (n:=15) ?_ d hd;and_intros<;>first|exact True.intro|kernel_rfl
 ·refine tM (P:=λd=>rT [a,Zs [97,101,112,116],Zf (.int (1+((d:Nat):Int))),Zn] = .rt false (Xj [97,101,112,116] d) [a,Zs [97,101,112,116],Zf (.int (1+((d:Nat):Int))),Zs (35::[97,101,112,116])]) (n:=31) ?_ d hd;and_intros<;>first|exact True.intro|kernel_rfl
 ·refine tM (P:=λd=>rT [a,Zs [109,110,122],Zf (.int (1+((d:Nat):Int))),Zn] = .rt false (Xj [109,110,122] d) [a,Zs [109,110,122],Zf (.int (1+((d:Nat):Int))),Zs (35::[109,110,122])]) (n:=15) ?_ d hd;and_intros<;>first|exact True.intro|kernel_rfl
def signs(n:Int)(x:List Nat)(hx:x∈XS):∃r n',d9 [.lst [.int n],.str x]=some (r,.lst [.int n'])/\r∈SG x:=by
 obtain⟨d,hd,e⟩:=dig n 2 (by decide);have t:cP (aH j4 (dC aX 0 (aa (Zi 2) ak)) (Zi 0)) [Zl [.int n],Zs x,Zn,Zn] = .ok ((d:Int) == 0) [Zl [.int (n / 2)],Zs x,Zn,Zn]:=by
  rw[<-e]
  rfl
 have hc:d=0\/d=1:=by omega
 rcases hc with rfl|rfl
 ·refine⟨.non,n / 2,iW (env:=[Zl [.int (n / 2)],Zs x,Zn,Zn]) ?_ rfl,List.mem_cons_self ..⟩;unfold jZ;refine(eY (e:=[Zl [.int (n / 2)],Zs x,Zn,Zn]) ?_).trans rfl;exact(eQ (e:=[Zl [.int (n / 2)],Zs x,Zn,Zn]) t).trans rfl
 ·obtain⟨k,hk,ek⟩:=dig (n / 2) (M x) (by unfold M;have:0<2^x.length:=Nat.two_pow_pos _;omega);obtain⟨e3,h3⟩:=Uw (Zl [.int (n / 2 / (M x:Int))]) x hx k hk;refine⟨Xj x k,n / 2 / (M x:Int),iW (env:=[Zl [.int (n / 2 / (M x:Int))],Zs x,Zf (.int (1+(k:Int))),e3]) ?_ rfl,List.mem_cons_of_mem _ (List.mem_map.mpr ⟨k,List.mem_range.mpr hk,rfl⟩)⟩;unfold jZ;refine(aB (e:=[Zl [.int (n / 2)],Zs x,Zn,Zn]) ?_).trans ?_
  ·exact(dW (e:=[Zl [.int (n / 2)],Zs x,Zn,Zn]) t).trans rfl
  ·refine(aB (e:=[Zl [.int (n / 2 / (M x:Int))],Zs x,Zf (.int (1+n / 2 % (M x:Int))),Zn]) ?_).trans ?_
   ·unfold XS at hx;simp only[List.mem_cons,List.not_mem_nil,or_false] at hx;rcases hx with rfl|rfl|rfl|rfl|rfl<;>rfl
   ·rw[ek];exact h3
def oth(x:List Nat)(c:Nat):List D:=((x.map (λa=>[a])++[[]]).filter λz=>z != [c]).map .str
def PV(x:List Nat):List (Nat×D):=x.flatMap λc=>(oth x c).map λv=>(c,v)
def one:bW:=aJ (ao bY 1 (dC aX 0 (aa (au gU (aa (bf 1) ak)) ak))) (aj 4)
def others:bW:=dq 5 (iD 6 7 (ik (aH cB (au qD (aa (bf 1) ak)) (cC (aa (Zw []) ak)))) (aj 6) (cP (ao qC 6 (bf 4))) (aP 6))
def Gk:bW:=mX 2 (aP 4) (ao bY 5 (dC aX 0 (aa (au gU (aa (bf 5) ak)) ak)))
def vV(a b v3 v5:OD):∀x∈XS,∀c∈x,others [a,Zs x,b,v3,Zs [c],v5] = .nx [a,Zs x,b,v3,Zs [c],Zl (oth x c)]:=by
 intro x hx c hc;unfold XS at hx;simp only[List.mem_cons,List.not_mem_nil,or_false] at hx;rcases hx with rfl|rfl|rfl|rfl|rfl<;>simp only[List.mem_cons,List.not_mem_nil,or_false] at hc
 ·subst hc;kernel_rfl
 ·rcases hc with rfl|rfl<;>kernel_rfl
 ·rcases hc with rfl|rfl|rfl<;>kernel_rfl
 ·rcases hc with rfl|rfl|rfl|rfl<;>kernel_rfl
 ·rcases hc with rfl|rfl|rfl<;>kernel_rfl
def Dq:∀x∈XS,∀c∈x,(oth x c).length=x.length:=by decide +kernel
def z9:∀x∈XS,0<x.length:=by decide
def jt(n:Int)(m:Nat)(h0:0<m)(h1:m<1073741824):aX [.lst [.int n],.int (m:Int)]=some (.int (n % m),.lst [.int (n / m)]):=by
 refine iW (env:=[Zl [.int (n / m)],Zf (.int m),Zf (.int (n % m))]) ?_ rfl;unfold mq;have g:rm [.int n,.int (m:Int)]=some (.tup [.int (n / m),.int (n % m)]):=by show(if 0<(m:Int)/\(m:Int)<1073741824 then _ else _)=_;rw[if_pos (by omega)]
 refine(aB (e:=[Zl [.int (n / m)],Zf (.int m),Zf (.int (n % m))]) ?_).trans rfl;exact bh (aO (ds:=[.int n,.int (m:Int)]) (e:=[Zl [.int n],Zf (.int m),Zn]) (by rfl) g) (by rfl)
def Ms{i:Nat}{k a:Ev}{env e1 e2:Ev.Env}{d kd x0:D}{o:Bool}{q:Key}{kvs:List (D×D)}(h1:a env = .ok d e1)(h2:e1[i]? = some (some (o,x0)))(h3:k e1 = .ok kd e2)(h4:e2[i]? = some (Zt (.dct kvs)))(h5:nQ kd=some q)(hz:kvs.length<sizeLine) :
  mX i k a env = .nx (e2.set i (Zt (.dct (putD kvs kd q d)))):=by
 unfold mX;rw[h1];simp only[dD];rw[h2];simp only;rw[h3];simp only;rw[h4,h5];simp only;rw[if_pos hz]
def QW(kvs:List (D×D))(p:Nat×D):List (D×D):=putD kvs (.str [p.1]) (.inr (strOf [p.1])) p.2
def round(n:Int)(x:List Nat)(hx:x∈XS)(kvs:List (D×D))(hk:kvs.length<=10)(v3 v4 v5:OD):∃p n' v4' v5',p∈PV x/\aC one (aC others Gk) [Zl [.int n],Zs x,Zt (.dct kvs),v3,v4,v5] = .nx [Zl [.int n'],Zs x,Zt (.dct (QW kvs p)),v3,v4',v5']:=by
 have hp:=z9 x hx;have hl4:=pC x hx;obtain⟨d,hd,e⟩:=dig n x.length hp;have hc:x[d]∈x:=List.getElem_mem hd;have hol:=Dq x hx x[d] hc;obtain⟨d',hd',e'⟩:=dig (n / (x.length:Int)) x.length hp;have hv:d'<(oth x x[d]).length:=by rw[hol];exact hd'
 refine⟨(x[d],(oth x x[d])[d']),n / (x.length:Int) / (x.length:Int),Zs [x[d]],Zl (oth x x[d]),?_,?_⟩
 ·unfold PV;exact List.mem_flatMap.mpr ⟨x[d],hc,List.mem_map.mpr ⟨_,List.getElem_mem hv,rfl⟩⟩
 ·refine(aB (e:=[Zl [.int (n / (x.length:Int))],Zs x,Zt (.dct kvs),v3,Zs [x[d]],v5]) ?_).trans ?_
  ·unfold one;refine bh (d:=.str [x[d]]) (e:=[Zl [.int (n / (x.length:Int))],Zs x,Zt (.dct kvs),v3,v4,v5]) ?_ (by rfl);refine bF (o:=false) (o':=false) (x:=.str x) (x0:=.str x) (y:=.int (n % (x.length:Int))) (by rfl) ?_ (by rfl) ?_
   ·exact gf (x:=.lst [.int n]) (x0:=.lst [.int n]) (ds:=[.int (x.length:Int)]) (e1:=[Zl [.int n],Zs x,Zt (.dct kvs),v3,v4,v5]) (by rfl) (by rfl) (by rfl) (jt n x.length hp (by omega))
   ·show(pR x (n % (x.length:Int))).map _=_;rw[e,Ek hd]
    rfl
  ·refine(aB (vV _ _ _ _ x hx x[d] hc)).trans ?_;unfold Gk;refine(Ms (d:=(oth x x[d])[d']) (kd:=.str [x[d]]) (o:=true) (x0:=.dct kvs) (kvs:=kvs) (q:=.inr (strOf [x[d]])) (e1:=[Zl [.int (n / (x.length:Int) / (x.length:Int))],Zs x,Zt (.dct kvs),v3,Zs [x[d]],Zl (oth x x[d])])
    (e2:=[Zl [.int (n / (x.length:Int) / (x.length:Int))],Zs x,Zt (.dct kvs),v3,Zs [x[d]],Zl (oth x x[d])]) ?_ (by rfl) (by rfl) (by rfl) (by rfl) (Nat.lt_of_le_of_lt hk (by decide))).trans rfl
   refine bF (o:=true) (o':=true) (x:=.lst (oth x x[d])) (x0:=.lst (oth x x[d])) (y:=.int (n / (x.length:Int) % (x.length:Int))) (by rfl) ?_ (by rfl) ?_
   ·refine gf (x:=.lst [.int (n / (x.length:Int))]) (x0:=.lst [.int (n / (x.length:Int))]) (ds:=[.int (x.length:Int)]) (e1:=[Zl [.int (n / (x.length:Int))],Zs x,Zt (.dct kvs),v3,Zs [x[d]],Zl (oth x x[d])]) (by rfl) ?_ (by rfl) (jt _ x.length hp (by omega));refine aK (d:=.int (x.length:Int)) ?_ bK;refine aO (ds:=[.lst (oth x x[d])]) (by rfl) ?_;show some (D.int ((oth x x[d]).length:Int))=_;rw[hol]
   ·show pR (oth x x[d]) (n / (x.length:Int) % (x.length:Int))=_;rw[e',Ek hv]
def N8(kvs:List (D×D)):Option D:=match iu [.dct kvs] with
 | some (.lst ks)=>if (ks.all λk=>(jd (.dct kvs) k).isSome) then some (.tup (ks.map λk=>.tup [k,(jd (.dct kvs) k).getD .non])) else none
 | _=>none
def abW:bW:=bA (au dG (aa (iD 6 7 (ik (au iu (aa (bf 2) ak))) (aj 6) fP (bV (Zv 6 (aa (ao jd 2 (bf 6)) ak)))) ak))
def G5{kvs:List (D×D)}{ks:List D}(h:iu [.dct kvs]=some (.lst ks)):ks.length<=64:=by
 obtain⟨zs,h1,h2⟩:=Option.bind_eq_some_iff.mp h;split at h2
 ·rename_i hz;cases h2;rw[List.length_map,(iw zs).length_eq];omega
 ·cases h2
def Ea{kvs:List (D×D)}{ch:D}(h:N8 kvs=some ch)(a b v3 v4 v5:OD):abW [a,b,Zt (.dct kvs),v3,v4,v5] = .rt false ch [a,b,Zt (.dct kvs),v3,v4,v5]:=by
 unfold N8 at h;split at h
 ·rename_i ks hs;split at h
  ·rename_i hall;cases h;obtain⟨env',h1,v6,rfl⟩:=yh (g:=aj 6) (e:=bV (Zv 6 (aa (ao jd 2 (bf 6)) ak))) (λenv=>∃v6,env=[a,b,Zt (.dct kvs),v3,v4,v5,v6]) (λk=>.tup [k,(jd (.dct kvs) k).getD .non]) ks [a,b,Zt (.dct kvs),v3,v4,v5,Zn] ⟨none,rfl⟩
    (λk hk env ⟨v6,he⟩=>by
     subst he;obtain⟨v,hv⟩:=Option.isSome_iff_exists.mp (List.all_eq_true.mp hall k hk);refine⟨_,[a,b,Zt (.dct kvs),v3,v4,v5,Zf k],rfl,?_,Zf k,rfl⟩;rw[hv];exact dO (ds:=[k,v]) (aK (d:=k) (e1:=[a,b,Zt (.dct kvs),v3,v4,v5,Zf k]) (by rfl) (aK (d:=v) (bF (o:=true) (o':=true) (x:=.dct kvs) (x0:=.dct kvs) (y:=k) (by rfl) (by rfl) (by rfl) hv) bK)) (by show 2<=sizeLine;decide))
   refine cD (aO (ds:=[.lst (ks.map λk=>.tup [k,(jd (.dct kvs) k).getD .non])]) (aK (e1:=[a,b,Zt (.dct kvs),v3,v4,v5]) ?_ bK) rfl);refine uM (lo:=6) (n:=7) (ds:=ks) (aM:=[a,b,Zt (.dct kvs),v3,v4,v5]) (dH:=[a,b,Zt (.dct kvs),v3,v4,v5,v6]) ?_ (by rfl) h1 ?_
   ·exact DR (d:=.lst ks) (aO (ds:=[.dct kvs]) (by rfl) hs) rfl
   ·rw[List.length_map];exact Nat.le_trans (G5 hs) (by decide)
  ·cases h
 ·cases h
structure Eu(x:List Nat)(kvs:List (D×D))(zs:List Nat):Prop where
 keys:kvs.map (·.1)=zs.map λc=>D.str [c]
 nd:zs.Nodup
 mem:∀c∈zs,c∈x
 vals:∀k v,(k,v)∈kvs->∃c,k = .str [c]/\(c,v)∈PV x
def qR{a b:List Nat}(h:strOf a=strOf b):a=b:=by
 have:=congrArg (λs:Str=>s.cps.toList) h
 simpa[strOf] using this
theorem vK(q:Key)(d:D):∀kvs:List (D×D),(xD kvs q d).map (·.1)=kvs.map (·.1)
 | []=>rfl
 | (k,e)::r=>by
  unfold xD;rw[List.map_cons,List.map_cons,vK q d r];split<;>rfl
theorem yI{q:Key}{d:D}:∀{kvs:List (D×D)} {k v:D},(k,v)∈xD kvs q d->(k,v)∈kvs\/(nQ k=some q/\v=d)
 | [],_,_,h=>by simp[xD] at h
 | (k',e)::r,k,v,h=>by
  unfold xD at h;rcases List.mem_cons.mp h with h|h
  ·split at h
   ·rename_i hk;cases h;exact .inr ⟨hk,rfl⟩
   ·cases h;exact .inl (List.mem_cons_self ..)
  ·rcases yI h with h|h
   ·exact .inl (List.mem_cons_of_mem _ h)
   ·exact .inr h
theorem vz{q:Key}:∀{kvs:List (D×D)},lM kvs q=none->∀k v,(k,v)∈kvs->nQ k≠some q
 | [],_,k,v,hm=>by simp at hm
 | (k',e)::r,h,k,v,hm=>by
  unfold lM at h;split at h
  ·cases h
  ·rename_i hk;rcases List.mem_cons.mp hm with hm|hm
   ·cases hm;exact hk
   ·exact vz h k v hm
theorem lD{q:Key}{d:D}:∀{kvs:List (D×D)},lM kvs q=some d->∃k,(k,d)∈kvs/\nQ k=some q
 | [],h=>by simp[lM] at h
 | (k',e)::r,h=>by
  unfold lM at h;split at h
  ·rename_i hk;cases h;exact⟨k',List.mem_cons_self ..,hk⟩
  ·obtain⟨k,h1,h2⟩:=lD h;exact⟨k,List.mem_cons_of_mem _ h1,h2⟩
def Eu.put{x:List Nat}{kvs:List (D×D)}{zs:List Nat}(h:Eu x kvs zs){p:Nat×D}(hp:p∈PV x)(hx:p.1∈x):∃zs',Eu x (QW kvs p) zs'/\0<zs'.length/\zs'.length<=zs.length+1:=by
 unfold QW putD;cases e:lM kvs (.inr (strOf [p.1])) with
 | none=>
  simp only[Option.isSome_none,Bool.false_eq_true,if_false];refine⟨zs++[p.1],⟨?_,?_,λc hc=>?_,λk v hm=>?_⟩,by simp,by simp⟩
  ·rw[List.map_append,List.map_append,h.keys];rfl
  ·refine List.nodup_append.mpr ⟨h.nd,List.nodup_cons.mpr ⟨List.not_mem_nil,.nil⟩,λa ha b hb=>?_⟩;rcases List.mem_singleton.mp hb with rfl;rintro rfl;have hm:D.str [p.1]∈kvs.map (·.1):=by rw[h.keys];exact List.mem_map.mpr ⟨p.1,ha,rfl⟩
   obtain⟨⟨k,v⟩,h1,h2⟩:=List.mem_map.mp hm;have h2':k = .str [p.1]:=h2;subst h2';exact vz e _ _ h1 rfl
  ·rcases List.mem_append.mp hc with hc|hc
   ·exact h.mem c hc
   ·rw[List.mem_singleton.mp hc];exact hx
  ·rcases List.mem_append.mp hm with hm|hm
   ·exact h.vals k v hm
   ·have:=List.mem_singleton.mp hm;cases this;exact⟨p.1,rfl,hp⟩
 | some w=>
  simp only[Option.isSome_some,if_true];obtain⟨k0,hk0,_⟩:=lD e;have hne:0<zs.length:=by have:=congrArg List.length h.keys;rw[List.length_map,List.length_map] at this;rw[<-this];exact List.length_pos_of_mem hk0
  refine⟨zs,⟨by rw[vK];exact h.keys,h.nd,h.mem,λk v hm=>?_⟩,hne,Nat.le_succ _⟩;rcases yI hm with hm|⟨hk,rfl⟩
  ·exact h.vals k v hm
  ·have hin:k∈(xD kvs (.inr (strOf [p.1])) p.2).map (·.1):=List.mem_map.mpr ⟨_,hm,rfl⟩;rw[vK,h.keys] at hin;obtain⟨c,hc,rfl⟩:=List.mem_map.mp hin;have:strOf [c]=strOf [p.1]:=by
    have:=Option.some.inj hk;exact Sum.inr.inj this
   have e2:=qR this;cases e2;exact⟨p.1,rfl,hp⟩
def Es{x:List Nat}{p:Nat×D}(h:p∈PV x):p.1∈x:=by unfold PV at h;obtain⟨c,hc,h⟩:=List.mem_flatMap.mp h;obtain⟨v,_,rfl⟩:=List.mem_map.mp h;exact hc
def nD(zs:List (List Nat)):jl (zs.map D.str)=some zs:=by
 induction zs with
 | nil=>rfl
 | cons z r ih=>
  rw[List.map_cons];unfold jl;rw[ih]
  rfl
def prs(kvs:List (D×D))(ks:List D):List D:=ks.map λk=>.tup [k,(jd (.dct kvs) k).getD .non]
def DK{x:List Nat}{kvs:List (D×D)}{zs:List Nat}(h:Eu x kvs zs)(k:D)(hk:k∈(iV (zs.map λc=>[c])).map D.str):∃c v,k = .str [c]/\jd (.dct kvs) k=some v/\(c,v)∈PV x:=by
 obtain⟨z,hz,rfl⟩:=List.mem_map.mp hk;obtain⟨c,hc,rfl⟩:=List.mem_map.mp ((iw _).mem_iff.mp hz);have hm:D.str [c]∈kvs.map (·.1):=by rw[h.keys];exact List.mem_map.mpr ⟨c,hc,rfl⟩
 obtain⟨⟨k,v⟩,h1,h2⟩:=List.mem_map.mp hm;have h2':k = .str [c]:=h2;subst h2';cases e:lM kvs (.inr (strOf [c])) with
 | none=>exact absurd rfl (vz e _ _ h1)
 | some w=>
  obtain⟨k',h3,h4⟩:=lD e;obtain⟨c',rfl,h5⟩:=h.vals k' w h3;have e2:strOf [c']=strOf [c]:=Sum.inr.inj (Option.some.inj h4);cases qR e2;exact⟨c,w,rfl,e,h5⟩
end iG
namespace K20
open Ev PySem L2
theorem Nu:∀(zs:List (List Nat)),zq [] zs=zs.flatten
 | []=>rfl
 | x::r=>by
  show r.foldl (λacc y=>acc++[]++y) x=(x::r).flatten;have go:∀(r:List (List Nat)) (x:List Nat),r.foldl (λacc y=>acc++[]++y) x=x++r.flatten:=by
   intro r
   induction r with
   | nil=>intro x;simp
   | cons y r ih=>intro x;rw[List.foldl_cons,ih];simp
  rw[go];rfl
theorem nD(zs:List (List Nat)):jl (zs.map D.str)=some zs:=by
 induction zs with
 | nil=>rfl
 | cons z r ih=>
  rw[List.map_cons];unfold jl;rw[ih]
  rfl
theorem Pg{zs:List (List Nat)}{k:Nat}(h:∀z∈zs,z.length<=k):(zs.map List.length).sum<=zs.length*k:=by
 induction zs with
 | nil=>simp
 | cons z r ih=>
  rw[List.map_cons,List.sum_cons,List.length_cons,Nat.add_mul];have h1:=h z (List.mem_cons_self ..);have h2:=ih λy hy=>h y (List.mem_cons_of_mem _ hy);omega
theorem Hi{a:cV}{env e:Ev.Env}{ds ys:List D}(h:a env = .ok ds e)(h':Aq ds=some ys):iK a env = .ok ys e:=by
 unfold iK;rw[h];show dX (Aq ds) e=_;rw[h']
 rfl
def texts(x:List Nat):List (List Nat):=[[],[x.headD 0],[x.getLastD 0],[x.headD 0,x.headD 0],[x.headD 0,x.getLastD 0]]
end K20
namespace jV
open Ev
def pB:bW:=pO.pB
def fO:LD:=cQ 2 pB
def mj:bW:=pO.mj
def jW:LD:=cQ 5 mj
def jM:bW:=pO.jM
def jm:LD:=cQ 1 jM
def Bf:bW:=aC (aJ (aP 0) (cJ 4 (aG (aj 2) (aG (aj 3) (aG (aj 4) (aG (aj 5) cN)))))) (aC (aJ (aH bY (ao bY 3 (Zi 0)) (Zi 1)) (aj 6)) (aC (dq 7 (cC ak)) (aC (aJ (Zw [35]) (aj 8)) (aC (fY (ik (ao cB 1 (Zw [35]))) (aj 9) (aC (cY (fC (cP (au fO (Zv 4 (Zv 8 ak)))) (cP (au fO (Zv 5 (Zv 9 ak))))) (gG 7 (aP 6)) bN) (aC (gG 7 (aP 9)) (aJ (aP 9) (aj 8))))) (bA (aH nU (Zw []) (uL (aP 7) kO (vo (uJ Bc (Zi 1))))))))))
def Bd:LD:=cQ 10 Bf
def zP:bW:=aC (aJ (aP 0) (cJ 4 (aG (aj 2) (aG (aj 3) (aG (aj 4) (aG (aj 5) cN)))))) (aC (aJ (au nW (aa (bf 3) ak)) (aj 6)) (aC (aJ (ao cB 1 (Zw [35])) (aj 7)) (aC (dq 8 (cC ak)) (aC (aJ (Zw [35]) (aj 9)) (aC (fY (abM (Zv 1 ak)) (cJ 2 (aG (aj 10) (aG (aj 11) cN))) (aC (aJ (aP 11) (aj 12)) (aC (cY (fC (cP (ao qF 11 (bf 6))) (fC (cP (au fO (Zv 4 (Zv 9 ak)))) (cP (au fO (Zv 5 (aa (ao bY 7 (ao cB 10 (Zi 1))) ak)))))) (aJ (ao jd 6 (bf 11)) (aj 12)) bN) (aC (gG 8 (aP 12)) (cY (cP (ao j4 2 (Zw [111,110,99,101]))) (aJ (aP 11) (aj 9)) (cY (cP (ao qC 12 (Zw []))) (aJ (aP 12) (aj 9)) bN)))))) (bA (aH nU (Zw []) (bf 8))))))))
def zz:LD:=cQ 13 zP
def Hv:bW:=aC (cY (cP (au jm (Zv 0 ak))) (bA (au Bd (Zv 0 (Zv 1 ak)))) bN) (bA (au zz (Zv 0 (Zv 1 ak))))
def wY:LD:=cQ 2 Hv
def Og:bW:=aC (cY (cP (ao j4 0 (Zw [114,105,103,104,116]))) (bA (rJ (au wY (aa (au jW (Zv 1 ak)) (aa (rJ (aP 2)) ak))))) bN) (bA (au wY (Zv 1 (Zv 2 ak))))
def NT:LD:=cQ 3 Og
def tL:bW:=pO.pB
def bQ:LD:=cQ 2 tL
def lA:bW:=aC (aJ (aH cB (aH cB (Zw [35]) (bf 1)) (Zw [35])) (aj 2)) (aC (aJ (Zw []) (aj 3)) (aC (fY (iK (aa (Zi 1) (aa (au gU (aa (bf 2) ak)) ak))) (aj 4) (aC (cY (fC (cP (au bQ (aa (ao bY 0 (Zi 2)) (aa (ao bY 2 (ao qz 4 (Zi 1))) ak)))) (cP (au bQ (aa (ao bY 0 (Zi 3)) (aa (ao bY 2 (bf 4)) ak))))) (aJ (ao cB 3 (aH bY (aH bY (ao bY 0 (Zi 1)) (Zi 0)) (Zi 1))) (aj 3)) bN) (aJ (ao cB 3 (ao bY 2 (bf 4))) (aj 3)))) (bA (uK (aP 3) kO (vo (uJ Bc (Zi 1)))))))
def jA:LD:=cQ 5 lA
def ji:bW:=aC (aJ (aP 0) (cJ 4 (aG (aj 2) (aG (aj 3) (aG (aj 4) (aG (aj 5) cN)))))) (aC (cY (cP (aH j4 (aH bY (ao bY 3 (Zi 0)) (Zi 0)) (Zw []))) (bA (au jA (Zv 0 (Zv 1 ak)))) bN) (aC (aJ (au nW (aa (bf 3) ak)) (aj 6)) (aC (aJ (aH cB (aH cB (Zw [35]) (bf 1)) (Zw [35])) (aj 7)) (aC (aJ (Zw [35]) (aj 8)) (aC (fY (iK (aa (Zi 1) (aa (aH qz (au gU (aa (bf 7) ak)) (Zi 1)) ak))) (aj 9) (aC (aJ (ao bY 7 (ao qz 9 (Zi 1))) (aj 10)) (aC (cY (cP (ao j4 2 (Zw [97,108,111,110,103]))) (aJ (ao bY 8 (uJ Bc (Zi 1))) (aj 10)) bN) (cY (fC (cP (aH qF (ao bY 7 (bf 9)) (bf 6))) (fC (cP (au bQ (Zv 4 (Zv 10 ak)))) (cP (au bQ (Zv 5 (aa (ao bY 7 (ao cB 9 (Zi 1))) ak)))))) (aJ (ao cB 8 (ao jd 6 (ao bY 7 (bf 9)))) (aj 8)) (aJ (ao cB 8 (ao bY 7 (bf 9))) (aj 8)))))) (bA (uK (aP 8) (vo (Zi 1)) kO)))))))
def ie:LD:=cQ 11 ji
open Ev PySem L2
abbrev XS:=iG.XS
open iG (z9 pC Eu PV SG N8 prs one others Gk Ea DK QW jt Es nD)
theorem ack:∀x∈XS,∀p∈PV x,∃t,p.2 = .str t/\t.length<=1/\∀c∈t,c∈x:=by
 have h:(XS.all λx=>(PV x).all λp=>match p.2 with|.str t=>decide (t.length<=1/\∀c∈t,c∈x)|_=>false)=true:=by decide +kernel
 intro x hx p hp;have:=List.all_eq_true.mp (List.all_eq_true.mp h x hx) p hp;split at this
 ·rename_i t e;exact⟨t,e,of_decide_eq_true this⟩
 ·cases this
theorem Mv{x:List Nat}{kvs:List (D×D)}{zs:List Nat}(h:Eu x kvs zs)(h4:zs.length<=4):iu [.dct kvs]=some (.lst ((iV (zs.map λc=>[c])).map .str)):=by
 have e:kvs.map (·.1)=(zs.map λc=>[c]).map D.str:=by rw[h.keys,List.map_map];rfl
 show(jl (kvs.map (·.1))).bind _=_;rw[e,nD];show(if _ then _ else _)=_;rw[if_pos];refine⟨by rw[List.length_map];omega,λz hz=>?_⟩;obtain⟨c,_,rfl⟩:=List.mem_map.mp hz;show 1<=sizeLine
 decide
theorem Lr{x:List Nat}{kvs:List (D×D)}{zs:List Nat}(h:Eu x kvs zs)(h4:zs.length<=4):N8 kvs=some (.tup (prs kvs ((iV (zs.map λc=>[c])).map D.str))):=by
 unfold N8;rw[Mv h h4];simp only;rw[if_pos]
 ·rfl
 ·refine List.all_eq_true.mpr λk hk=>?_;obtain⟨c,v,_,e,_⟩:=DK h k hk;rw[e];rfl
abbrev Pr:=Nat×List Nat
def encC(p:Pr):D:=.tup [.str [p.1],.str p.2]
inductive xW (x:List Nat):D->Prop
 | put {c:Nat}:c∈x->xW x (.tup [.tup [.str [],.str [c]]])
 | chg {ps:List Pr}:0<ps.length->ps.length<=4->(∀p∈ps,p.1∈x/\p.2.length<=1/\∀c∈p.2,c∈x)->xW x (.tup (ps.map encC))
theorem Dl{x:List Nat}{kvs:List (D×D)}(hx:x∈XS):∀(ks:List D),(∀k∈ks,∃c v,k = .str [c]/\jd (.dct kvs) k=some v/\(c,v)∈PV x)->∃ps:List Pr,prs kvs ks=ps.map encC/\ps.length=ks.length/\∀p∈ps,p.1∈x/\p.2.length<=1/\∀c∈p.2,c∈x
 | [],_=>⟨[],rfl,rfl,λp hp=>by simp at hp⟩
 | k::ks,h=>by
  obtain⟨c,v,rfl,e,hv⟩:=h k (List.mem_cons_self ..);obtain⟨t,et,ht⟩:=ack x hx _ hv;obtain⟨ps,e1,e2,e3⟩:=Dl hx ks λk hk=>h k (List.mem_cons_of_mem _ hk);refine⟨(c,t)::ps,?_,by rw[List.length_cons,List.length_cons,e2],λp hp=>?_⟩
  ·unfold prs at e1 ⊢;rw[List.map_cons,e1,e];have et':v = .str t:=et;rw[et']
   rfl
  ·rcases List.mem_cons.mp hp with rfl|hp
   ·exact⟨Es hv,ht⟩
   ·exact e3 p hp
structure kI(x:List Nat)(w ch l r:D):Prop where
 way:w = .str [111,110,99,101]\/w = .str [97,108,111,110,103]
 chg:xW x ch
 left:l∈SG x
 right:r∈SG x
def fit(l:D)(a:Nat):Bool:=iG.isT (fO [l,.str [a]])
theorem dh:∀x∈XS,∀l∈SG x,∀a∈35::x,fO [l,.str [a]]=some (.bl (fit l a)):=by
 have h:(XS.all λx=>(SG x).all λl=>(35::x).all λa=>(iG.isT (fO [l,.str [a]])||(match fO [l,.str [a]] with|some (.bl false)=>true|_=>false)))=true:=by decide +kernel
 intro x hx l hl a ha;have h1:=List.all_eq_true.mp (List.all_eq_true.mp (List.all_eq_true.mp h x hx) l hl) a ha;unfold fit;generalize fO [l,.str [a]]=o at h1;rcases Bool.or_eq_true_iff.mp h1 with h2|h2
 ·rw[h2];exact iG.Sq h2
 ·split at h2
  ·rfl
  ·cases h2
open iG (SG cZ)
theorem gV{a b:List Nat}(h:a.length+b.length<=100000):cB (.str a) (.str b)=some (.str (a++b)):=by show(if a.length+b.length<=sizeLine then _ else _)=_;rw[if_pos (Nat.le_trans h (by decide))]
theorem jn{a b:d8}{env:Ev.Env}{p q:Bool}(h1:a env = .ok p env)(h2:b env = .ok q env):fC a b env = .ok (p&&q) env:=by
 unfold fC;rw[h1];cases p with
 | true=>exact h2
 | false=>rfl
theorem aeB{zs:List (List Nat)}(h1:zs.length<=80000)(h2:∀z∈zs,z.length<=2):nU (.str []) (.lst (zs.map .str))=some (.str zs.flatten):=by
 have hf:joinFits [] zs=true:=by refine decide_eq_true ?_;have:=K20.Pg h2;show _+zs.length*0<=_;omega
 show(match jl (zs.map D.str) with|some xs=>if joinFits [] xs=true then some (D.str (zq [] xs)) else none|none=>none)=_;rw[K20.nD];show(if joinFits [] zs=true then _ else _)=_;rw[if_pos hf,K20.Nu]
theorem WQ{all done rest:List D}{d:D}(h:all=done++d::rest):all[done.length]? = some d:=by rw[h];simp
theorem getD_get{z:List Nat}{n:Nat}(h:n<z.length):z[n]? = some (z.getD n 0):=by rw[List.getD_eq_getElem?_getD,List.getElem?_eq_getElem h];rfl
theorem GZ{z:List Nat}{n:Nat}(h:n<z.length):bY (.str z) (.int (n:Int))=some (.str [z.getD n 0]):=by
 show(pR z (n:Int)).map _=_;rw[iJ (getD_get h)]
 rfl
theorem Tp{α:Type}(xs:List α):cutD xs none (some (-1))=xs.dropLast:=by
 unfold cutD;have e1:HT.fU xs.length xs.length (some (-1))=((-1:Int)+(xs.length:Int)).toNat:=rfl;have e2:HT.fU xs.length 0 none=0:=rfl;rw[e1,e2,List.drop_zero,List.dropLast_eq_take]
 congr 1
 omega
theorem N7(xs:List Nat):tH xs none (some (-1))=xs.dropLast:=Tp xs
abbrev ed(w:List Nat):List Nat:=35::(w++[35])
abbrev sg(w:List Nat)(n:Nat):Nat:=(ed w).getD n 0
section
variable{x w:List Nat}{l r:D}
theorem qJ:(ed w).length=w.length+2:=by simp
theorem CZ(hw:∀c∈w,c∈x){n:Nat}(h:n<w.length+2):sg w n∈35::x:=by
 have h1:n<(ed w).length:=by rw[qJ];exact h
 have:sg w n∈ed w:=List.mem_of_getElem? (getD_get h1);rcases List.mem_cons.mp this with e|e
 ·rw[e];exact List.mem_cons_self ..
 ·rcases List.mem_append.mp e with e|e
  ·exact List.mem_cons_of_mem _ (hw _ e)
  ·rw[List.mem_singleton.mp e];exact List.mem_cons_self ..
def pc(l r:D)(c:Nat)(w:List Nat)(n:Nat):List (List Nat):=if (fit l (sg w n)&&fit r (sg w (n+1)))=true then [[c]] else []
def pin(l r:D)(c:Nat)(w:List Nat):Nat->List (List Nat)
 | 0=>[]
 | n+1=>pin l r c w n++(pc l r c w n++[[sg w (n+1)]])
theorem Ri(c:Nat)(n:Nat):(pc l r c w n).length<=1/\∀z∈pc l r c w n,z.length=1:=by
 unfold pc;split
 ·exact⟨Nat.le_refl _,λz hz=>by rw[List.mem_singleton.mp hz];rfl⟩
 ·exact⟨Nat.zero_le _,λz hz=>by simp at hz⟩
theorem Jl(c:Nat):∀n,(pin l r c w n).length<=2*n/\∀z∈pin l r c w n,z.length=1
 | 0=>⟨Nat.le_refl _,λz hz=>by simp[pin] at hz⟩
 | n+1=>by
  obtain⟨h1,h2⟩:=Jl c n;obtain⟨h3,h4⟩:=Ri (l:=l) (r:=r) (w:=w) c n;unfold pin;refine⟨by rw[List.length_append,List.length_append,List.length_singleton];omega,λz hz=>?_⟩;rcases List.mem_append.mp hz with hz|hz
  ·exact h2 z hz
  ·rcases List.mem_append.mp hz with hz|hz
   ·exact h4 z hz
   ·rw[List.mem_singleton.mp hz];rfl
theorem S6{zs:List (List Nat)}(h:∀z∈zs,z.length=1):zs.flatten.length=zs.length:=by
 induction zs with
 | nil=>rfl
 | cons z t ih=>rw[List.flatten_cons,List.length_append,h z (List.mem_cons_self ..),ih λy hy=>h y (List.mem_cons_of_mem _ hy),List.length_cons];omega
def inn(l r:D)(c:Nat)(w:List Nat):List Nat:=(pin l r c w w.length++pc l r c w w.length).flatten
theorem Q6(c:Nat):(pin l r c w (w.length+1)).flatten.dropLast=inn l r c w:=by show(pin l r c w w.length++(pc l r c w w.length++[[sg w (w.length+1)]])).flatten.dropLast=(pin l r c w w.length++pc l r c w w.length).flatten;rw[<-List.append_assoc,List.flatten_append (L₂:=[[sg w (w.length+1)]])];exact List.dropLast_concat
variable(hx:x∈XS)(hl:l∈SG x)(hr:r∈SG x)(hw:∀c∈w,c∈x)(hn:w.length<=30000)
include hx hl hr
include hw hn
end
section
variable{x w:List Nat}{l r:D}
theorem adq{j:Nat}(h:j<100000):Aq [.int 1,.int ((j+1:Nat):Int)]=some (jw 1 1 j):=by
 have hf:oM (((j+1:Nat):Int))=true:=by unfold oM;rw[Bool.and_eq_true];exact⟨decide_eq_true (by omega),decide_eq_true (by omega)⟩
 have e:(((j+1:Nat):Int) - 1).toNat=j:=by omega
 unfold Aq;simp only;rw[if_pos ⟨by decide,hf⟩,e]
theorem step_at{j:Nat}{done rest:List D}{d:D}(h:jw 1 1 j=done++d::rest):d = .int ((done.length+1:Nat):Int)/\done.length<j:=by
 obtain⟨h1,h2⟩:=yG (WQ h);refine⟨?_,h1⟩;rw[h2]
 congr 1
 omega
def Jw:bW:=aC (cY (fC (cP (au bQ (aa (ao bY 0 (Zi 2)) (aa (ao bY 2 (ao qz 4 (Zi 1))) ak)))) (cP (au bQ (aa (ao bY 0 (Zi 3)) (aa (ao bY 2 (bf 4)) ak))))) (aJ (ao cB 3 (aH bY (aH bY (ao bY 0 (Zi 1)) (Zi 0)) (Zi 1))) (aj 3)) bN) (aJ (ao cB 3 (ao bY 2 (bf 4))) (aj 3))
theorem Y0(n:Nat):qz (.int ((n+1:Nat):Int)) (.int 1)=some (.int (n:Int)):=by
 show some (D.int (((n+1:Nat):Int) - 1))=_
 congr 2
 omega
variable(hx:x∈XS)(hl:l∈SG x)(hr:r∈SG x)(hw:∀c∈w,c∈x)(hn:w.length<=30000)
include hx hl hr hw hn
theorem V3(wy:D)(c n:Nat)(hnn:n<w.length+1)(f:List Nat)(hf:f.length<=80000)(a1:OD) :
  Jw [Zf (.tup [wy,.tup [.tup [.str [],.str [c]]],l,r]),a1,Zs (ed w),Zs f,Zf (.int ((n+1:Nat):Int))] =
   .nx [Zf (.tup [wy,.tup [.tup [.str [],.str [c]]],l,r]),a1,Zs (ed w),Zs (f++((pc l r c w n).flatten++[sg w (n+1)])),Zf (.int ((n+1:Nat):Int))]:=by
 have hp:=Ri (l:=l) (r:=r) (w:=w) c n;have hpf:(pc l r c w n).flatten.length<=1:=by rw[S6 hp.2];exact hp.1
 have i1:=GZ (z:=ed w) (n:=n) (by rw[qJ];omega);have i2:=GZ (z:=ed w) (n:=n+1) (by rw[qJ];omega);have g2:∀f,ao bY 2 (bf 4) [Zf (.tup [wy,.tup [.tup [.str [],.str [c]]],l,r]),a1,Zs (ed w),Zs f,Zf (.int ((n+1:Nat):Int))] = .ok (.str [sg w (n+1)]) [Zf (.tup [wy,.tup [.tup [.str [],.str [c]]],l,r]),a1,Zs (ed w),Zs f,Zf (.int ((n+1:Nat):Int))]:=λf=>
  bF (o:=false) (o':=false) (x:=.str (ed w)) (x0:=.str (ed w)) (y:=.int ((n+1:Nat):Int)) rfl rfl rfl i2
 have tl:∀f:List Nat,f.length<=80001->aJ (ao cB 3 (ao bY 2 (bf 4))) (aj 3) [Zf (.tup [wy,.tup [.tup [.str [],.str [c]]],l,r]),a1,Zs (ed w),Zs f,Zf (.int ((n+1:Nat):Int))] = .nx [Zf (.tup [wy,.tup [.tup [.str [],.str [c]]],l,r]),a1,Zs (ed w),Zs (f++[sg w (n+1)]),Zf (.int ((n+1:Nat):Int))]:=λf hf=>
  bh (bF (o:=false) (o':=false) (x:=.str f) (x0:=.str f) rfl (g2 f) rfl (gV (by show f.length+1<=100000;omega))) rfl
 have t:fC (cP (au bQ (aa (ao bY 0 (Zi 2)) (aa (ao bY 2 (ao qz 4 (Zi 1))) ak)))) (cP (au bQ (aa (ao bY 0 (Zi 3)) (aa (ao bY 2 (bf 4)) ak)))) [Zf (.tup [wy,.tup [.tup [.str [],.str [c]]],l,r]),a1,Zs (ed w),Zs f,Zf (.int ((n+1:Nat):Int))] = .ok (fit l (sg w n)&&fit r (sg w (n+1))) [Zf (.tup [wy,.tup [.tup [.str [],.str [c]]],l,r]),a1,Zs (ed w),Zs f,Zf (.int ((n+1:Nat):Int))]:=by
  refine jn (gk (aO (ds:=[l,.str [sg w n]]) ?_ (dh x hx l hl _ (CZ (w:=w) hw (by omega))))) (gk (aO (ds:=[r,.str [sg w (n+1)]]) ?_ (dh x hx r hr _ (CZ (w:=w) hw (by omega)))))
  ·refine aK (d:=l) rfl (aK ?_ bK);exact bF (o:=false) (o':=false) (x:=.str (ed w)) (x0:=.str (ed w)) (y:=.int (n:Int)) rfl (bF (o:=false) (o':=false) (x:=.int ((n+1:Nat):Int)) (x0:=.int ((n+1:Nat):Int)) (y:=.int 1) rfl rfl rfl (Y0 n)) rfl i1
  ·exact aK (d:=r) rfl (aK (g2 f) bK)
 unfold Jw;unfold pc at hpf ⊢;cases hc:fit l (sg w n)&&fit r (sg w (n+1)) with
 | true=>
  rw[hc] at t;rw[if_pos rfl];refine(aB (e:=[Zf (.tup [wy,.tup [.tup [.str [],.str [c]]],l,r]),a1,Zs (ed w),Zs (f++[c]),Zf (.int ((n+1:Nat):Int))]) ?_).trans ?_
  ·exact(eQ t).trans (bh (bF (o:=false) (o':=false) (x:=.str f) (x0:=.str f) (y:=.str [c]) rfl rfl rfl (gV (by show f.length+1<=100000;omega))) rfl)
  ·rw[tl _ (by rw[List.length_append,List.length_singleton];omega),List.append_assoc]
   rfl
 | false=>
  rw[hc] at t;rw[if_neg Bool.false_ne_true];exact(aB ((dW t).trans rfl)).trans (tl f (by omega))
theorem JB(wy:D)(c:Nat):jA [.tup [wy,.tup [.tup [.str [],.str [c]]],l,r],.str w]=some (.str (inn l r c w)):=by
 obtain⟨e',f1,hd,a9,rfl⟩:=lJ (g:=aj 4) (b:=Jw) (jw 1 1 (w.length+1))
  (λdone env=>done.length<=w.length+1/\∃a9,env=[Zf (.tup [wy,.tup [.tup [.str [],.str [c]]],l,r]),Zs w,Zs (ed w),Zs ((pin l r c w done.length).flatten),a9])
  (λdone s rest hall env ⟨hd,a9,he⟩=>by
   subst he;obtain⟨rfl,hdl⟩:=step_at hall;have hp:=Jl (l:=l) (r:=r) (w:=w) c done.length;have hpf:=S6 hp.2;refine⟨_,_,rfl,V3 hx hl hr hw hn wy c done.length hdl _ (by rw[hpf];omega) _,by rw[List.length_append,List.length_singleton];omega,Zf (.int ((done.length+1:Nat):Int)),?_⟩;rw[List.length_append,List.length_singleton];show _=[_,_,_,Zs ((pin l r c w done.length++(pc l r c w done.length++[[sg w (done.length+1)]])).flatten),_];rw[List.flatten_append,List.flatten_append]
   rfl)
  [Zf (.tup [wy,.tup [.tup [.str [],.str [c]]],l,r]),Zs w,Zs (ed w),Zs [],Zn] ⟨Nat.zero_le _,Zn,rfl⟩
 rw[oh] at f1;refine cR (env:=[Zf (.tup [wy,.tup [.tup [.str [],.str [c]]],l,r]),Zs w,Zs (ed w),Zs ((pin l r c w (w.length+1)).flatten),a9]) ?_;unfold lA;refine(aB (e:=[Zf (.tup [wy,.tup [.tup [.str [],.str [c]]],l,r]),Zs w,Zs (ed w),Zn,Zn]) ?_).trans ?_
 ·refine bh (d:=.str (ed w)) (e:=[Zf (.tup [wy,.tup [.tup [.str [],.str [c]]],l,r]),Zs w,Zn,Zn,Zn]) ?_ rfl;refine bL (x:=.str ([35]++w)) (y:=.str [35]) (e1:=[Zf (.tup [wy,.tup [.tup [.str [],.str [c]]],l,r]),Zs w,Zn,Zn,Zn]) ?_ rfl (gV (by show w.length+1+1<=100000;omega));exact bL (x:=.str [35]) (y:=.str w) (e1:=[Zf (.tup [wy,.tup [.tup [.str [],.str [c]]],l,r]),Zs w,Zn,Zn,Zn]) rfl rfl (gV (by show 1+w.length<=100000;omega))
 refine(aB (e:=[Zf (.tup [wy,.tup [.tup [.str [],.str [c]]],l,r]),Zs w,Zs (ed w),Zs [],Zn]) rfl).trans ?_;refine(aB ((fX (ds:=jw 1 1 (w.length+1)) (e:=[Zf (.tup [wy,.tup [.tup [.str [],.str [c]]],l,r]),Zs w,Zs (ed w),Zs [],Zn]) ?_).trans f1)).trans ?_
 ·refine K20.Hi (ds:=[.int 1,.int ((w.length+1+1:Nat):Int)]) ?_ (adq (by omega));refine aK (d:=.int 1) rfl (aK ?_ bK);refine aO (ds:=[.str (ed w)]) rfl ?_;show some (D.int ((ed w).length:Int))=_;rw[qJ]
 ·refine cD ?_;rw[<-Q6 c,<-N7]
  rfl
end
def wN(x:List Nat)(kvs:List (D×D)):Prop:=∀k v,(k,v)∈kvs->∃t:List Nat,v = .str t/\t.length<=1/\∀c∈t,c∈x
theorem wN.put{x:List Nat}{kvs:List (D×D)}(h:wN x kvs)(k:D)(q:Key)(t:List Nat)(h1:t.length<=1)(h2:∀c∈t,c∈x):wN x (putD kvs k q (.str t)):=by
 intro k' v hm;unfold putD at hm;split at hm
 ·rcases iG.yI hm with hm|⟨_,rfl⟩
  ·exact h k' v hm
  ·exact⟨t,rfl,h1,h2⟩
 ·rcases List.mem_append.mp hm with hm|hm
  ·exact h k' v hm
  ·cases List.mem_singleton.mp hm;exact⟨t,rfl,h1,h2⟩
theorem wN.all{x:List Nat}:∀(ps:List Pr) (kvs:List (D×D)),wN x kvs->(∀p∈ps,p.1∈x/\p.2.length<=1/\∀c∈p.2,c∈x)->wN x (jR kvs (ps.map λp=>(.str [p.1],.str p.2)))
 | [],kvs,h,_=>h
 | p::ps,kvs,h,hp=>by
  have h1:=hp p (List.mem_cons_self ..);exact wN.all ps _ (h.put (.str [p.1]) (.inr (strOf [p.1])) p.2 h1.2.1 h1.2.2) λp hm=>hp p (List.mem_cons_of_mem _ hm)
theorem Bv:∀(ps:List Pr),oN (ps.map encC)=some (ps.map λp=>(.str [p.1],.str p.2))
 | []=>rfl
 | p::ps=>by
  rw[List.map_cons];unfold oN;rw[Bv ps]
  rfl
theorem yr{x:List Nat}{ps:List Pr}(hp:∀p∈ps,p.1∈x/\p.2.length<=1/\∀c∈p.2,c∈x):∃kvs,nW [.tup (ps.map encC)]=some (.dct kvs)/\wN x kvs:=by
 refine⟨jR [] (ps.map λp=>(.str [p.1],.str p.2)),?_,wN.all ps [] (λk v h=>by simp at h) hp⟩;show(oN (ps.map encC)).map _=_;rw[Bv]
 rfl
def look(kvs:List (D×D))(s:Nat):Option (List Nat):=match lM kvs (.inr (strOf [s])) with
 | some (.str t)=>some t
 | _=>none
theorem yf{x:List Nat}{kvs:List (D×D)}(h:wN x kvs)(s:Nat):qF (.str [s]) (.dct kvs)=some (.bl (look kvs s).isSome):=by
 show some (D.bl (lM kvs (.inr (strOf [s]))).isSome)=_;unfold look;cases e:lM kvs (.inr (strOf [s])) with
 | none=>rfl
 | some v=>
  obtain⟨k,hk,_⟩:=iG.lD e;obtain⟨t,rfl,_⟩:=h k v hk
  rfl
theorem jz{x:List Nat}{kvs:List (D×D)}(h:wN x kvs){s:Nat}{t:List Nat}(hs:look kvs s=some t):jd (.dct kvs) (.str [s])=some (.str t)/\t.length<=1/\∀c∈t,c∈x:=by
 unfold look at hs;split at hs
 ·rename_i u e;cases hs;obtain⟨k,hk,_⟩:=iG.lD e;obtain⟨t',h1,h2⟩:=h k _ hk;cases h1;exact⟨e,h2⟩
 ·cases hs
section
variable{x w:List Nat}{l r:D}{kvs:List (D×D)}
def nw(kvs:List (D×D))(l r:D)(w:List Nat)(near n:Nat):List Nat:=if ((look kvs (sg w (n+1))).isSome&&(fit l near&&fit r (sg w (n+2))))=true then (look kvs (sg w (n+1))).getD [] else [sg w (n+1)]
def fH(al:Bool)(w:List Nat)(made:List (List Nat))(n:Nat):Nat:=if al=true then (35::made.flatten).getLastD 0 else sg w n
def cg(al:Bool)(kvs:List (D×D))(l r:D)(w:List Nat):Nat->List (List Nat)
 | 0=>[]
 | n+1=>cg al kvs l r w n++[nw kvs l r w (fH al w (cg al kvs l r w n) n) n]
theorem Px(hw:∀c∈w,c∈x){n:Nat}(h:n<w.length):sg w (n+1)=w.getD n 0/\sg w (n+1)∈x:=by
 have e:sg w (n+1)=w.getD n 0:=by show(w++[35]).getD n 0=_;rw[List.getD_eq_getElem?_getD,List.getD_eq_getElem?_getD,List.getElem?_append_left h]
 exact⟨e,by rw[e];exact hw _ (List.mem_of_getElem? (getD_get h))⟩
theorem Ru(hk:wN x kvs)(hw:∀c∈w,c∈x){n:Nat}(h:n<w.length)(near:Nat):(nw kvs l r w near n).length<=1/\∀c∈nw kvs l r w near n,c∈x:=by
 unfold nw;split
 ·cases e:look kvs (sg w (n+1)) with
  | none=>exact⟨Nat.zero_le _,λc hc=>by simp at hc⟩
  | some t=>exact(jz hk e).2
 ·exact⟨Nat.le_refl _,λc hc=>by rw[List.mem_singleton.mp hc];exact(Px hw h).2⟩
theorem Lw(al:Bool)(hk:wN x kvs)(hw:∀c∈w,c∈x):∀n,n<=w.length->(cg al kvs l r w n).length=n/\∀z∈cg al kvs l r w n,z.length<=1/\∀c∈z,c∈x
 | 0,_=>⟨rfl,λz hz=>by simp[cg] at hz⟩
 | n+1,h=>by
  obtain⟨h1,h2⟩:=Lw al hk hw n (by omega);unfold cg;refine⟨by rw[List.length_append,List.length_singleton,h1],λz hz=>?_⟩;rcases List.mem_append.mp hz with hz|hz
  ·exact h2 z hz
  ·rw[List.mem_singleton.mp hz];exact Ru hk hw (by omega) _
theorem Lx(al:Bool)(hk:wN x kvs)(hw:∀c∈w,c∈x){n:Nat}(h:n<=w.length):(cg al kvs l r w n).flatten.length<=n:=by obtain⟨h1,h2⟩:=Lw (l:=l) (r:=r) al hk hw n h;rw[List.length_flatten];have:=K20.Pg (zs:=cg al kvs l r w n) (k:=1) λz hz=>(h2 z hz).1;omega
theorem GQ:∀(a:Nat) (z:List Nat),(a::z).getLastD 0∈a::z
 | a,[]=>List.mem_cons_self ..
 | a,b::z=>List.mem_cons_of_mem _ (GQ b z)
theorem Rz(al:Bool)(hk:wN x kvs)(hw:∀c∈w,c∈x){n:Nat}(h:n<=w.length):fH al w (cg al kvs l r w n) n∈35::x:=by
 unfold fH;split
 ·rcases List.mem_cons.mp (GQ 35 (cg al kvs l r w n).flatten) with e|e
  ·rw[e];exact List.mem_cons_self ..
  ·obtain⟨z,hz,hc⟩:=List.mem_flatten.mp e;exact List.mem_cons_of_mem _ (((Lw (l:=l) (r:=r) al hk hw n h).2 z hz).2 _ hc)
 ·exact CZ hw (by omega)
theorem ai4(n:Nat):cB (.int (n:Int)) (.int 1)=some (.int ((n+1:Nat):Int)):=rfl
theorem Wb(a:Nat)(z:List Nat):bY (.str (a::z)) (.int (-1))=some (.str [(a::z).getLastD 0]):=by
 have e:pR (a::z) (-1)=some ((a::z).getLastD 0):=by
  unfold pR Wc;rw[if_neg (by decide),if_pos (by rw[List.length_cons];omega)];show(a::z)[((-1:Int)+((a::z).length:Int)).toNat]? = _;have e1:((-1:Int)+((a::z).length:Int)).toNat=(a::z).length - 1:=by rw[List.length_cons];omega
  rw[e1,<-List.getLast?_eq_getElem?]
  rfl
 show(pR (a::z) (-1)).map _=_;rw[e]
 rfl
theorem Tn(a:Nat)(z:List Nat):tH (a::z) (some 1) none=z:=by
 unfold tH;have e1:HT.fU (a::z).length (a::z).length none=z.length+1:=rfl;have e2:HT.fU (a::z).length 0 (some 1)=1:=by show min 1 (z.length+1)=1;omega
 rw[e1,e2];show z.take (z.length+1 - 1)=z;exact List.take_of_length_le (by omega)
theorem Js(made:List (List Nat))(t:List Nat)(n:Nat)(h:t.length<=1):fH true w (made++[t]) (n+1)=if t=[] then fH true w made n else t.headD 0:=by
 unfold fH;rw[if_pos rfl,if_pos rfl]
 match t,h with
 | [],_=>rw[if_pos rfl];simp
 | [a],_=>
  rw[if_neg (by simp)];rw[List.flatten_append];have:∀(b:Nat) (z:List Nat),(b::(z++[a])).getLastD 0=a:=by
   intro b z
   induction z generalizing b with
   | nil=>rfl
   | cons c z ih=>exact ih c
  exact this 35 _
def cM(al:Bool):D:=if al=true then .str [97,108,111,110,103] else .str [111,110,99,101]
variable(hx:x∈XS)(hl:l∈SG x)(hr:r∈SG x)(hw:∀c∈w,c∈x)(hn:w.length<=30000)(hk:wN x kvs)
include hx hl hr hw hn hk
def out(al:Bool)(kvs:List (D×D))(l r:D)(w:List Nat):List Nat:=(cg al kvs l r w w.length).flatten
theorem Z9(al:Bool):(∀c∈out al kvs l r w,c∈x)/\(out al kvs l r w).length<=2*w.length+1:=by
 unfold out;refine⟨λc hc=>?_,?_⟩
 ·obtain⟨z,hz,hcz⟩:=List.mem_flatten.mp hc;exact((Lw (l:=l) (r:=r) al hk hw w.length (Nat.le_refl _)).2 z hz).2 c hcz
 ·have:=Lx (l:=l) (r:=r) al hk hw (n:=w.length) (Nat.le_refl _);omega
end
section
variable{x w:List Nat}{l r:D}
theorem Xv{c:Nat}(hc:c∈x)(n:Nat):∀z∈pc l r c w n,∀d∈z,d∈x:=by
 unfold pc;split
 ·intro z hz d hd;rw[List.mem_singleton.mp hz] at hd;rw[List.mem_singleton.mp hd];exact hc
 ·intro z hz;simp at hz
theorem Q5{c:Nat}(hc:c∈x)(hw:∀c∈w,c∈x):∀n,n<=w.length->∀z∈pin l r c w n,∀d∈z,d∈x
 | 0,_=>λz hz=>by simp[pin] at hz
 | n+1,h=>by
  intro z hz d hd;unfold pin at hz;rcases List.mem_append.mp hz with hz|hz
  ·exact Q5 hc hw n (by omega) z hz d hd
  ·rcases List.mem_append.mp hz with hz|hz
   ·exact Xv hc n z hz d hd
   ·rw[List.mem_singleton.mp hz] at hd;rw[List.mem_singleton.mp hd];exact(Px hw (by omega)).2
theorem abo{c:Nat}(hc:c∈x)(hw:∀c∈w,c∈x):(∀d∈inn l r c w,d∈x)/\(inn l r c w).length<=2*w.length+1:=by
 unfold inn;refine⟨λd hd=>?_,?_⟩
 ·obtain⟨z,hz,Uc⟩:=List.mem_flatten.mp hd;rcases List.mem_append.mp hz with hz|hz
  ·exact Q5 hc hw w.length (Nat.le_refl _) z hz d Uc
  ·exact Xv hc _ z hz d Uc
 ·have h1:=Jl (l:=l) (r:=r) (w:=w) c w.length;have h2:=Ri (l:=l) (r:=r) (w:=w) c w.length;rw[S6 λz hz=>(List.mem_append.mp hz).elim (h1.2 z) (h2.2 z),List.length_append];omega
end
section
variable{x w:List Nat}{l r:D}{kvs:List (D×D)}
def Jx:bW:=aC (aJ (ao bY 7 (ao qz 9 (Zi 1))) (aj 10)) (aC (cY (cP (ao j4 2 (Zw [97,108,111,110,103]))) (aJ (ao bY 8 (uJ Bc (Zi 1))) (aj 10)) bN) (cY (fC (cP (aH qF (ao bY 7 (bf 9)) (bf 6))) (fC (cP (au bQ (Zv 4 (Zv 10 ak)))) (cP (au bQ (Zv 5 (aa (ao bY 7 (ao cB 9 (Zi 1))) ak)))))) (aJ (ao cB 8 (ao jd 6 (ao bY 7 (bf 9)))) (aj 8)) (aJ (ao cB 8 (ao bY 7 (bf 9))) (aj 8))))
variable(hx:x∈XS)(hl:l∈SG x)(hr:r∈SG x)(hw:∀c∈w,c∈x)(hn:w.length<=30000)(hk:wN x kvs)
include hx hl hr hw hn hk
theorem V6(al:Bool)(n:Nat)(hnn:n<w.length)(a0 a1 a3 a10:OD) :
  ∃b10,Jx [a0,a1,Zf (cM al),a3,Zf l,Zf r,Zf (.dct kvs),Zs (ed w),Zs (35::(cg al kvs l r w n).flatten),Zf (.int ((n+1:Nat):Int)),a10] =
   .nx [a0,a1,Zf (cM al),a3,Zf l,Zf r,Zf (.dct kvs),Zs (ed w),Zs (35::(cg al kvs l r w (n+1)).flatten),Zf (.int ((n+1:Nat):Int)),b10]:=by
 have hcl:=Lx (l:=l) (r:=r) al hk hw (n:=n) (by omega);have hnm:=Rz (l:=l) (r:=r) al hk hw (n:=n) (by omega);have hno:=Ru (l:=l) (r:=r) hk hw hnn (fH al w (cg al kvs l r w n) n);have hcg:cg al kvs l r w (n+1)=cg al kvs l r w n++[nw kvs l r w (fH al w (cg al kvs l r w n) n) n]:=rfl;have i0:=GZ (z:=ed w) (n:=n) (by rw[qJ];omega);have i1:=GZ (z:=ed w) (n:=n+1) (by rw[qJ];omega);have i2:=GZ (z:=ed w) (n:=n+2) (by rw[qJ];omega);have h2m:sg w (n+2)∈35::x:=CZ hw (by omega);rw[hcg,List.flatten_append];generalize hM:cg al kvs l r w n=made at *;have hnr:fH al w made n=if al=true then (35::made.flatten).getLastD 0 else sg w n:=rfl
 generalize hN:fH al w made n=near at *;have hnw:nw kvs l r w near n=if ((look kvs (sg w (n+1))).isSome&&(fit l near&&fit r (sg w (n+2))))=true then (look kvs (sg w (n+1))).getD [] else [sg w (n+1)]:=rfl
 generalize hT:nw kvs l r w near n=t at *;generalize hF:made.flatten=f at *;refine⟨Zs [near],?_⟩;unfold Jx;refine(aB (e:=[a0,a1,Zf (cM al),a3,Zf l,Zf r,Zf (.dct kvs),Zs (ed w),Zs (35::f),Zf (.int ((n+1:Nat):Int)),Zs [sg w n]]) ?_).trans ?_
 ·exact bh (bF (o:=false) (o':=false) (x:=.str (ed w)) (x0:=.str (ed w)) (y:=.int (n:Int)) (e2:=[a0,a1,Zf (cM al),a3,Zf l,Zf r,Zf (.dct kvs),Zs (ed w),Zs (35::f),Zf (.int ((n+1:Nat):Int)),a10]) rfl (bF (o:=false) (o':=false) (x:=.int ((n+1:Nat):Int)) (x0:=.int ((n+1:Nat):Int)) (y:=.int 1) rfl rfl rfl (Y0 n)) rfl i0) rfl
 refine(aB (e:=[a0,a1,Zf (cM al),a3,Zf l,Zf r,Zf (.dct kvs),Zs (ed w),Zs (35::f),Zf (.int ((n+1:Nat):Int)),Zs [near]]) ?_).trans ?_
 ·cases al with
  | false=>
   rw[if_neg Bool.false_ne_true] at hnr;rw[hnr];exact(dW (e:=_) rfl).trans rfl
  | true=>
   rw[if_pos rfl] at hnr;rw[hnr];exact(eQ (e:=_) rfl).trans (bh (bF (o:=false) (o':=false) (x:=.str (35::f)) (x0:=.str (35::f)) (y:=.int (-1)) rfl rfl rfl (Wb 35 f)) rfl)
 have g1:ao bY 7 (bf 9) [a0,a1,Zf (cM al),a3,Zf l,Zf r,Zf (.dct kvs),Zs (ed w),Zs (35::f),Zf (.int ((n+1:Nat):Int)),Zs [near]] = .ok (.str [sg w (n+1)]) [a0,a1,Zf (cM al),a3,Zf l,Zf r,Zf (.dct kvs),Zs (ed w),Zs (35::f),Zf (.int ((n+1:Nat):Int)),Zs [near]]:=
  bF (o:=false) (o':=false) (x:=.str (ed w)) (x0:=.str (ed w)) (y:=.int ((n+1:Nat):Int)) rfl rfl rfl i1
 have tt:fC (cP (aH qF (ao bY 7 (bf 9)) (bf 6))) (fC (cP (au bQ (Zv 4 (Zv 10 ak)))) (cP (au bQ (Zv 5 (aa (ao bY 7 (ao cB 9 (Zi 1))) ak))))) [a0,a1,Zf (cM al),a3,Zf l,Zf r,Zf (.dct kvs),Zs (ed w),Zs (35::f),Zf (.int ((n+1:Nat):Int)),Zs [near]] = .ok ((look kvs (sg w (n+1))).isSome&&(fit l near&&fit r (sg w (n+2)))) [a0,a1,Zf (cM al),a3,Zf l,Zf r,Zf (.dct kvs),Zs (ed w),Zs (35::f),Zf (.int ((n+1:Nat):Int)),Zs [near]]:=by refine jn (gk (bL (y:=.dct kvs) g1 rfl (yf hk _))) (jn (gk (aO (ds:=[l,.str [near]]) rfl (dh x hx l hl _ hnm))) (gk (aO (ds:=[r,.str [sg w (n+2)]]) ?_ (dh x hx r hr _ h2m))));refine aK (d:=r) rfl (aK ?_ bK);exact bF (o:=false) (o':=false) (x:=.str (ed w)) (x0:=.str (ed w)) (y:=.int ((n+2:Nat):Int)) rfl (bF (o:=false) (o':=false) (x:=.int ((n+1:Nat):Int)) (x0:=.int ((n+1:Nat):Int)) (y:=.int 1) rfl rfl rfl (ai4 (n+1))) rfl i2
 have hfl:(35::f).length+t.length<=100000:=by rw[List.length_cons];have:=hno.1;omega
 cases hc:(look kvs (sg w (n+1))).isSome&&(fit l near&&fit r (sg w (n+2))) with
 | true=>
  rw[hc] at tt hnw;rw[if_pos rfl] at hnw;obtain⟨u,hu⟩:=Option.isSome_iff_exists.mp (Bool.and_eq_true_iff.mp hc).1;rw[hu] at hnw;have hnw':t=u:=hnw;have hfu:[t].flatten=u:=by rw[hnw'];simp
  rw[hfu];rw[hnw'] at hfl;exact(eQ tt).trans (bh (bF (o:=false) (o':=false) (x:=.str (35::f)) (x0:=.str (35::f)) (y:=.str u) rfl (bF (o:=false) (o':=false) (x:=.dct kvs) (x0:=.dct kvs) (y:=.str [sg w (n+1)]) rfl g1 rfl (jz hk hu).1) rfl (gV hfl)) rfl)
 | false=>
  rw[hc] at tt hnw;rw[if_neg Bool.false_ne_true] at hnw;have hfu:[t].flatten=[sg w (n+1)]:=by rw[hnw];rfl
  rw[hfu];rw[hnw] at hfl;exact(dW tt).trans (bh (bF (o:=false) (o':=false) (x:=.str (35::f)) (x0:=.str (35::f)) (y:=.str [sg w (n+1)]) rfl g1 rfl (gV hfl)) rfl)
theorem Ba(al:Bool)(ps:List Pr)(hps:0<ps.length)(hd:nW [.tup (ps.map encC)]=some (.dct kvs)):ie [.tup [cM al,.tup (ps.map encC),l,r],.str w]=some (.str (out al kvs l r w)):=by
 have t0:∀a0 a1 a2 a4 a5,cP (aH j4 (aH bY (ao bY 3 (Zi 0)) (Zi 0)) (Zw [])) [a0,a1,a2,Zf (.tup (ps.map encC)),a4,a5,Zn,Zn,Zn,Zn,Zn] = .ok false [a0,a1,a2,Zf (.tup (ps.map encC)),a4,a5,Zn,Zn,Zn,Zn,Zn]:=by
  intro a0 a1 a2 a4 a5
  match ps,hps with
  | p::ps,_=>
   refine gk (bL (x:=.str [p.1]) (y:=.str []) (e1:=[a0,a1,a2,Zf (.tup ((p::ps).map encC)),a4,a5,Zn,Zn,Zn,Zn,Zn]) ?_ rfl rfl);refine bL (x:=encC p) (y:=.int 0) (e1:=[a0,a1,a2,Zf (.tup ((p::ps).map encC)),a4,a5,Zn,Zn,Zn,Zn,Zn]) ?_ rfl rfl;exact bF (o:=false) (o':=false) (x:=.tup ((p::ps).map encC)) (x0:=.tup ((p::ps).map encC)) (y:=.int 0) rfl rfl rfl (iJ (xs:=(p::ps).map encC) (j:=0) (v:=encC p) rfl)
 generalize hC:D.tup (ps.map encC)=ch at *;generalize hR:D.tup [cM al,ch,l,r]=R;obtain⟨e',f1,hdl,a9,a10,rfl⟩:=lJ (g:=aj 9) (b:=Jx) (jw 1 1 w.length)
  (λdone env=>done.length<=w.length/\∃a9 a10,env=[Zf R,Zs w,Zf (cM al),Zf ch,Zf l,Zf r,Zf (.dct kvs),Zs (ed w),Zs (35::(cg al kvs l r w done.length).flatten),a9,a10])
  (λdone s rest hall env ⟨hdl,a9,a10,he⟩=>by
   subst he;obtain⟨rfl,hdl⟩:=step_at hall;obtain⟨b10,hb⟩:=V6 hx hl hr hw hn hk al done.length hdl (Zf R) (Zs w) (Zf ch) a10;refine⟨_,_,rfl,hb,by rw[List.length_append,List.length_singleton];omega,Zf (.int ((done.length+1:Nat):Int)),b10,?_⟩;rw[List.length_append,List.length_singleton])
  [Zf R,Zs w,Zf (cM al),Zf ch,Zf l,Zf r,Zf (.dct kvs),Zs (ed w),Zs [35],Zn,Zn] ⟨Nat.zero_le _,Zn,Zn,rfl⟩
 rw[oh] at f1;refine cR (env:=[Zf R,Zs w,Zf (cM al),Zf ch,Zf l,Zf r,Zf (.dct kvs),Zs (ed w),Zs (35::(cg al kvs l r w w.length).flatten),a9,a10]) ?_;unfold ji;refine(aB (e:=[Zf R,Zs w,Zf (cM al),Zf ch,Zf l,Zf r,Zn,Zn,Zn,Zn,Zn]) (by rw[<-hR];rfl)).trans ?_;refine(aB (e:=[Zf R,Zs w,Zf (cM al),Zf ch,Zf l,Zf r,Zn,Zn,Zn,Zn,Zn]) ((dW (t0 _ _ _ _ _)).trans rfl)).trans ?_;refine(aB (e:=[Zf R,Zs w,Zf (cM al),Zf ch,Zf l,Zf r,Zf (.dct kvs),Zn,Zn,Zn,Zn]) ?_).trans ?_
 ·exact bh (e:=[Zf R,Zs w,Zf (cM al),Zf ch,Zf l,Zf r,Zn,Zn,Zn,Zn,Zn]) (aO (ds:=[ch]) rfl hd) rfl
 refine(aB (e:=[Zf R,Zs w,Zf (cM al),Zf ch,Zf l,Zf r,Zf (.dct kvs),Zs (ed w),Zn,Zn,Zn]) ?_).trans ?_
 ·refine bh (d:=.str (ed w)) (e:=[Zf R,Zs w,Zf (cM al),Zf ch,Zf l,Zf r,Zf (.dct kvs),Zn,Zn,Zn,Zn]) ?_ rfl;refine bL (x:=.str ([35]++w)) (y:=.str [35]) (e1:=[Zf R,Zs w,Zf (cM al),Zf ch,Zf l,Zf r,Zf (.dct kvs),Zn,Zn,Zn,Zn]) ?_ rfl (gV (by show w.length+1+1<=100000;omega));exact bL (x:=.str [35]) (y:=.str w) (e1:=[Zf R,Zs w,Zf (cM al),Zf ch,Zf l,Zf r,Zf (.dct kvs),Zn,Zn,Zn,Zn]) rfl rfl (gV (by show 1+w.length<=100000;omega))
 refine(aB (e:=[Zf R,Zs w,Zf (cM al),Zf ch,Zf l,Zf r,Zf (.dct kvs),Zs (ed w),Zs [35],Zn,Zn]) rfl).trans ?_;refine(aB ((fX (ds:=jw 1 1 w.length) (e:=[Zf R,Zs w,Zf (cM al),Zf ch,Zf l,Zf r,Zf (.dct kvs),Zs (ed w),Zs [35],Zn,Zn]) ?_).trans f1)).trans ?_
 ·refine K20.Hi (ds:=[.int 1,.int ((w.length+1:Nat):Int)]) ?_ (adq (by omega));refine aK (d:=.int 1) rfl (aK ?_ bK);refine bL (x:=.int ((w.length+1+1:Nat):Int)) (y:=.int 1) (e1:=[Zf R,Zs w,Zf (cM al),Zf ch,Zf l,Zf r,Zf (.dct kvs),Zs (ed w),Zs [35],Zn,Zn]) ?_ rfl (Y0 _);refine aO (ds:=[.str (ed w)]) rfl ?_;show some (D.int ((ed w).length:Int))=_;rw[qJ]
 ·refine cD ?_;unfold out;generalize(cg al kvs l r w w.length).flatten=z;have e1:∀(env:Ev.Env),env[8]? = some (Zs (35::z))->uK (aP 8) (vo (Zi 1)) kO env = .ok (.str (tH (35::z) (some 1) none)) env:=λenv h=>by
   have hv:aP 8 env = .ok (.str (35::z)) env:=by unfold aP;rw[h]
   unfold uK;rw[hv]
   rfl
  rw[Tn] at e1;exact e1 _ rfl
end
def sides:List D:=[.str [108,101,102,116],.str [114,105,103,104,116]]
end jV
namespace Kd
open Ev PySem L2
open iG (cZ)
open jV (XS sides kI gV)
def cT(x:List Nat)(R:D):Prop:=∃wy ch l r,R = .tup [wy,ch,l,r]/\kI x wy ch l r
def cF(s R:D)(w:List Nat):List Nat:=match jV.NT [s,R,.str w] with
 | some (.str o)=>o
 | _=>[]
section
variable{x:List Nat}{s:D}
def fin(s:D)(Rs:List D)(w:List Nat):List Nat:=Rs.foldl (λv R=>cF s R v) w
variable(hx:x∈XS)(hs:s∈sides){Rs:List D}(hR:∀R∈Rs,cT x R)(h4:Rs.length<=10){w:List Nat}(hw:∀c∈w,c∈x)(hn:(w.length+1)*2^Rs.length<=301)
include hx hs hR h4 hw hn
end
end Kd
namespace K10
open Ev PySem L2
open jV (XS sides kI xW gV fit dh sg ed pc pin inn nw fH cg out look wN encC cM Pr)
def J(g:Nat->Nat->List Nat):Nat->List Nat->Nat->List Nat
 | p,[],q=>g p q
 | p,a::t,q=>g p a++a::J g a t q
section
variable{x w:List Nat}{l r:D}{c:Nat}{kvs:List (D×D)}
theorem drop_cons{n:Nat}(h:n<w.length):w.drop n=sg w (n+1)::w.drop (n+1):=by
 have e:sg w (n+1)=w[n]:=by
  have:=(jV.Px (x:=w) (w:=w) (λc hc=>hc) h).1;rw[this,List.getD_eq_getElem?_getD,List.getElem?_eq_getElem h]
  rfl
 rw[e];exact List.drop_eq_getElem_cons h
def gP(l r:D)(c a b:Nat):List Nat:=if (fit l a&&fit r b)=true then [c] else []
theorem KR(n:Nat):(pc l r c w n).flatten=gP l r c (sg w n) (sg w (n+1)):=by unfold pc gP;split<;>rfl
theorem Y7:sg w (w.length+1)=35:=by show(w++[35]).getD w.length 0=35;rw[List.getD_eq_getElem?_getD];simp
theorem Yn:∀n,n<=w.length->J (gP l r c) 35 w 35=(pin l r c w n).flatten++J (gP l r c) (sg w n) (w.drop n) 35
 | 0,_=>rfl
 | n+1,h=>by
  rw[Yn n (by omega),drop_cons (by omega)];show _++(gP l r c (sg w n) (sg w (n+1))++sg w (n+1)::J (gP l r c) (sg w (n+1)) (w.drop (n+1)) 35)=(pin l r c w n++(pc l r c w n++[[sg w (n+1)]])).flatten++_;rw[List.flatten_append,List.flatten_append,KR];simp
theorem XQ:inn l r c w=J (gP l r c) 35 w 35:=by
 rw[Yn w.length (Nat.le_refl _),List.drop_length];unfold inn;rw[List.flatten_append,KR,Y7]
 rfl
def hC(kvs:List (D×D))(l r:D)(a b d:Nat):List Nat:=if ((look kvs b).isSome&&(fit l a&&fit r d))=true then (look kvs b).getD [] else [b]
end
end K10
namespace fG
open Ev
def pB:bW:=pO.pB
def fO:LD:=cQ 2 pB
def mj:bW:=pO.mj
def jW:LD:=cQ 5 mj
def jM:bW:=pO.jM
def jm:LD:=cQ 1 jM
def jj:bW:=aC (aJ (aP 0) (cJ 2 (aG (aj 1) (aG (aj 2) cN)))) (aC (cY (cP (ao j4 1 (Zw [114,105,103,104,116]))) (bA (au dG (aa (iD 3 4 (ik (aP 2)) (aj 3) fP (au jW (Zv 3 ak))) ak))) bN) (bA (aP 2)))
def di:LD:=cQ 3 jj
def jO:bW:=bA (au dG (aa (iD 1 5 (ik (au di (Zv 0 ak))) (cJ 4 (aG (aj 1) (aG (aj 2) (aG (aj 3) (aG (aj 4) cN))))) fP (bV (aa (au fO (Zv 3 (aa (Zw [35]) ak))) (aa (Zw []) ak)))) ak))
def cG:LD:=cQ 1 jO
def gj:bW:=pO.gj
def eG:LD:=cQ 10 gj
def gW:bW:=pO.gW
def eV:LD:=cQ 10 gW
def lr:bW:=aC (dq 3 (cC ak)) (aC (aJ (jg (.bl false)) (aj 4)) (aC (fY (ik (aP 2)) (aj 5) (aC (aJ (ao bY 1 (Zi 1)) (aj 6)) (aC (cY (cP (au jm (Zv 0 ak))) (aJ (au eG (Zv 0 (Zv 1 (Zv 5 ak)))) (cJ 2 (aG (aj 1) (aG (aj 7) cN)))) (aJ (au eV (Zv 0 (Zv 1 (Zv 5 ak)))) (cJ 2 (aG (aj 1) (aG (aj 7) cN))))) (aC (aJ (lq (aP 4) (ao qC 7 (bf 6))) (aj 4)) (gG 3 (aP 7)))))) (bA (bV (Zv 1 (aa (aH nU (Zw []) (bf 3)) (Zv 4 ak)))))))
def gO:LD:=cQ 8 lr
def o9:bW:=aC (aJ (aP 2) (aj 3)) (aC (dq 4 (cC ak)) (aC (dq 5 (cC ak)) (aC (fY (wZ (aa (au di (Zv 0 ak)) (Zv 1 ak))) (cJ 2 (aG (aj 6) (aG (aj 7) cN))) (aC (aJ (au gO (Zv 6 (Zv 7 (Zv 3 ak)))) (cJ 3 (aG (aj 8) (aG (aj 3) (aG (aj 9) cN))))) (aC (gG 4 (aP 8)) (gG 5 (aP 9))))) (bA (bV (aa (au dG (aa (bf 4) ak)) (Zv 3 (aa (au dG (aa (bf 5) ak)) ak))))))))
def gM:LD:=cQ 10 o9
def mO:bW:=aC (aJ (Zw []) (aj 2)) (aC (dq 3 (cC ak)) (aC (fY (wZ (aa (au di (Zv 0 ak)) (Zv 1 ak))) (cJ 2 (aG (aj 4) (aG (aj 5) cN))) (aC (aJ (au gO (Zv 4 (Zv 5 (aa (ao cB 2 (Zw [35])) ak)))) (cJ 3 (aG (aj 6) (aG (aj 2) (aG (aj 7) cN))))) (gG 3 (aP 7)))) (bA (bV (Zv 2 (aa (au dG (aa (bf 3) ak)) ak))))))
def f9:LD:=cQ 8 mO
def mR:bW:=pO.mR
def iC:LD:=cQ 1 mR
def jN:bW:=aC (aJ (Zi 0) (aj 2)) (aC (fY (ik (cC (aa (ao cB 1 (Zi 1)) (Zv 1 ak)))) (aj 3) (aJ (aH cB (ao sZ 2 (aH JM (Zi 10) (Zi 60))) (au iC (aa (aH bY (aH cB (uL (aP 0) (vo (aP 3)) (vo (ao cB 3 (Zi 1)))) (cC (aa (aH cB (aH sZ (Zi 7919) (bf 3)) (Zi 61)) ak))) (Zi 0)) ak))) (aj 2))) (pW (cC (Zv 2 ak))))
def oX:LD:=runN 4 jN
def lz:bW:=pO.lz
def gb:LD:=cQ 1 lz
open Ev PySem L2
open iG (SG cZ)
open jV (XS sides kI gV fit dh wN look jz yf cM encC yr xW jn)
open Kd (cT)
abbrev St:=Bool×List Nat
def aU(s:St):D:=.tup [.bl s.1,.str s.2]
inductive Rl
 | put (c:Nat) (l r:D)
 | chg (al:Bool) (kvs:List (D×D)) (l r:D)
def xJ(kvs:List (D×D))(s:Nat)(b:Bool):List Nat:=if b=true then (look kvs s).getD [s] else [s]
def VR(al:Bool)(l:D)(s:Nat)(b:Bool)(p:List Nat):Bool:=if al=true then (if p=[] then b else fit l (p.headD 0)) else fit l s
def stp:Rl->St->Nat->St×List Nat
 | .put c l r,s,a=>((fit l a,[a]),s.2++(if (s.1&&fit r a)=true then [c] else []))
 | .chg al kvs l r,s,a=>match s.2 with
  | []=>((s.1,[a]),[])
  | h::_=>((VR al l h s.1 (xJ kvs h (s.1&&fit r a)),[a]),xJ kvs h (s.1&&fit r a))
def rd(ρ:Rl):St->List Nat->St×List Nat
 | s,[]=>(s,[])
 | s,a::z=>((rd ρ (stp ρ s a).1 z).1,(stp ρ s a).2++(rd ρ (stp ρ s a).1 z).2)
theorem qd(ρ:Rl):∀(z:List Nat) (s:St) (y:List Nat),rd ρ s (z++y)=((rd ρ (rd ρ s z).1 y).1,(rd ρ s z).2++(rd ρ (rd ρ s z).1 y).2)
 | [],s,y=>rfl
 | a::z,s,y=>by
  show((rd ρ (stp ρ s a).1 (z++y)).1,(stp ρ s a).2++(rd ρ (stp ρ s a).1 (z++y)).2)=_;rw[qd ρ z];show _=((rd ρ (rd ρ (stp ρ s a).1 z).1 y).1,((stp ρ s a).2++(rd ρ (stp ρ s a).1 z).2)++_);rw[List.append_assoc]
  rfl
theorem vQ(ρ:Rl)(s:St)(a:Nat):rd ρ s [a]=stp ρ s a:=by show((stp ρ s a).1,(stp ρ s a).2++[])=_;rw[List.append_nil]
theorem qU(ρ:Rl)(s:St)(z:List Nat)(a:Nat):rd ρ s (z++[a])=((stp ρ (rd ρ s z).1 a).1,(rd ρ s z).2++(stp ρ (rd ρ s z).1 a).2):=by rw[qd,vQ]
inductive Is (x:List Nat):D->Rl->Prop
 | put {wy l r:D} {c:Nat}:c∈x->l∈SG x->r∈SG x->Is x (.tup [wy,.tup [.tup [.str [],.str [c]]],l,r]) (.put c l r)
 | chg {al:Bool} {ps:List jV.Pr} {kvs:List (D×D)} {l r:D}:0<ps.length->nW [.tup (ps.map encC)]=some (.dct kvs)->wN x kvs->l∈SG x->r∈SG x->Is x (.tup [cM al,.tup (ps.map encC),l,r]) (.chg al kvs l r)
theorem Yz{w:D}(h:w = .str [111,110,99,101]\/w = .str [97,108,111,110,103]):∃al,w=cM al:=by
 rcases h with rfl|rfl
 ·exact⟨false,rfl⟩
 ·exact⟨true,rfl⟩
theorem Sg{x:List Nat}{R:D}(h:cT x R):∃ρ,Is x R ρ:=by
 obtain⟨wy,ch,l,r,rfl,h⟩:=h;obtain⟨h1,h2,h3,h4⟩:=h;cases h2 with
 | put hc=>exact⟨_,.put hc h3 h4⟩
 | chg hp hp4 hps=>
  obtain⟨al,rfl⟩:=Yz h1;obtain⟨kvs,hd,hk⟩:=yr hps;exact⟨_,.chg hp hd hk h3 h4⟩
def jq(x:List Nat)(s:St):Prop:=s.2.length<=1/\∀c∈s.2,c∈35::x
theorem Gn{x:List Nat}{kvs:List (D×D)}(hk:wN x kvs)(s:Nat)(hs:s∈35::x)(b:Bool):(xJ kvs s b).length<=1/\∀c∈xJ kvs s b,c∈35::x:=by
 unfold xJ;split
 ·cases e:look kvs s with
  | none=>exact⟨Nat.le_refl _,λc hc=>by rw[List.mem_singleton.mp hc];exact hs⟩
  | some t=>exact⟨(jz hk e).2.1,λc hc=>List.mem_cons_of_mem _ ((jz hk e).2.2 c hc)⟩
 ·exact⟨Nat.le_refl _,λc hc=>by rw[List.mem_singleton.mp hc];exact hs⟩
theorem Ph{x:List Nat}{R:D}{ρ:Rl}(hR:Is x R ρ){s:St}(hs:jq x s){a:Nat}(ha:a∈35::x):jq x (stp ρ s a).1/\(stp ρ s a).2.length<=2/\∀c∈(stp ρ s a).2,c∈35::x:=by
 have h1:∀b:Bool,jq x (b,[a]):=λb=>⟨Nat.le_refl _,λc hc=>by rw[List.mem_singleton.mp hc];exact ha⟩;cases hR with
 | put hc hl hr=>
  refine⟨h1 _,?_,?_⟩
  ·show(s.2++_).length<=2;have:=hs.1;rw[List.length_append];split
   ·rw[List.length_singleton];omega
   ·rw[List.length_nil];omega
  ·intro c hm;rcases List.mem_append.mp hm with hm|hm
   ·exact hs.2 c hm
   ·split at hm
    ·rw[List.mem_singleton.mp hm];exact List.mem_cons_of_mem _ hc
    ·simp at hm
 | chg hp hd hk hl hr=>
  obtain⟨b,h⟩:=s
  match h,hs with
  | [],hs=>exact⟨h1 _,Nat.zero_le _,λc hc=>by simp[stp] at hc⟩
  | s::h,hs=>
   exact⟨h1 _,Nat.le_trans (Gn hk s (hs.2 s (List.mem_cons_self ..)) _).1 (by decide),(Gn hk s (hs.2 s (List.mem_cons_self ..)) _).2⟩
theorem mF{x:List Nat}{R:D}{ρ:Rl}(hR:Is x R ρ):∀(z:List Nat) {s:St},jq x s->(∀a∈z,a∈35::x)->jq x (rd ρ s z).1/\(rd ρ s z).2.length<=2*z.length/\∀c∈(rd ρ s z).2,c∈35::x
 | [],s,hs,_=>⟨hs,Nat.le_refl _,λc hc=>by simp[rd] at hc⟩
 | a::z,s,hs,hz=>by
  obtain⟨h1,h2,h3⟩:=Ph hR hs (hz a (List.mem_cons_self ..));obtain⟨h4,h5,h6⟩:=mF hR z h1 λb hb=>hz b (List.mem_cons_of_mem _ hb);refine⟨h4,?_,?_⟩
  ·show((stp ρ s a).2++(rd ρ (stp ρ s a).1 z).2).length<=_;rw[List.length_append,List.length_cons];omega
  ·intro c hc;rcases List.mem_append.mp (show c∈(stp ρ s a).2++(rd ρ (stp ρ s a).1 z).2 from hc) with hc|hc
   ·exact h3 c hc
   ·exact h6 c hc
theorem abv{x:List Nat}{kvs:List (D×D)}(hk:wN x kvs)(s:Nat):SQ (.dct kvs) (.str [s]) (.str [s])=some (.str ((look kvs s).getD [s])):=by
 show some ((lM kvs (.inr (strOf [s]))).getD (.str [s]))=_;unfold look;cases e:lM kvs (.inr (strOf [s])) with
 | none=>rfl
 | some v=>
  obtain⟨k,hm,_⟩:=iG.lD e;obtain⟨t,rfl,_⟩:=hk k v hm
  rfl
theorem wF{a b c:Ev}{env e1 e2 e3:Ev.Env}{kvs:List (D×D)}{k t d:D}(h1:a env = .ok (.dct kvs) e1)(h2:b e1 = .ok k e2)(h3:c e2 = .ok t e3)(h:SQ (.dct kvs) k t=some d):wG a b c env = .ok d e3:=by
 unfold wG;rw[h1];simp only[bindR];rw[h2];simp only;rw[h3];simp only;rw[h]
 rfl
theorem Ww(wy ch l r:D)(b:Bool)(a:Nat):eV [.tup [wy,ch,l,r],aU (b,[]),.str [a]]=some (.tup [aU (b,[a]),.str []]):=rfl
section
variable{x:List Nat}{l r:D}(hx:x∈XS)(hl:l∈SG x)(hr:r∈SG x)
include hx hl hr
theorem Qg(wy:D)(c:Nat)(b:Bool)(h:List Nat)(hh:h.length<=1)(a:Nat)(ha:a∈35::x) :
  eG [.tup [wy,.tup [.tup [.str [],.str [c]]],l,r],aU (b,h),.str [a]]=some (.tup [aU (stp (.put c l r) (b,h) a).1,.str (stp (.put c l r) (b,h) a).2]):=by
 generalize hR:D.tup [wy,.tup [.tup [.str [],.str [c]]],l,r]=R;generalize hS:aU (b,h)=S;have fl:=dh x hx l hl a ha;have fr:=dh x hx r hr a ha;show _=some (D.tup [.tup [.bl (fit l a),.str [a]],.str (h++(if (b&&fit r a)=true then [c] else []))]);generalize hP:(h++(if (b&&fit r a)=true then [c] else []))=p;refine cR (env:=[Zf R,Zf S,Zs [a],Zf wy,Zf (.tup [.tup [.str [],.str [c]]]),Zf l,Zf r,Zb b,Zs h,Zs p]) ?_;unfold gj;refine(aB (e:=[Zf R,Zf S,Zs [a],Zf wy,Zf (.tup [.tup [.str [],.str [c]]]),Zf l,Zf r,Zn,Zn,Zn]) (by rw[<-hR];rfl)).trans ?_;refine(aB (e:=[Zf R,Zf S,Zs [a],Zf wy,Zf (.tup [.tup [.str [],.str [c]]]),Zf l,Zf r,Zb b,Zs h,Zn]) (by rw[<-hS];rfl)).trans ?_;refine(aB (e:=[Zf R,Zf S,Zs [a],Zf wy,Zf (.tup [.tup [.str [],.str [c]]]),Zf l,Zf r,Zb b,Zs h,Zs h]) rfl).trans ?_;refine(aB (e:=[Zf R,Zf S,Zs [a],Zf wy,Zf (.tup [.tup [.str [],.str [c]]]),Zf l,Zf r,Zb b,Zs h,Zs p]) ?_).trans ?_
 ·have t:fC (cP (aP 7)) (cP (au fO (Zv 6 (Zv 2 ak)))) [Zf R,Zf S,Zs [a],Zf wy,Zf (.tup [.tup [.str [],.str [c]]]),Zf l,Zf r,Zb b,Zs h,Zs h] = .ok (b&&fit r a) [Zf R,Zf S,Zs [a],Zf wy,Zf (.tup [.tup [.str [],.str [c]]]),Zf l,Zf r,Zb b,Zs h,Zs h]:=
   jn rfl (gk (aO (ds:=[r,.str [a]]) rfl fr))
  cases hc:b&&fit r a with
  | true=>
   rw[hc] at t hP;rw[if_pos rfl] at hP;rw[<-hP];exact(eQ t).trans (bh (bF (o:=false) (o':=false) (x:=.str h) (x0:=.str h) (y:=.str [c]) rfl rfl rfl (gV (by show h.length+1<=100000;omega))) rfl)
  | false=>
   rw[hc] at t hP;rw[if_neg Bool.false_ne_true,List.append_nil] at hP;rw[<-hP];exact(dW t).trans rfl
 ·refine cD (dO (ds:=[.tup [.bl (fit l a),.str [a]],.str p]) (aK (dO (ds:=[.bl (fit l a),.str [a]]) (aK (aO (ds:=[l,.str [a]]) (by rfl) fl) (aK (by rfl) bK)) (by show 2<=sizeLine;decide)) (aK (by rfl) bK)) (by show 2<=sizeLine;decide))
theorem Qh(al:Bool){kvs:List (D×D)}(hk:wN x kvs)(ch:D)(hd:nW [ch]=some (.dct kvs))(b:Bool)(s:Nat)(hs:s∈35::x)(a:Nat)(ha:a∈35::x) :
  eV [.tup [cM al,ch,l,r],aU (b,[s]),.str [a]]=some (.tup [aU (stp (.chg al kvs l r) (b,[s]) a).1,.str (stp (.chg al kvs l r) (b,[s]) a).2]):=by
 generalize hR:D.tup [cM al,ch,l,r]=R;generalize hS:aU (b,[s])=S;have fs:=dh x hx l hl s hs;have fr:=dh x hx r hr a ha;have hp:=Gn hk s hs (b&&fit r a);show _=some (D.tup [.tup [.bl (VR al l s b (xJ kvs s (b&&fit r a))),.str [a]],.str (xJ kvs s (b&&fit r a))]);have hP:xJ kvs s (b&&fit r a)=if (b&&fit r a)=true then (look kvs s).getD [s] else [s]:=rfl
 generalize xJ kvs s (b&&fit r a)=p at *;refine cR (env:=[Zf R,Zf S,Zs [a],Zf (cM al),Zf ch,Zf l,Zf r,Zb b,Zs [s],Zs p]) ?_;unfold gW;refine(aB (e:=[Zf R,Zf S,Zs [a],Zf (cM al),Zf ch,Zf l,Zf r,Zn,Zn,Zn]) (by rw[<-hR];rfl)).trans ?_;refine(aB (e:=[Zf R,Zf S,Zs [a],Zf (cM al),Zf ch,Zf l,Zf r,Zb b,Zs [s],Zn]) (by rw[<-hS];rfl)).trans ?_;refine(aB (e:=[Zf R,Zf S,Zs [a],Zf (cM al),Zf ch,Zf l,Zf r,Zb b,Zs [s],Zn]) ((dW (e:=[Zf R,Zf S,Zs [a],Zf (cM al),Zf ch,Zf l,Zf r,Zb b,Zs [s],Zn]) (by rfl)).trans rfl)).trans ?_;refine(aB (e:=[Zf R,Zf S,Zs [a],Zf (cM al),Zf ch,Zf l,Zf r,Zb b,Zs [s],Zs [s]]) rfl).trans ?_;refine(aB (e:=[Zf R,Zf S,Zs [a],Zf (cM al),Zf ch,Zf l,Zf r,Zb b,Zs [s],Zs p]) ?_).trans ?_
 ·have t:fC (cP (aP 7)) (cP (au fO (Zv 6 (Zv 2 ak)))) [Zf R,Zf S,Zs [a],Zf (cM al),Zf ch,Zf l,Zf r,Zb b,Zs [s],Zs [s]] = .ok (b&&fit r a) [Zf R,Zf S,Zs [a],Zf (cM al),Zf ch,Zf l,Zf r,Zb b,Zs [s],Zs [s]]:=
   jn rfl (gk (aO (ds:=[r,.str [a]]) rfl fr))
  cases hc:b&&fit r a with
  | true=>
   rw[hc] at t hP;rw[if_pos rfl] at hP;rw[hP];exact(eQ t).trans (bh (wF (e1:=[Zf R,Zf S,Zs [a],Zf (cM al),Zf ch,Zf l,Zf r,Zb b,Zs [s],Zs [s]]) (e2:=[Zf R,Zf S,Zs [a],Zf (cM al),Zf ch,Zf l,Zf r,Zb b,Zs [s],Zs [s]]) (aO (ds:=[ch]) rfl hd) rfl rfl (abv hk s)) rfl)
  | false=>
   rw[hc] at t hP;rw[if_neg Bool.false_ne_true] at hP;rw[hP];exact(dW t).trans rfl
 ·cases al with
  | false=>
   refine(eY ?_).trans rfl;refine(eQ (e:=[Zf R,Zf S,Zs [a],Zf (cM false),Zf ch,Zf l,Zf r,Zb b,Zs [s],Zs p]) rfl).trans ?_;refine cD (dO (ds:=[.tup [.bl (fit l s),.str [a]],.str p]) (aK (dO (ds:=[.bl (fit l s),.str [a]]) (aK (aO (ds:=[l,.str [s]]) rfl fs) (aK rfl bK)) (by show 2<=sizeLine;decide)) (aK rfl bK)) (by show 2<=sizeLine;decide))
  | true=>
   refine(aB (e:=[Zf R,Zf S,Zs [a],Zf (cM true),Zf ch,Zf l,Zf r,Zb b,Zs [s],Zs p]) ((dW (e:=[Zf R,Zf S,Zs [a],Zf (cM true),Zf ch,Zf l,Zf r,Zb b,Zs [s],Zs p]) (by rfl)).trans rfl)).trans ?_
   match p,hp with
   | [],_=>rfl
   | [q],hp=>
    have fq:=dh x hx l hl q (hp.2 q (List.mem_cons_self ..));refine(aB (e:=[Zf R,Zf S,Zs [a],Zf (cM true),Zf ch,Zf l,Zf r,Zb b,Zs [s],Zs [q]]) ((dW (e:=[Zf R,Zf S,Zs [a],Zf (cM true),Zf ch,Zf l,Zf r,Zb b,Zs [s],Zs [q]]) (by rfl)).trans rfl)).trans ?_;exact cD (dO (ds:=[.tup [.bl (fit l q),.str [a]],.str [q]]) (aK (dO (ds:=[.bl (fit l q),.str [a]]) (aK (aO (ds:=[l,.str [q]]) rfl fq) (aK rfl bK)) (by show 2<=sizeLine;decide)) (aK rfl bK)) (by show 2<=sizeLine;decide))
   | _::_::_,hp=>exact absurd hp.1 (by simp)
end
theorem nY{a b:Ev}{env:Ev.Env}{p q:Bool}(h1:a env = .ok (.bl p) env)(h2:b env = .ok (.bl q) env):jY a b env = .ok (.bl (p&&q)) env:=by
 cases p with
 | true=>rw[Wm h1,h2];rfl
 | false=>rw[Wn h1];rfl
theorem oZ{a b:Ev}{env:Ev.Env}{p q:Bool}(h1:a env = .ok (.bl p) env)(h2:b env = .ok (.bl q) env):lq a b env = .ok (.bl (p||q)) env:=by
 cases p with
 | true=>rw[abJ h1];rfl
 | false=>rw[abK h1,h2];rfl
theorem uo:∀{y z:List Nat},pP y=pP z->y=z
 | [],[],_=>rfl
 | [],_::_,h=>by cases h
 | _::_,[],h=>by cases h
 | a::y,b::z,h=>by
  have h1:D.str [a]::pP y=D.str [b]::pP z:=h;injection h1 with h2 h3
  injection h2 with h4
  injection h4 with h5
  rw[h5,uo h3]
theorem um(y:List Nat)(a:Nat):pP (y++[a])=pP y++[.str [a]]:=by unfold pP;rw[List.map_append];rfl
theorem yc{z:List Nat}{done rest:List D}{d:D}(h:pP z=done++d::rest):∃a,d = .str [a]/\a∈z/\done.length<z.length:=by
 have hm:d∈pP z:=by rw[h];exact List.mem_append_right _ (List.mem_cons_self ..)
 obtain⟨a,ha,rfl⟩:=List.mem_map.mp hm;have:=congrArg List.length h;unfold pP at this;rw[List.length_map,List.length_append,List.length_cons] at this;exact⟨a,rfl,ha,by omega⟩
theorem zx(ρ:Rl)(s:St)(a:Nat):(stp ρ s a).1.2=[a]:=by
 cases ρ with
 | put c l r=>rfl
 | chg al kvs l r=>
  obtain⟨b,h⟩:=s;cases h<;>rfl
theorem JQ{ps:List jV.Pr}(hp:0<ps.length){env:Ev.Env}{wy l r:D}(h:env[0]? = some (Zf (.tup [wy,.tup (ps.map encC),l,r]))):aH j4 (aH bY (aH bY (ao bY 0 (Zi 1)) (Zi 0)) (Zi 0)) (Zw []) env = .ok (.bl false) env:=by
 match ps,hp with
 | p::ps,_=>
  refine bL (x:=.str [p.1]) (y:=.str []) (e1:=env) ?_ rfl rfl;refine bL (x:=encC p) (y:=.int 0) (e1:=env) ?_ rfl rfl;refine bL (x:=.tup ((p::ps).map encC)) (y:=.int 0) (e1:=env) ?_ rfl (iJ (xs:=(p::ps).map encC) (j:=0) (v:=encC p) rfl);exact bF (o:=false) (o':=false) (x:=.tup [wy,.tup ((p::ps).map encC),l,r]) (x0:=.tup [wy,.tup ((p::ps).map encC),l,r]) (y:=.int 1) h rfl h rfl
section
variable{x:List Nat}{R:D}{ρ:Rl}(hx:x∈XS)(hR:Is x R ρ)
include hx hR
theorem one_sign{s:St}(hs:jq x s){a:Nat}(ha:a∈35::x) :
  (jm [R]=some (.bl true)/\eG [R,aU s,.str [a]]=some (.tup [aU (stp ρ s a).1,.str (stp ρ s a).2]))\/(jm [R]=some (.bl false)/\eV [R,aU s,.str [a]]=some (.tup [aU (stp ρ s a).1,.str (stp ρ s a).2])):=by
 cases hR with
 | put hc hl hr=>exact .inl ⟨rfl,Qg hx hl hr _ _ s.1 s.2 hs.1 a ha⟩
 | chg hp hd hk hl hr=>
  rename_i al ps kvs l r;refine .inr ⟨?_,?_⟩
  ·exact cR (env:=[(Zf (.tup [cM al,.tup (ps.map encC),l,r]))]) (cD (JQ hp rfl))
  ·obtain⟨b,h⟩:=s
   match h,hs with
   | [],hs=>exact Ww _ _ _ _ _ _
   | [s],hs=>exact Qh hx hl hr al hk _ hd b s (hs.2 s (List.mem_cons_self ..)) a ha
   | _::_::_,hs=>exact absurd hs.1 (by simp)
def Ja:bW:=pO.pI
end
theorem BV{g:GV}{b:bW}{d:D}{ds:List D}{env e1 e2:Ev.Env}(h1:g d env=some e1)(h2:b e1 = .nx e2):fM g b (d::ds) env=fM g b ds e2:=by
 conv=>lhs;unfold fM
 rw[h1];simp only;rw[h2]
def tn:D->D
 | .tup [wy,ch,l,r]=>.tup [wy,ch,r,l]
 | d=>d
def lf:D->D
 | .tup [_,_,l,_]=>l
 | d=>d
def rt:D->Bool
 | .str (114::_)=>true
 | _=>false
def lay(s:D)(Rs:List D):List D:=if rt s=true then Rs.map tn else Rs
theorem Kr{x:List Nat}{R:D}(h:cT x R):cT x (tn R)/\jW [R]=some (tn R)/\gb [R]=some (tn R):=by obtain⟨wy,ch,l,r,rfl,h1,h2,h3,h4⟩:=h;exact⟨⟨wy,ch,r,l,rfl,h1,h2,h4,h3⟩,rfl,rfl⟩
theorem Dz(s:D)(Rs:List D):(lay s Rs).length=Rs.length:=by
 unfold lay;split
 ·rw[List.length_map]
 ·rfl
theorem Jy{x:List Nat}{s:D}{Rs:List D}(h:∀R∈Rs,cT x R):∀R∈lay s Rs,cT x R:=by
 unfold lay;split
 ·intro R hR;obtain⟨Q,hQ,rfl⟩:=List.mem_map.mp hR;exact(Kr (h Q hQ)).1
 ·exact h
noncomputable def eE(x:List Nat)(R:D):Rl:=open Classical in if h:∃ρ,Is x R ρ then h.choose else .put 0 .non .non
theorem qb{x:List Nat}{R:D}(h:cT x R):Is x R (eE x R):=by unfold eE;rw[dif_pos (Sg h)];exact(Sg h).choose_spec
noncomputable def wR(x:List Nat):List D->List St->List Nat->List St×List Nat
 | R::Rs,s::ss,z=>((rd (eE x R) s z).1::(wR x Rs ss (rd (eE x R) s z).2).1,(wR x Rs ss (rd (eE x R) s z).2).2)
 | _,_,z=>([],z)
noncomputable def Oo(x:List Nat):List D->List St->List Nat->List Nat
 | R::Rs,s::ss,z=>Oo x Rs ss (rd (eE x R) s (z++[35])).2
 | _,_,z=>z
def fss(Rs:List D):List St:=Rs.map λR=>(fit (lf R) 35,[])
section
variable{x:List Nat}{s:D}(hx:x∈XS)(hs:s∈sides){Rs:List D}(hR:∀R∈Rs,cT x R)(h4:Rs.length<=10)
include hx hs hR h4
theorem reading_rules:di [.tup [s,.tup Rs]]=some (.tup (lay s Rs)):=by
 rcases List.mem_cons.mp hs with rfl|hs
 ·rfl
 ·cases List.mem_singleton.mp hs;obtain⟨env',g1,v5,rfl⟩:=yh (g:=aj 3) (e:=au jW (Zv 3 ak)) (λenv=>∃v5,env=[Zf (.tup [.str [114,105,103,104,116],.tup Rs]),Zs [114,105,103,104,116],Zf (.tup Rs),v5]) tn Rs
   [Zf (.tup [.str [114,105,103,104,116],.tup Rs]),Zs [114,105,103,104,116],Zf (.tup Rs),Zn] ⟨none,rfl⟩
   (λd hd env ⟨v5,he⟩=>by
    subst he;exact⟨[Zf (.tup [.str [114,105,103,104,116],.tup Rs]),Zs [114,105,103,104,116],Zf (.tup Rs),Zf d],_,rfl,aO (ds:=[d]) rfl (Kr (hR d hd)).2.1,_,rfl⟩)
  refine cR (env:=[Zf (.tup [.str [114,105,103,104,116],.tup Rs]),Zs [114,105,103,104,116],Zf (.tup Rs)]) ?_;unfold jj;refine(aB (e:=[Zf (.tup [.str [114,105,103,104,116],.tup Rs]),Zs [114,105,103,104,116],Zf (.tup Rs)]) rfl).trans ?_;refine(eY ?_).trans rfl;refine(eQ (e:=[Zf (.tup [.str [114,105,103,104,116],.tup Rs]),Zs [114,105,103,104,116],Zf (.tup Rs)]) rfl).trans ?_;refine cD (aO (ds:=[.lst (Rs.map tn)]) (aK ?_ bK) rfl);exact uM (lo:=3) (n:=4) (ds:=Rs) (aM:=[Zf (.tup [.str [114,105,103,104,116],.tup Rs]),Zs [114,105,103,104,116],Zf (.tup Rs)]) rfl rfl g1 (by rw[List.length_map];exact Nat.le_trans h4 (by decide))
theorem first_standing:cG [.tup [s,.tup Rs]]=some (.tup ((fss (lay s Rs)).map aU)):=by
 have h1:=reading_rules hx hs hR h4;have h2:=Jy (s:=s) hR;have h3:=Dz s Rs;generalize lay s Rs=Ls at *;generalize D.tup [s,.tup Rs]=O at *;obtain⟨env',g1,v1,v2,v3,v4,rfl⟩:=yh (g:=cJ 4 (aG (aj 1) (aG (aj 2) (aG (aj 3) (aG (aj 4) cN))))) (e:=bV (aa (au fO (Zv 3 (aa (Zw [35]) ak))) (aa (Zw []) ak))) (λenv=>∃v1 v2 v3 v4,env=[Zf O,v1,v2,v3,v4]) (λR=>aU (fit (lf R) 35,[])) Ls
  [Zf O,Zn,Zn,Zn,Zn] ⟨none,Zn,Zn,Zn,rfl⟩
  (λd hd env ⟨v1,v2,v3,v4,he⟩=>by
   subst he;obtain⟨wy,ch,l,r,rfl,hro⟩:=h2 d hd;exact⟨[Zf O,Zf wy,Zf ch,Zf l,Zf r],[Zf O,Zf wy,Zf ch,Zf l,Zf r],rfl,dO (ds:=[.bl (fit l 35),.str []]) (aK (aO (ds:=[l,.str [35]]) rfl (dh x hx l hro.left 35 (List.mem_cons_self ..))) rfl) (by show 2<=sizeLine;decide),_,_,_,_,rfl⟩)
 refine cR (env:=[Zf O]) (cD (aO (ds:=[.lst (Ls.map λR=>aU (fit (lf R) 35,[]))]) (aK ?_ bK) ?_))
 ·exact uM (lo:=1) (n:=5) (ds:=Ls) (aM:=[Zf O]) (DR (aO (ds:=[O]) rfl h1) rfl) rfl g1 (by rw[List.length_map,h3];exact Nat.le_trans h4 (by decide))
 ·unfold fss;rw[List.map_map]
  rfl
end
def HY:bW:=pO.rH
def Ie:bW:=pO.qy
section
variable{x:List Nat}(hx:x∈XS)
theorem Li{n m k:Nat}(h:(n+2)*2^(k+1)<=150)(hm:m<=2*(n+1)):(m+2)*2^k<=150/\n<=73:=by
 have h1:(n+2)*2^(k+1)=(2*(n+1)+2)*2^k:=by
  rw[Nat.pow_succ,<-Nat.mul_assoc,Nat.mul_right_comm]
  congr 1
  omega
 have h2:(m+2)*2^k<=(2*(n+1)+2)*2^k:=Nat.mul_le_mul_right _ (by omega);have h3:1<=2^k:=Nat.one_le_two_pow;have h4:2*(n+1)+2<=(2*(n+1)+2)*2^k:=Nat.le_mul_of_pos_right _ h3;omega
include hx
end
open jV (XS sides kI gV xW)
open iG (z9 pC Eu PV SG N8 prs one others Gk Ea DK QW jt Es nD)
open jV (Dl Lr)
def Jt(i:Int):Int:=i*915965594177219015054603514932384110774149374281672134266497 % 10^60
theorem V2(i:Int):(Jt i).natAbs<2^200:=by
 unfold Jt;have h1:0<=i*915965594177219015054603514932384110774149374281672134266497 % 10^60:=Int.emod_nonneg _ (by decide);have h2:i*915965594177219015054603514932384110774149374281672134266497 % 10^60<10^60:=Int.emod_lt_of_pos _ (by decide);have h3:(10:Int)^60<=2^200:=by decide
 omega
theorem mixed{i:Int}(h:Builtin.Int.intBits i<=2^20):iC [.int i]=some (.int (Jt i)):=by
 have hm:jT i 915965594177219015054603514932384110774149374281672134266497=true:=iG.sV h (iG.rA (b:=200) (by decide)) (by decide);have e1:ao sZ 0 (Zi 915965594177219015054603514932384110774149374281672134266497) [Zf (.int i)] = .ok (.int (i*915965594177219015054603514932384110774149374281672134266497)) [Zf (.int i)]:=by
  show dX (gI jT (λi j=>D.int (i*j)) (.int i) (.int _)) _=_;unfold gI;simp only;rw[if_pos hm]
  rfl
 show(match bA _ [Zf (.int i)] with|.rt false d _=>some d|.nx _=>some .non|_=>none)=_;rw[cD (d:=.int (Jt i)) (e:=[Zf (.int i)])];unfold aH;rw[e1]
 rfl
def lW:bW:=aJ (aH cB (ao sZ 2 (aH JM (Zi 10) (Zi 60))) (au iC (aa (aH bY (aH cB (uL (aP 0) (vo (aP 3)) (vo (ao cB 3 (Zi 1)))) (cC (aa (aH cB (aH sZ (Zi 7919) (bf 3)) (Zi 61)) ak))) (Zi 0)) ak))) (aj 2)
theorem Bw(ns:List Int)(hl:ns.length<=63)(hb:Ol ns)(k a f:Int)(ha:a.natAbs<2^10)(hf:Builtin.Int.intBits f<=2^20) :
  ∃f':Int,lW [Zf (.arr (ns.map .int)),Zf (.int k),Zf (.int f),Zf (.int a)] = .nx [Zf (.arr (ns.map .int)),Zf (.int k),Zf (.int f'),Zf (.int a)]/\(f=0->f'.natAbs<2^200):=by
 generalize hE:([Zf (.arr (ns.map .int)),Zf (.int k),Zf (.int f),Zf (.int a)]:Ev.Env)=env;have m1:jT 7919 a=true:=iG.sV (a:=20) (b:=10) (iG.rA (by decide)) (iG.rA ha) (by decide);have m2:jT f (10^(60:Int).toNat)=true:=iG.sV (b:=200) hf (iG.rA (by decide)) (by decide);have e1:uL (aP 0) (vo (aP 3)) (vo (ao cB 3 (Zi 1))) env = .ok (.lst (cutD (ns.map .int) (some a) (some (a+1)))) env:=by rw[<-hE];rfl
 have e2:cC (aa (aH cB (aH sZ (Zi 7919) (bf 3)) (Zi 61)) ak) env = .ok (.lst [.int (7919*a+61)]) env:=by refine S8 (aK (bL (bL (x:=.int 7919) (y:=.int a) (e1:=env) (e2:=env) rfl (by rw[<-hE];rfl) (Le m1)) (y:=.int 61) rfl rfl) bK) (by show 1<=sizeLine;decide)
 generalize hL:cutD (ns.map D.int) (some a) (some (a+1))=L at e1;have hLl:L.length<=63:=by rw[<-hL];exact Nat.le_trans (qK _ _ _) (by rw[List.length_map];exact hl)
 have e3:aH cB (uL (aP 0) (vo (aP 3)) (vo (ao cB 3 (Zi 1)))) (cC (aa (aH cB (aH sZ (Zi 7919) (bf 3)) (Zi 61)) ak)) env = .ok (.lst (L++[.int (7919*a+61)])) env:=by exact bL e1 e2 (S5 (by show L.length+1<=sizeLine;exact Nat.le_trans (Nat.succ_le_succ hLl) (by decide)))
 obtain⟨c,hc,hcb⟩:∃c:Int,pR (L++[.int (7919*a+61)]) 0=some (.int c)/\Builtin.Int.intBits c<=2^20:=by
  cases hLc:L with
  | nil=>
   refine⟨7919*a+61,rfl,Nat.le_trans (iG.rA (b:=30) ?_) (by decide)⟩;omega
  | cons y r=>
   have hy:y∈ns.map D.int:=iG.Wu (lo:=some a) (hi:=some (a+1)) (by rw[hL,hLc];exact List.mem_cons_self ..);obtain⟨i,hi,rfl⟩:=List.mem_map.mp hy;exact⟨i,iG.TX _ _,hb i hi⟩
 have e4:au iC (aa (aH bY (aH cB (uL (aP 0) (vo (aP 3)) (vo (ao cB 3 (Zi 1)))) (cC (aa (aH cB (aH sZ (Zi 7919) (bf 3)) (Zi 61)) ak))) (Zi 0)) ak) env = .ok (.int (Jt c)) env:=by exact aO (aK (bL (y:=.int 0) e3 rfl hc) bK) (mixed hcb)
 refine⟨f*10^(60:Int).toNat+Jt c,?_,λh0=>?_⟩
 ·unfold lW;refine bh (d:=.int (f*10^(60:Int).toNat+Jt c)) (e:=env) ?_ (by rw[<-hE];rfl);have e5:ao sZ 2 (aH JM (Zi 10) (Zi 60)) env = .ok (.int (f*10^(60:Int).toNat)) env:=by
   rw[<-hE];exact bF (o:=false) (o':=false) (x:=.int f) (x0:=.int f) rfl rfl rfl (Le m2)
  exact bL e5 e4 rfl
 ·rw[h0,Int.zero_mul,Int.zero_add];exact V2 c
theorem pack(ns:List Int)(hl:ns.length<=63)(hb:Ol ns)(k:Int)(h0:0<=k)(h1:k<=500):∃p:Int,oX [.arr (ns.map .int),.int k]=some (.lst [.int p]):=by
 obtain⟨f1,e1,b1⟩:=Bw ns hl hb k (k+1) 0 (by omega) (by decide);obtain⟨f2,e2,_⟩:=Bw ns hl hb k k f1 (by omega) (Nat.le_trans (iG.rA (b1 rfl)) (by decide));refine⟨f2,?_⟩;have h:jN [Zf (.arr (ns.map .int)),Zf (.int k),Zn,Zn] = .rt true (.lst [.int f2]) [Zf (.arr (ns.map .int)),Zf (.int k),Zf (.int f2),Zf (.int k)]:=by
  unfold jN;refine(aB (e:=[Zf (.arr (ns.map .int)),Zf (.int k),Zf (.int 0),Zn]) rfl).trans ?_;refine(aB (e:=[Zf (.arr (ns.map .int)),Zf (.int k),Zf (.int f2),Zf (.int k)]) ?_).trans rfl;refine(fX (ds:=[.int (k+1),.int k]) (e:=[Zf (.arr (ns.map .int)),Zf (.int k),Zf (.int 0),Zn]) rfl).trans ?_;show fM (aj 3) lW [.int (k+1),.int k] _=_;unfold fM;show(match lW [Zf (.arr (ns.map .int)),Zf (.int k),Zf (.int 0),Zf (.int (k+1))] with|.nx e2=>fM (aj 3) lW [.int k] e2|.ct e2=>_|.bk e2=>_|.rt o d e2=>_|.stuck=>_)=_;rw[e1];simp only;unfold fM;show(match lW [Zf (.arr (ns.map .int)),Zf (.int k),Zf (.int f1),Zf (.int k)] with|.nx e2=>fM (aj 3) lW [] e2|.ct e2=>_|.bk e2=>_|.rt o d e2=>_|.stuck=>_)=_;rw[e2]
  rfl
 show(match jN _ with|.rt true d _=>some d|_=>none)=_;have e:envOf 4 [D.arr (ns.map .int),.int k]=[Zf (.arr (ns.map .int)),Zf (.int k),Zn,Zn]:=rfl;rw[e,h]
theorem changes(n:Int)(x:List Nat)(hx:x∈XS):∃ch n',iG.je [.lst [.int n],.str x]=some (ch,.lst [.int n'])/\xW x ch:=by
 obtain⟨d,hd,e⟩:=dig n 5 (by decide);have hp:=z9 x hx;have hl4:=pC x hx;have t:cP (aH j4 (dC iG.aX 0 (aa (Zi 5) ak)) (Zi 0)) [Zl [.int n],Zs x,Zn,Zn,Zn,Zn] = .ok ((d:Int) == 0) [Zl [.int (n / 5)],Zs x,Zn,Zn,Zn,Zn]:=by
  rw[<-e]
  rfl
 by_cases h0:d=0
 ·subst h0;obtain⟨j,hj,ej⟩:=dig (n / 5) x.length hp;refine⟨.tup [.tup [.str [],.str [x[j]]]],n / 5 / (x.length:Int),iW (env:=[Zl [.int (n / 5 / (x.length:Int))],Zs x,Zn,Zn,Zn,Zn]) ?_ rfl,.put (List.getElem_mem hj)⟩;unfold iG.jh;refine(eY (d:=.tup [.tup [.str [],.str [x[j]]]]) (o:=false) (e:=[Zl [.int (n / 5 / (x.length:Int))],Zs x,Zn,Zn,Zn,Zn]) ?_).trans rfl;refine(eQ t).trans ?_;refine cD (dO (aK (dO (ds:=[.str [],.str [x[j]]]) (aK (d:=.str []) rfl (aK ?_ bK)) (by show 2<=sizeLine;decide)) bK) (by show 1<=sizeLine;decide));refine bF (o:=false) (o':=false) (x:=.str x) (x0:=.str x) (y:=.int (n / 5 % (x.length:Int))) rfl ?_ rfl ?_
  ·exact gf (x:=.lst [.int (n / 5)]) (x0:=.lst [.int (n / 5)]) (ds:=[.int (x.length:Int)]) (e1:=[Zl [.int (n / 5)],Zs x,Zn,Zn,Zn,Zn]) rfl rfl rfl (jt _ x.length hp (by omega))
  ·show(pR x (n / 5 % (x.length:Int))).map _=_;rw[ej,Ek hj]
   rfl
 ·have t0:((d:Int) == 0)=false:=by rw[beq_eq_false_iff_ne];omega
  rw[t0] at t;obtain⟨j,hj,ej⟩:=dig (n / 5) 3 (by decide);obtain⟨ds,hds,hl1,hl2⟩:∃ds,Aq [.int (1+(j:Int))]=some ds/\0<ds.length/\ds.length<=4:=by
   have hc:j=0\/j=1\/j=2:=by omega
   rcases hc with rfl|rfl|rfl
   ·exact⟨_,rfl,by decide,by decide⟩
   ·exact⟨_,rfl,by decide,by decide⟩
   ·exact⟨_,rfl,by decide,by decide⟩
  obtain⟨e',f1,n',kvs,zs,v3,v4,v5,rfl,hk,hz1,hz2⟩:=lJ (g:=aj 3) (b:=aC one (aC others Gk)) ds
   (λdone env=>∃n kvs zs v3 v4 v5,env=[Zl [.int n],Zs x,Zt (.dct kvs),v3,v4,v5]/\Eu x kvs zs/\zs.length<=done.length/\(0<done.length->0<zs.length))
   (λdone s rest hall env ⟨n,kvs,zs,v3,v4,v5,he,hk,hz1,hz2⟩=>by
    subst he;have hdl:done.length<=4:=by have:=congrArg List.length hall;rw[List.length_append,List.length_cons] at this;omega
    have hkl:kvs.length=zs.length:=by
     have:=congrArg List.length hk.keys
     rwa [List.length_map,List.length_map] at this
    obtain⟨p,n',w4,w5,hpv,hb⟩:=iG.round n x hx kvs (by omega) (Zf s) v4 v5;obtain⟨zs',hk',z1,z2⟩:=hk.put hpv (Es hpv);exact⟨_,_,rfl,hb,n',_,zs',_,_,_,rfl,hk',by rw[List.length_append,List.length_singleton];omega,λ_=>z1⟩)
   [Zl [.int (n / 5 / 3)],Zs x,Zt (.dct []),Zn,Zn,Zn] ⟨_,[],[],_,_,_,rfl,⟨rfl,.nil,λc hc=>by simp at hc,λk v h=>by simp at h⟩,Nat.le_refl _,λh=>h⟩
  have hz3:zs.length<=4:=Nat.le_trans hz1 hl2;have hok:xW x (.tup (prs kvs ((iV (zs.map λc=>[c])).map D.str))):=by
   obtain⟨ps,e1,e2,e3⟩:=Dl hx _ (DK hk);have hl:ps.length=zs.length:=by rw[e2,List.length_map,(iw _).length_eq,List.length_map]
   rw[e1];have:=hz2 hl1;exact .chg (by omega) (by omega) e3
  refine⟨_,n',iW (env:=[Zl [.int n'],Zs x,Zt (.dct kvs),v3,v4,v5]) ?_ rfl,hok⟩;unfold iG.jh;refine(aB (e:=[Zl [.int (n / 5)],Zs x,Zn,Zn,Zn,Zn]) ((dW t).trans rfl)).trans ?_;refine(aB (e:=[Zl [.int (n / 5)],Zs x,Zt (.dct []),Zn,Zn,Zn]) rfl).trans ?_;refine(aB (e:=[Zl [.int n'],Zs x,Zt (.dct kvs),v3,v4,v5]) ?_).trans ?_
  ·refine(fX (ds:=ds) (e:=[Zl [.int (n / 5 / 3)],Zs x,Zt (.dct []),Zn,Zn,Zn]) ?_).trans f1;have a1:aa (aH cB (Zi 1) (dC iG.aX 0 (aa (Zi 3) ak))) ak [Zl [.int (n / 5)],Zs x,Zt (.dct []),Zn,Zn,Zn] = .ok [.int (1+n / 5 % 3)] [Zl [.int (n / 5 / 3)],Zs x,Zt (.dct []),Zn,Zn,Zn]:=by rfl
   unfold iK;rw[a1];show dX (Aq [.int (1+n / 5 % ((3:Nat):Int))]) _=_;rw[ej,hds]
   rfl
  ·exact Ea (Lr hk hz3) _ _ _ _ _
theorem rule(n:Int)(x:List Nat)(hx:x∈XS):∃w ch l r n',iG.iB [.lst [.int n],.str x]=some (.tup [w,ch,l,r],.lst [.int n'])/\kI x w ch l r:=by
 obtain⟨d,hd,e⟩:=dig n 2 (by decide);obtain⟨w,hw,h1⟩:∃w,(w = .str [111,110,99,101]\/w = .str [97,108,111,110,103])/\bY (.lst [.str [111,110,99,101],.str [97,108,111,110,103]]) (.int (d:Int))=some w:=by
  have hc:d=0\/d=1:=by omega
  rcases hc with rfl|rfl
  ·exact⟨_,.inl rfl,rfl⟩
  ·exact⟨_,.inr rfl,rfl⟩
 obtain⟨ch,n1,h2,h3⟩:=changes (n / 2) x hx;obtain⟨l,n2,h5,h6⟩:=iG.signs n1 x hx;obtain⟨r,n3,h7,h8⟩:=iG.signs n2 x hx;refine⟨w,ch,l,r,n3,iW (env:=[Zl [.int n3],Zs x,Zf w,Zf ch]) ?_ rfl,⟨hw,h3,h6,h8⟩⟩;unfold iG.pq;refine(aB (e:=[Zl [.int (n / 2)],Zs x,Zf w,Zn]) ?_).trans ?_
 ·refine bh (d:=w) (e:=[Zl [.int (n / 2)],Zs x,Zn,Zn]) ?_ rfl;refine bL (x:=.lst [.str [111,110,99,101],.str [97,108,111,110,103]]) (y:=.int (n % 2)) (e1:=[Zl [.int n],Zs x,Zn,Zn]) rfl rfl ?_;have e2:n % 2=(d:Int):=e;rw[e2];exact h1
 refine(aB (e:=[Zl [.int n1],Zs x,Zf w,Zf ch]) ?_).trans ?_
 ·exact bh (d:=ch) (e:=[Zl [.int n1],Zs x,Zf w,Zn]) (gf (x:=.lst [.int (n / 2)]) (x0:=.lst [.int (n / 2)]) (ds:=[.str x]) (e1:=[Zl [.int (n / 2)],Zs x,Zf w,Zn]) rfl rfl rfl h2) rfl
 ·refine cD (dO (ds:=[w,ch,l,r]) (aK (d:=w) (e1:=[Zl [.int n1],Zs x,Zf w,Zf ch]) rfl (aK (d:=ch) (e1:=[Zl [.int n1],Zs x,Zf w,Zf ch]) rfl (aK (d:=l) (e1:=[Zl [.int n2],Zs x,Zf w,Zf ch]) ?_ (aK (d:=r) (e1:=[Zl [.int n3],Zs x,Zf w,Zf ch]) ?_ bK)))) (by show 4<=sizeLine;decide))
  ·exact gf (x:=.lst [.int n1]) (x0:=.lst [.int n1]) (ds:=[.str x]) (e1:=[Zl [.int n1],Zs x,Zf w,Zf ch]) rfl rfl rfl h5
  ·exact gf (x:=.lst [.int n2]) (x0:=.lst [.int n2]) (ds:=[.str x]) (e1:=[Zl [.int n2],Zs x,Zf w,Zf ch]) rfl rfl rfl h7
open jV (XS sides kI gV fit dh)
theorem Hh{a:cV}{env e:Ev.Env}{x y:List D}(h:a env = .ok [.tup x,.tup y] e):wZ a env = .ok (tU x y) e:=by unfold wZ;rw[h];rfl
structure Hy(x:List Nat)(s:D)(Rs:List D)(ss:List St):Prop where
 hx:x∈XS
 hs:s∈sides
 hR:∀R∈Rs,cT x R
 h4:Rs.length<=4
 hl:ss.length=Rs.length
 hS:∀t∈ss,jq x t
theorem acZ{n m:Nat}(h:n<=4)(hm:m<=7):(m+2)*2^n<=150:=by have h1:2^n<=2^4:=Nat.pow_le_pow_right (by decide) h;have h2:(m+2)*2^n<=9*2^4:=Nat.mul_le_mul (by omega) h1;omega
end fG
namespace Kc
open Ev PySem L2
open iG (SG cZ)
open jV (XS sides kI gV fit dh wN look jz cM encC sg ed nw fH cg out inn pc pin)
open Kd (cT cF fin)
open fG (Rl stp rd qd qU vQ Is Sg eE qb wR Oo fss lay tn lf xJ VR aU jq Hy rt)
open K10 (J gP XQ)
section
variable{l r:D}{c:Nat}{kvs:List (D×D)}
theorem Qi:∀(w:List Nat) (p:Nat) (h:List Nat) (q:Nat),(rd (.put c l r) (fit l p,h) (w++[q])).2=h++J (gP l r c) p w q
 | [],p,h,q=>by
  show(rd (.put c l r) (fit l p,h) [q]).2=_;rw[vQ]
  rfl
 | a::t,p,h,q=>by
  show(stp (.put c l r) (fit l p,h) a).2++(rd (.put c l r) (fit l a,[a]) (t++[q])).2=h++(gP l r c p a++a::J (gP l r c) a t q);rw[Qi t a [a] q];show(h++gP l r c p a)++([a]++_)=_;simp
theorem adS(w:List Nat)(near n:Nat):xJ kvs (sg w (n+1)) (fit l near&&fit r (sg w (n+2)))=nw kvs l r w near n:=by
 unfold xJ nw;cases look kvs (sg w (n+1)) with
 | none=>
  simp
 | some t=>
  cases fit l near&&fit r (sg w (n+2))<;>rfl
theorem Ks(w:List Nat){n:Nat}(h:n<(w++[35]).length):(w++[35]).take (n+1)=(w++[35]).take n++[sg w (n+1)]:=by
 have e:sg w (n+1)=(w++[35])[n]:=by
  show(w++[35]).getD n 0=_;rw[List.getD_eq_getElem?_getD,List.getElem?_eq_getElem h]
  rfl
 rw[e,List.take_succ_eq_append_getElem h]
theorem Qj(al:Bool){x w:List Nat}(hk:wN x kvs)(hw:∀c∈w,c∈x):∀n,n<=w.length->rd (.chg al kvs l r) (fit l 35,[]) ((w++[35]).take (n+1))=((fit l (fH al w (cg al kvs l r w n) n),[sg w (n+1)]),(cg al kvs l r w n).flatten)
 | 0,_=>by
  rw[Ks w (by rw[List.length_append];exact Nat.succ_pos _),List.take_zero,List.nil_append,vQ];show((fit l 35,[sg w 1]),([]:List Nat))=((fit l (fH al w [] 0),[sg w 1]),([]:List (List Nat)).flatten);cases al<;>rfl
 | n+1,h=>by
  have hl:n+1<(w++[35]).length:=by rw[List.length_append,List.length_singleton];omega
  rw[Ks w hl,qU,Qj al hk hw n (by omega)];have hno:=jV.Ru (l:=l) (r:=r) hk hw (n:=n) (by omega) (fH al w (cg al kvs l r w n) n);show((VR al l (sg w (n+1)) (fit l (fH al w (cg al kvs l r w n) n)) (xJ kvs (sg w (n+1)) (fit l (fH al w (cg al kvs l r w n) n)&&fit r (sg w (n+2)))),[sg w (n+2)]),(cg al kvs l r w n).flatten++xJ kvs (sg w (n+1)) (fit l (fH al w (cg al kvs l r w n) n)&&fit r (sg w (n+2))))=((fit l (fH al w (cg al kvs l r w n++[nw kvs l r w (fH al w (cg al kvs l r w n) n) n]) (n+1)),[sg w (n+2)]),(cg al kvs l r w n++[nw kvs l r w (fH al w (cg al kvs l r w n) n) n]).flatten);rw[adS];generalize cg al kvs l r w n=made at *;generalize hN:fH al w made n=near at *;generalize nw kvs l r w near n=t at *;have h2:VR al l (sg w (n+1)) (fit l near) t=fit l (fH al w (made++[t]) (n+1)):=by
   cases al with
   | false=>rfl
   | true=>
    rw[jV.Js made t n hno.1,hN];unfold VR;rw[if_pos rfl];split<;>rfl
  rw[h2,List.flatten_append];simp
end
section
variable{x:List Nat}{R:D}(hx:x∈XS)(hR:cT x R){w:List Nat}(hw:∀c∈w,c∈x)(hn:w.length<=30000)
noncomputable def trd(x:List Nat)(R:D)(w:List Nat):List Nat:=(rd (eE x R) (fit (lf R) 35,[]) (w++[35])).2
include hx hR hw hn
end
def fQ(s:D)(w:List Nat):List Nat:=if rt s=true then w.reverse else w
theorem o7(s:D)(w:List Nat):fQ s (fQ s w)=w:=by
 unfold fQ;split
 ·rw[List.reverse_reverse]
 ·rfl
end Kc
namespace Uh
open Ev PySem L2
open iG (SG)
open jV (XS sides gV fit)
open Kd (cT fin)
open fG (aU Hy jq wR Oo fss lay tn lf rt uo um yc)
open Kc (fQ o7)
def qS(ss:List fG.St):NK:=.tup (ss.map λs=>.tup [.num (if s.1 then 1 else 0),.txt (strOf s.2)])
theorem Je:∀(ss tt:List fG.St),(ss.map λs=>NK.tup [.num (if s.1 then 1 else 0),.txt (strOf s.2)])=(tt.map λs=>NK.tup [.num (if s.1 then 1 else 0),.txt (strOf s.2)])->ss=tt
 | [],[],_=>rfl
 | [],_::_,h=>by cases h
 | _::_,[],h=>by cases h
 | (b,z)::ss,(c,y)::tt,h=>by
  rw[List.map_cons,List.map_cons] at h;obtain⟨h1,h2⟩:=List.cons.inj h;have h3:=NK.tup.inj h1;obtain⟨h4,h5⟩:=List.cons.inj h3;obtain⟨h6,_⟩:=List.cons.inj h5;have h7:z=y:=SX.qR (NK.txt.inj h6);have h8:=NK.num.inj h4;simp only at h8;have h9:b=c:=by cases b<;>cases c<;>first|rfl|(simp at h8)
  rw[h9,h7,Je ss tt h2]
theorem Qv{ss tt:List fG.St}(h:qS ss=qS tt):ss=tt:=Je ss tt (NK.tup.inj h)
theorem uN{i:Nat}{k a:Ev}{env e1 e2:Ev.Env}{d kd z:D}{o:Bool}{q:NK}{kvs:List (D×D)}(h1:a env = .ok d e1)(h0:e1[i]? = some (some (o,z)))(h2:k e1 = .ok kd e2)(h3:e2[i]? = some (Zt (.gR kvs)))(h4:Gy kd=some q)(h5:kvs.length<sizeLine):ou i k a env = .nx (e2.set i (Zt (.gR (rE kvs kd q d)))):=by unfold ou;simp only[h1,dD,h0,h2,h3,h4,if_pos h5]
end Uh
namespace KB
section
variable{P:Type}(L:P->Nat->P)(S:P->Bool)(x:List Nat)(p0:P)
def pl(w:List Nat):P:=w.foldl L p0
theorem kY(w:List Nat)(a:Nat):pl L p0 (w++[a])=L (pl L p0 w) a:=by unfold pl;rw[List.foldl_append];rfl
structure Ew(n:Nat)(ps:List P)(ws:List (List Nat)):Prop where
 len:ws.length=ps.length
 nd:ps.Nodup
 z0:ps[0]? = some p0
 w0:ws[0]? = some []
 plo:∀(i:Nat) p w,ps[i]? = some p->ws[i]? = some w->pl L p0 w=p/\(∀a∈w,a∈x)/\w.length<=i
 sf:∀p∈ps,S p=false
 mono:∀(i j:Nat) v w,i<=j->ws[i]? = some v->ws[j]? = some w->v.length<=w.length
 clo:∀(i:Nat) p w a,i<n->ps[i]? = some p->ws[i]? = some w->a∈x->∃(j:Nat) (v:List Nat),ps[j]? = some (L p a)/\ws[j]? = some v/\v.length<=w.length+1
 last:∀w,ws[n]? = some w->∀(j:Nat) v,ws[j]? = some v->v.length<=w.length+1
variable{L S x p0}
theorem jc{α:Type}{l:List α}{a b:α}{i:Nat}(h:(l++[a])[i]? = some b):l[i]? = some b\/(i=l.length/\b=a):=by
 by_cases hi:i<l.length
 ·rw[List.getElem?_append_left hi] at h;exact .inl h
 ·rw[List.getElem?_append_right (by omega)] at h;have:i - l.length=0:=by
   have:=(List.getElem?_eq_some_iff.mp h).1;rw[List.length_singleton] at this;omega
  rw[this] at h;cases h;exact .inr ⟨by omega,rfl⟩
theorem mK{α:Type}{l:List α}{a b:α}{i:Nat}(h:l[i]? = some b):(l++[a])[i]? = some b:=by rw[List.getElem?_append_left (List.getElem?_eq_some_iff.mp h).1];exact h
theorem Ld{α:Type}{l:List α}{a:α}:(l++[a])[l.length]? = some a:=by rw[List.getElem?_append_right (Nat.le_refl _),Nat.sub_self];rfl
theorem Ew.start(h:S p0=false):Ew L S x p0 0 [p0] [[]]:=by
 have one:∀{α:Type} {a b:α} {i:Nat},[a][i]? = some b->i=0/\b=a:=λ{α a b i} h=>by
  cases i with
  | zero=>cases h;exact⟨rfl,rfl⟩
  | succ i=>simp at h
 refine⟨rfl,List.nodup_cons.mpr ⟨by simp,.nil⟩,rfl,rfl,λi p w h1 h2=>?_,λp hp=>?_,λi j v w _ h1 h2=>?_,λi p w a hi=>absurd hi (Nat.not_lt_zero _),λw h1 j v h2=>?_⟩
 ·obtain⟨rfl,rfl⟩:=one h1;obtain⟨_,rfl⟩:=one h2;exact⟨rfl,λa ha=>by simp at ha,Nat.le_refl _⟩
 ·rw[List.mem_singleton.mp hp];exact h
 ·obtain⟨_,rfl⟩:=one h1;exact Nat.zero_le _
 ·obtain⟨_,rfl⟩:=one h2;exact Nat.zero_le _
theorem Ew.add{n:Nat}{ps:List P}{ws:List (List Nat)}(B:Ew L S x p0 n ps ws){p:P}{w:List Nat}(hp:ps[n]? = some p)(hw:ws[n]? = some w){a:Nat}(ha:a∈x)(hn:L p a ∉ ps)(hs:S (L p a)=false) :
  Ew L S x p0 n (ps++[L p a]) (ws++[w++[a]]):=by
 have hn1:n<ps.length:=(List.getElem?_eq_some_iff.mp hp).1;obtain⟨q1,q2,q3⟩:=B.plo n p w hp hw;refine⟨by rw[List.length_append,List.length_append,B.len];rfl,?_,mK B.z0,mK B.w0,λi q v h1 h2=>?_,λq hq=>?_,λi j v u hij h1 h2=>?_,λi q v b hi h1 h2 hb=>?_,λv h1 j u h2=>?_⟩
 ·rw[List.nodup_append];refine⟨B.nd,List.nodup_cons.mpr ⟨by simp,.nil⟩,λy hy z hz e=>?_⟩;rw[List.mem_singleton.mp hz] at e;exact hn (e ▸ hy)
 ·rcases jc h1 with h1|⟨e1,e2⟩
  ·rcases jc h2 with h2|⟨e1,e2⟩
   ·exact B.plo i q v h1 h2
   ·have:=(List.getElem?_eq_some_iff.mp h1).1;rw[B.len] at e1;omega
  ·rcases jc h2 with h2|⟨_,e3⟩
   ·have:=(List.getElem?_eq_some_iff.mp h2).1;rw[B.len] at this;omega
   ·subst e2 e3;refine⟨by rw[kY,q1],λb hb=>?_,by rw[List.length_append,List.length_singleton];omega⟩;rcases List.mem_append.mp hb with hb|hb
    ·exact q2 b hb
    ·rw[List.mem_singleton.mp hb];exact ha
 ·rcases List.mem_append.mp hq with hq|hq
  ·exact B.sf q hq
  ·rw[List.mem_singleton.mp hq];exact hs
 ·rcases jc h1 with h1|⟨e1,e2⟩
  ·rcases jc h2 with h2|⟨e3,e4⟩
   ·exact B.mono i j v u hij h1 h2
   ·subst e4;rw[List.length_append,List.length_singleton];exact B.last w hw i v h1
  ·rcases jc h2 with h2|⟨e3,e4⟩
   ·have:=(List.getElem?_eq_some_iff.mp h2).1;omega
   ·subst e2 e4;exact Nat.le_refl _
 ·have hi1:i<ps.length:=by omega
  rcases jc h1 with h1|⟨e1,_⟩
  ·rcases jc h2 with h2|⟨e1,_⟩
   ·obtain⟨j,u,g1,g2,g3⟩:=B.clo i q v b hi h1 h2 hb;exact⟨j,u,mK g1,mK g2,g3⟩
   ·rw[B.len] at e1;omega
  ·omega
 ·have h1':ws[n]? = some v:=by
   rcases jc h1 with h1|⟨e1,_⟩
   ·exact h1
   ·rw[B.len] at e1;omega
  rw[hw] at h1';cases h1';rcases jc h2 with h2|⟨_,e4⟩
  ·exact B.last w hw j u h2
  ·subst e4;rw[List.length_append];exact Nat.le_refl _
theorem Ew.next{n:Nat}{ps:List P}{ws:List (List Nat)}(B:Ew L S x p0 n ps ws){p:P}{w:List Nat}(hp:ps[n]? = some p)(hw:ws[n]? = some w)
  (hc:∀a∈x,∃(j:Nat) (v:List Nat),ps[j]? = some (L p a)/\ws[j]? = some v/\v.length<=w.length+1):Ew L S x p0 (n+1) ps ws:=by
 refine⟨B.len,B.nd,B.z0,B.w0,B.plo,B.sf,B.mono,λi q v a hi h1 h2 ha=>?_,λu hu j v hv=>?_⟩
 ·by_cases hin:i=n
  ·subst hin;rw[hp] at h1;cases h1;rw[hw] at h2;cases h2;exact hc a ha
  ·exact B.clo i q v a (by omega) h1 h2 ha
 ·have h1:=B.last w hw j v hv;have h2:=B.mono n (n+1) w u (by omega) hw hu;omega
theorem Ew.found{n:Nat}{ps:List P}{ws:List (List Nat)}(B:Ew L S x p0 n ps ws){w:List Nat}(hw:ws[n]? = some w) :
  ∀(m:Nat) (v:List Nat),v.length=m->(∀a∈v,a∈x)->v.length<=w.length->∃(j:Nat) (u:List Nat),ps[j]? = some (pl L p0 v)/\ws[j]? = some u/\u.length<=v.length:=by
 intro m
 induction m with
 | zero=>
  intro v hv _ _;have:v=[]:=List.length_eq_zero_iff.mp hv;subst this;exact⟨0,[],B.z0,B.w0,Nat.le_refl _⟩
 | succ m ih=>
  intro v hv hx hl;rcases List.eq_nil_or_concat v with rfl|⟨v',a,rfl⟩
  ·simp at hv
  ·rw[List.concat_eq_append] at *;rw[List.length_append,List.length_singleton] at hv hl;obtain⟨i,u,g1,g2,g3⟩:=ih v' (by omega) (λb hb=>hx b (List.mem_append_left _ hb)) (by omega);have hin:i<n:=by
    by_cases h:i<n
    ·exact h
    ·have:=B.mono n i w u (by omega) hw g2;omega
   obtain⟨j,t,k1,k2,k3⟩:=B.clo i _ u a hin g1 g2 (hx a (List.mem_append_right _ (List.mem_singleton.mpr rfl)));exact⟨j,t,by rw[kY];exact k1,k2,by rw[List.length_append,List.length_singleton];omega⟩
theorem Ew.least{n:Nat}{ps:List P}{ws:List (List Nat)}(B:Ew L S x p0 n ps ws){w:List Nat}(hw:ws[n]? = some w)(v:List Nat)(hx:∀a∈v,a∈x)(hl:v.length<w.length+1):S (pl L p0 v)=false:=by obtain⟨j,u,g1,_⟩:=B.found hw v.length v rfl hx (by omega);exact B.sf _ (List.mem_of_getElem? g1)
theorem Ew.none{n:Nat}{ps:List P}{ws:List (List Nat)}(B:Ew L S x p0 n ps ws)(hn:ps.length<=n):∀(m:Nat) (v:List Nat),v.length=m->(∀a∈v,a∈x)->pl L p0 v∈ps:=by
 intro m
 induction m with
 | zero=>
  intro v hv _;have:v=[]:=List.length_eq_zero_iff.mp hv;subst this;exact List.mem_of_getElem? B.z0
 | succ m ih=>
  intro v hv hx;rcases List.eq_nil_or_concat v with rfl|⟨v',a,rfl⟩
  ·simp at hv
  ·rw[List.concat_eq_append] at *;rw[List.length_append,List.length_singleton] at hv;obtain⟨i,hi⟩:=List.mem_iff_getElem?.mp (ih v' (by omega) λb hb=>hx b (List.mem_append_left _ hb));have hil:i<ps.length:=(List.getElem?_eq_some_iff.mp hi).1;have aij:i<ws.length:=by rw[B.len];exact hil
   have hw:ws[i]? = some ws[i]:=List.getElem?_eq_getElem aij;obtain⟨j,t,k1,_⟩:=B.clo i _ _ a (by omega) hi hw (hx a (List.mem_append_right _ (List.mem_singleton.mpr rfl)));rw[kY];exact List.mem_of_getElem? k1
theorem qi{α:Type}[DecidableEq α]:∀(U ps:List α),ps.Nodup->(∀p∈ps,p∈U)->ps.length<=U.length
 | U,[],_,_=>Nat.zero_le _
 | U,p::ps,hn,hs=>by
  have hp:=hs p (List.mem_cons_self ..);have h:=qi (U.erase p) ps (List.nodup_cons.mp hn).2 λq hq=>by
   have hne:q≠p:=λe=>(List.nodup_cons.mp hn).1 (e ▸ hq);exact(List.mem_erase_of_ne hne).mpr (hs q (List.mem_cons_of_mem _ hq))
  have h2:=List.length_erase_of_mem hp;have h3:0<U.length:=List.length_pos_of_mem hp;rw[List.length_cons];omega
end
open Ev PySem L2
open iG (cZ)
open jV (sides)
open fG (rt)
open Kc (fQ)
open Uh (uN)
section
def jC:bW:=pO.jC
def gA:LD:=cQ 2 jC
def lb(Φ:Stmt->List D->LD):bW:=aC (aJ (kW Φ 3 (aa (ao bY 5 (bf 8)) (Zv 9 ak))) (aj 10)) (aC (cY (jX (cP (ao NP 10 (jg .non))) (cP (ao JP 10 (bf 7)))) ((λenv=>.ct env)) bN) (aC (cY (cP (kW Φ 4 (Zv 10 ak))) (bA (au gA (Zv 1 (aa (aH cB (ao bY 6 (bf 8)) (bf 9)) ak)))) bN) (aC (ou 7 (aP 10) (jg (.bl true))) (aC (gG 5 (aP 10)) (gG 6 (aH cB (ao bY 6 (bf 8)) (bf 9)))))))
def wb(so:LD)(Φ:Stmt->List D->LD):bW:=aC (fY (ik (au so (Zv 0 ak))) (aj 9) (lb Φ)) (Ft 8 (Zi 1))
def dM(so:LD)(Φ:Stmt->List D->LD):bW:=aC (cY (cP (kW Φ 4 (Zv 2 ak))) (bA (Zw [])) bN) (aC (dq 5 (cC (Zv 2 ak))) (aC (dq 6 (cC (aa (Zw []) ak))) (aC (dq 7 (o5 (aP 2) (jg (.bl true)))) (aC (aJ (Zi 0) (aj 8)) (aC (dU (cP (ao Ud 8 (au gU (aa (bf 5) ak)))) (wb so Φ) 7000) (bA (jg .non)))))))
end
theorem zF{Φ:Stmt->List D->LD}{i:Nat}{a:cV}{env e1:Ev.Env}{st:Stmt}{jE ds:List D}{d:D}(h0:env[i]? = some (Zf (.clo st jE)))(h1:a env = .ok ds e1)(h2:Φ st jE ds=some d):kW Φ i a env = .ok d e1:=by
 unfold kW;rw[h0];show bindR (a env) _=_;rw[h1];show dX (Φ st jE ds) e1=_;rw[h2]
 rfl
theorem Pj{a b:bW}{env e:Ev.Env}(h:a env = .ct e):aC a b env = .ct e:=by unfold aC;rw[h]
theorem XR{a b:List Nat}(h:a.length+b.length<=sizeLine):cB (.str a) (.str b)=some (.str (a++b)):=by unfold cB;exact if_pos h
theorem stands{side:D}(hs:side∈sides)(w:List Nat):gA [side,.str w]=some (.str (fQ side w)):=by simp only[sides,List.mem_cons,List.not_mem_nil,or_false] at hs;rcases hs with rfl|rfl<;>rfl
section
variable{P:Type}[DecidableEq P]{Φ:Stmt->List D->LD}{sl ss:Stmt}{cl cs:List D}{x:List Nat}{eF side:D}{so:LD}{en:P->D}{key:P->NK}{L:P->Nat->P}{S:P->Bool}{Ok:P->Prop}{U:List P}{p0:P}
structure Gives(Φ:Stmt->List D->LD)(sl ss:Stmt)(cl cs:List D)(x:List Nat)(en:P->D)(key:P->NK)(L:P->Nat->P)(S:P->Bool)(Ok:P->Prop)(U:List P):Prop where
 lead:∀p a,Ok p->a∈x->Φ sl cl [en p,.str [a]]=some (en (L p a))/\Ok (L p a)
 shows:∀p,Ok p->Φ ss cs [en p]=some (.bl (S p))
 nk:∀p,Gy (en p)=some (key p)
 inj:∀p q,key p=key q->p=q
 all:∀p,Ok p->p∈U
 few:U.length<=6998
def kn(en:P->D)(ps:List P):List (D×D):=ps.map λp=>(en p,.bl true)
variable(G:Gives Φ sl ss cl cs x en key L S Ok U)
include G
theorem RK(ps:List P)(q:P):(kJ (kn en ps) (key q)).isSome=decide (q∈ps):=by
 unfold kJ kn;rw[Option.isSome_map];by_cases h:q∈ps
 ·rw[decide_eq_true h,List.find?_isSome];exact⟨(en q,.bl true),List.mem_map.mpr ⟨q,h,rfl⟩,by simp only[(qj (G.nk q)).1,decide_true]⟩
 ·rw[decide_eq_false h];cases e:List.find? (λp=>decide (tR p.1=some (key q))) (ps.map λp=>(en p,D.bl true)) with
  | none=>rfl
  | some r=>
   have h1:=List.find?_some e;have h2:=List.mem_of_find?_eq_some e;obtain⟨p,hp,rfl⟩:=List.mem_map.mp h2;have h3:tR (en p)=some (key q):=of_decide_eq_true h1;rw[(qj (G.nk p)).1] at h3;cases G.inj p q (Option.some.inj h3);exact absurd hp h
theorem aaS(ps:List P)(q:P)(h:q ∉ ps):rE (kn en ps) (en q) (key q) (.bl true)=kn en (ps++[q]):=by unfold rE;rw[RK G,decide_eq_false h];simp[kn]
omit G [DecidableEq P] in
abbrev En(sl ss:Stmt)(cl cs:List D)(en:P->D)(eF side:D)(f:P)(ps:List P)(ws:List (List Nat))(n:Nat)(a9 a10:OD):Ev.Env:=
 [Zf eF,Zf side,Zf (en f),Zf (.clo sl cl),Zf (.clo ss cs),Zl (ps.map en),Zl (ws.map .str),(Zt (.gR (kn en ps))),(Zf (.int (n:Int))),a9,a10]
theorem vW(zr:side∈sides){n:Nat}{ps:List P}{ws:List (List Nat)}(B:Ew L S x p0 n ps ws)(hok:∀p∈ps,Ok p){p:P}{w:List Nat}(hp:ps[n]? = some p)(hw:ws[n]? = some w){a:Nat}(ha:a∈x)(f:P)(a10:OD) :
  (L p a∈ps/\lb Φ (En sl ss cl cs en eF side f ps ws n (Zs [a]) a10) = .ct (En sl ss cl cs en eF side f ps ws n (Zs [a]) (Zf (en (L p a)))))\/
  (L p a ∉ ps/\S (L p a)=true/\∃e,lb Φ (En sl ss cl cs en eF side f ps ws n (Zs [a]) a10) = .rt false (.str (fQ side (w++[a]))) e)\/
  (L p a ∉ ps/\S (L p a)=false/\lb Φ (En sl ss cl cs en eF side f ps ws n (Zs [a]) a10) = .nx (En sl ss cl cs en eF side f (ps++[L p a]) (ws++[w++[a]]) n (Zs [a]) (Zf (en (L p a))))):=by
 have hn1:n<ps.length:=(List.getElem?_eq_some_iff.mp hp).1;obtain⟨g1,g2⟩:=G.lead p a (hok p (List.mem_of_getElem? hp)) ha;have hlen:ps.length<=6998:=Nat.le_trans (qi U ps B.nd λq hq=>G.all q (hok q hq)) G.few;obtain⟨_,_,hwl⟩:=B.plo n p w hp hw;generalize hq:L p a=q at *;have s1:aJ (kW Φ 3 (aa (ao bY 5 (bf 8)) (Zv 9 ak))) (aj 10) (En sl ss cl cs en eF side f ps ws n (Zs [a]) a10) = .nx (En sl ss cl cs en eF side f ps ws n (Zs [a]) (Zf (en q))):=by refine bh (e:=En sl ss cl cs en eF side f ps ws n (Zs [a]) a10) (d:=en q) (zF (st:=sl) (jE:=cl) (ds:=[en p,.str [a]]) rfl ?_ g1) rfl;refine aK (e1:=En sl ss cl cs en eF side f ps ws n (Zs [a]) a10) ?_ (aK (e1:=En sl ss cl cs en eF side f ps ws n (Zs [a]) a10) rfl bK);refine bF (o:=true) (o':=true) (x:=.lst (ps.map en)) (x0:=.lst (ps.map en)) (y:=.int (n:Int)) rfl rfl rfl (iJ ?_);rw[List.getElem?_map,hp];rfl
 have is0:NP (en q) .non=some (.bl false):=by obtain⟨_,_,xs,e⟩:=qj (G.nk q);rw[e];rfl
 have in0:JP (en q) (.gR (kn en ps))=some (.bl (decide (q∈ps))):=by show(Gy (en q)).map _=_;rw[G.nk q];show some (D.bl (kJ (kn en ps) (key q)).isSome)=_;rw[RK G]
 have t1:jX (cP (ao NP 10 (jg .non))) (cP (ao JP 10 (bf 7))) (En sl ss cl cs en eF side f ps ws n (Zs [a]) (Zf (en q))) = .ok (decide (q∈ps)) (En sl ss cl cs en eF side f ps ws n (Zs [a]) (Zf (en q))):=by refine(yo (e:=En sl ss cl cs en eF side f ps ws n (Zs [a]) (Zf (en q))) (gk (bF (o:=false) (o':=false) (x:=en q) (x0:=en q) (y:=.non) rfl rfl rfl is0))).trans ?_;exact gk (bF (o:=false) (o':=false) (x:=en q) (x0:=en q) (y:=.gR (kn en ps)) rfl rfl rfl in0)
 have wa:aH cB (ao bY 6 (bf 8)) (bf 9) (En sl ss cl cs en eF side f ps ws n (Zs [a]) (Zf (en q))) = .ok (.str (w++[a])) (En sl ss cl cs en eF side f ps ws n (Zs [a]) (Zf (en q))):=by
  refine bL (x:=.str w) (y:=.str [a]) (e1:=En sl ss cl cs en eF side f ps ws n (Zs [a]) (Zf (en q))) ?_ rfl (XR ?_)
  ·refine bF (o:=true) (o':=true) (x:=.lst (ws.map .str)) (x0:=.lst (ws.map .str)) (y:=.int (n:Int)) rfl rfl rfl (iJ ?_);rw[List.getElem?_map,hw];rfl
  ·exact Nat.le_trans (show w.length+1<=7000 by omega) (by decide)
 unfold lb;rw[aB s1];by_cases hm:q∈ps
 ·rw[decide_eq_true hm] at t1;exact .inl ⟨hm,Pj (eQ t1)⟩
 ·rw[decide_eq_false hm] at t1;have u1:cY (jX (cP (ao NP 10 (jg .non))) (cP (ao JP 10 (bf 7)))) (λenv=>.ct env) bN (En sl ss cl cs en eF side f ps ws n (Zs [a]) (Zf (en q))) = .nx (En sl ss cl cs en eF side f ps ws n (Zs [a]) (Zf (en q))):=dW t1;rw[aB u1];have t2:cP (kW Φ 4 (Zv 10 ak)) (En sl ss cl cs en eF side f ps ws n (Zs [a]) (Zf (en q))) = .ok (S q) (En sl ss cl cs en eF side f ps ws n (Zs [a]) (Zf (en q))):=
   gk (zF (st:=ss) (jE:=cs) (ds:=[en q]) rfl (aK (e1:=En sl ss cl cs en eF side f ps ws n (Zs [a]) (Zf (en q))) rfl bK) (G.shows q g2))
  cases hs:S q with
  | true=>
   rw[hs] at t2;refine .inr (.inl ⟨hm,rfl,En sl ss cl cs en eF side f ps ws n (Zs [a]) (Zf (en q)),eY ((eQ t2).trans (cD (aO (ds:=[side,.str (w++[a])]) (aK (e1:=En sl ss cl cs en eF side f ps ws n (Zs [a]) (Zf (en q))) rfl (aK wa bK)) (stands zr _))))⟩)
  | false=>
   rw[hs] at t2;refine .inr (.inr ⟨hm,rfl,?_⟩);have u2:cY (cP (kW Φ 4 (Zv 10 ak))) (bA (au gA (Zv 1 (aa (aH cB (ao bY 6 (bf 8)) (bf 9)) ak)))) bN (En sl ss cl cs en eF side f ps ws n (Zs [a]) (Zf (en q))) = .nx (En sl ss cl cs en eF side f ps ws n (Zs [a]) (Zf (en q))):=dW t2;rw[aB u2];have s4:=uN (i:=7) (k:=aP 10) (a:=jg (.bl true)) (env:=En sl ss cl cs en eF side f ps ws n (Zs [a]) (Zf (en q))) (e1:=En sl ss cl cs en eF side f ps ws n (Zs [a]) (Zf (en q))) (e2:=En sl ss cl cs en eF side f ps ws n (Zs [a]) (Zf (en q))) (d:=.bl true) (kd:=en q) (z:=.gR (kn en ps)) (o:=true) (q:=key q) (kvs:=kn en ps) rfl rfl rfl rfl (G.nk q)
    (by rw[kn,List.length_map];exact Nat.lt_of_le_of_lt hlen (by decide))
   rw[aaS G ps q hm] at s4;rw[aB s4];refine(aB (cZ (i:=5) (x0:=ps.map en) (xs:=ps.map en) (d:=en q) (e:=[Zf eF,Zf side,Zf (en f),Zf (.clo sl cl),Zf (.clo ss cs),Zl (ps.map en),Zl (ws.map .str),(Zt (.gR (kn en (ps++[q])))),(Zf (.int (n:Int))),Zs [a],Zf (en q)]) rfl rfl rfl (by rw[List.length_map];exact Nat.lt_of_le_of_lt hlen (by decide)))).trans ?_;have e5:ps.map en++[en q]=(ps++[q]).map en:=by rw[List.map_append];rfl
   have e6:ws.map D.str++[.str (w++[a])]=(ws++[w++[a]]).map D.str:=by rw[List.map_append];rfl
   have wa2:aH cB (ao bY 6 (bf 8)) (bf 9) [Zf eF,Zf side,Zf (en f),Zf (.clo sl cl),Zf (.clo ss cs),Zl (ps.map en++[en q]),Zl (ws.map .str),(Zt (.gR (kn en (ps++[q])))),(Zf (.int (n:Int))),Zs [a],Zf (en q)] = .ok (.str (w++[a])) [Zf eF,Zf side,Zf (en f),Zf (.clo sl cl),Zf (.clo ss cs),Zl (ps.map en++[en q]),Zl (ws.map .str),(Zt (.gR (kn en (ps++[q])))),(Zf (.int (n:Int))),Zs [a],Zf (en q)]:=by
    refine bL (x:=.str w) (y:=.str [a]) (e1:=[Zf eF,Zf side,Zf (en f),Zf (.clo sl cl),Zf (.clo ss cs),Zl (ps.map en++[en q]),Zl (ws.map .str),(Zt (.gR (kn en (ps++[q])))),(Zf (.int (n:Int))),Zs [a],Zf (en q)]) ?_ rfl (XR ?_)
    ·refine bF (o:=true) (o':=true) (x:=.lst (ws.map .str)) (x0:=.lst (ws.map .str)) (y:=.int (n:Int)) rfl rfl rfl (iJ ?_);rw[List.getElem?_map,hw];rfl
    ·exact Nat.le_trans (show w.length+1<=7000 by omega) (by decide)
   refine(cZ (i:=6) (x0:=ws.map .str) (xs:=ws.map .str) (d:=.str (w++[a])) (e:=[Zf eF,Zf side,Zf (en f),Zf (.clo sl cl),Zf (.clo ss cs),Zl (ps.map en++[en q]),Zl (ws.map .str),(Zt (.gR (kn en (ps++[q])))),(Zf (.int (n:Int))),Zs [a],Zf (en q)]) rfl wa2 rfl (by rw[List.length_map,B.len];exact Nat.lt_of_le_of_lt hlen (by decide))).trans ?_;rw[e5,e6]
   rfl
end
section
variable{P:Type}[DecidableEq P]{Φ:Stmt->List D->LD}{sl ss:Stmt}{cl cs:List D}{x:List Nat}{eF side:D}{so:LD}{en:P->D}{key:P->NK}{L:P->Nat->P}{S:P->Bool}{Ok:P->Prop}{U:List P}{p0:P}
variable(G:Gives Φ sl ss cl cs x en key L S Ok U)
def LQ(side:D)(L:P->Nat->P)(S:P->Bool)(x:List Nat)(p0:P)(r:D):Prop:=∃w,r = .str (fQ side w)/\(∀a∈w,a∈x)/\S (pl L p0 w)=true/\∀v,(∀a∈v,a∈x)->v.length<w.length->S (pl L p0 v)=false
theorem Wh{g:GV}{b:bW}{d:D}{ds:List D}{env e1 e2:Ev.Env}(h1:g d env=some e1)(h2:b e1 = .ct e2):fM g b (d::ds) env=fM g b ds e2:=by
 conv=>lhs;unfold fM
 rw[h1];simp only;rw[h2]
theorem ym{g:GV}{b:bW}{d:D}{ds:List D}{env e1 e2:Ev.Env}(h1:g d env=some e1)(h2:b e1 = .nx e2):fM g b (d::ds) env=fM g b ds e2:=by
 conv=>lhs;unfold fM
 rw[h1];simp only;rw[h2]
theorem Lg{g:GV}{b:bW}{d d':D}{ds:List D}{env e1 e2:Ev.Env}{o:Bool}(h1:g d env=some e1)(h2:b e1 = .rt o d' e2):fM g b (d::ds) env = .rt o d' e2:=by
 conv=>lhs;unfold fM
 rw[h1];simp only;rw[h2]
theorem Xd{t:d8}{b:bW}{m:Nat}{env e1 e2:Ev.Env}(h:t env = .ok true e1)(h2:b e1 = .nx e2):dU t b (m+1) env=dU t b m e2:=by
 conv=>lhs;unfold dU
 rw[h];simp only[dD,if_true];rw[h2]
theorem Xc{t:d8}{b:bW}{m:Nat}{env e1 e2:Ev.Env}{o:Bool}{d:D}(h:t env = .ok true e1)(h2:b e1 = .rt o d e2):dU t b (m+1) env = .rt o d e2:=by
 conv=>lhs;unfold dU
 rw[h];simp only[dD,if_true];rw[h2]
theorem acY{t:d8}{b:bW}{m:Nat}{env e1:Ev.Env}(h:t env = .ok false e1):dU t b (m+1) env = .nx e1:=by
 conv=>lhs;unfold dU
 rw[h];rfl
include G
theorem abF(zr:side∈sides){n:Nat}{p:P}{w:List Nat}(f:P):∀(rest done:List Nat) (ps:List P) (ws:List (List Nat)) (a9 a10:OD),x=done++rest->Ew L S x p0 n ps ws->(∀q∈ps,Ok q)->ps[n]? = some p->ws[n]? = some w->
  (∀a∈done,∃(j:Nat) (v:List Nat),ps[j]? = some (L p a)/\ws[j]? = some v/\v.length<=w.length+1)->
  (∃r e,fM (aj 9) (lb Φ) (rest.map λa=>.str [a]) (En sl ss cl cs en eF side f ps ws n a9 a10) = .rt false r e/\LQ side L S x p0 r)\/
  (∃ps' ws' b9 b10,fM (aj 9) (lb Φ) (rest.map λa=>.str [a]) (En sl ss cl cs en eF side f ps ws n a9 a10) = .nx (En sl ss cl cs en eF side f ps' ws' n b9 b10)/\Ew L S x p0 (n+1) ps' ws'/\(∀q∈ps',Ok q)/\ps'[n]? = some p):=by
 intro rest
 induction rest with
 | nil=>
  intro done ps ws a9 a10 hx B hok hp hw hc;rw[List.append_nil] at hx;exact .inr ⟨ps,ws,a9,a10,rfl,B.next hp hw (by rw[hx];exact hc),hok,hp⟩
 | cons a rest ih=>
  intro done ps ws a9 a10 hx B hok hp hw hc;have ha:a∈x:=by rw[hx];simp
  have hx':x=(done++[a])++rest:=by rw[hx];simp
  have hg:aj 9 (.str [a]) (En sl ss cl cs en eF side f ps ws n a9 a10)=some (En sl ss cl cs en eF side f ps ws n (Zs [a]) a10):=rfl;rw[List.map_cons];rcases vW G (eF:=eF) zr B hok hp hw ha f a10 with ⟨hm,h⟩|⟨hm,hs,e,h⟩|⟨hm,hs,h⟩
  ·rw[Wh hg h];refine ih (done++[a]) ps ws _ _ hx' B hok hp hw λb hb=>?_;rcases List.mem_append.mp hb with hb|hb
   ·exact hc b hb
   ·rw[List.mem_singleton.mp hb];obtain⟨j,hj⟩:=List.mem_iff_getElem?.mp hm;have hj2:j<ws.length:=by rw[B.len];exact(List.getElem?_eq_some_iff.mp hj).1
    have hwj:ws[j]? = some ws[j]:=List.getElem?_eq_getElem hj2;exact⟨j,_,hj,hwj,B.last w hw j _ hwj⟩
  ·rw[Lg hg h];obtain⟨q1,q2,_⟩:=B.plo n p w hp hw;refine .inl ⟨_,_,rfl,w++[a],rfl,λb hb=>?_,by rw[kY,q1];exact hs,λv hv hl=>B.least hw v hv (by rw[List.length_append] at hl;exact hl)⟩;rcases List.mem_append.mp hb with hb|hb
   ·exact q2 b hb
   ·rw[List.mem_singleton.mp hb];exact ha
  ·rw[ym hg h];refine ih (done++[a]) (ps++[L p a]) (ws++[w++[a]]) _ _ hx' (B.add hp hw ha hm hs) (λq hq=>?_) (mK hp) (mK hw) λb hb=>?_
   ·rcases List.mem_append.mp hq with hq|hq
    ·exact hok q hq
    ·rw[List.mem_singleton.mp hq];exact(G.lead p a (hok p (List.mem_of_getElem? hp)) ha).2
   ·rcases List.mem_append.mp hb with hb|hb
    ·obtain⟨j,v,g1,g2,g3⟩:=hc b hb;exact⟨j,v,mK g1,mK g2,g3⟩
    ·rw[List.mem_singleton.mp hb];exact⟨ps.length,w++[a],Ld,by rw[<-B.len];exact Ld,by rw[List.length_append];exact Nat.le_refl _⟩
theorem yC(zr:side∈sides)(hso:so [eF]=some (.tup (x.map λa=>.str [a])))(f:P):∀(m n:Nat) (ps:List P) (ws:List (List Nat)) (a9 a10:OD),n+m=7000->n<=ps.length->Ew L S x p0 n ps ws->(∀q∈ps,Ok q)->
  (∃r e,dU (cP (ao Ud 8 (au gU (aa (bf 5) ak)))) (wb so Φ) m (En sl ss cl cs en eF side f ps ws n a9 a10) = .rt false r e/\LQ side L S x p0 r)\/
  (∃e,dU (cP (ao Ud 8 (au gU (aa (bf 5) ak)))) (wb so Φ) m (En sl ss cl cs en eF side f ps ws n a9 a10) = .nx e/\∀v,(∀a∈v,a∈x)->S (pl L p0 v)=false):=by
 intro m
 induction m with
 | zero=>
  intro n ps ws a9 a10 hm hn B hok;have:=Nat.le_trans (qi U ps B.nd λq hq=>G.all q (hok q hq)) G.few;omega
 | succ m ih=>
  intro n ps ws a9 a10 hm hn B hok;have ht:cP (ao Ud 8 (au gU (aa (bf 5) ak))) (En sl ss cl cs en eF side f ps ws n a9 a10) = .ok (decide (n<ps.length)) (En sl ss cl cs en eF side f ps ws n a9 a10):=by
   refine gk (bF (o:=false) (o':=false) (x:=.int (n:Int)) (x0:=.int (n:Int)) (y:=.int ((ps.map en).length:Int)) rfl rfl rfl ?_);rw[List.length_map];show some (D.bl (decide ((n:Int)<(ps.length:Int))))=_
   congr 2
   simp
  by_cases hlt:n<ps.length
  ·rw[decide_eq_true hlt] at ht;have hp:ps[n]? = some ps[n]:=List.getElem?_eq_getElem hlt;have hlt2:n<ws.length:=by rw[B.len];exact hlt
   have hw:ws[n]? = some ws[n]:=List.getElem?_eq_getElem hlt2;have hit:ik (au so (Zv 0 ak)) (En sl ss cl cs en eF side f ps ws n a9 a10) = .ok (x.map λa=>.str [a]) (En sl ss cl cs en eF side f ps ws n a9 a10):=
    DR (d:=.tup (x.map λa=>.str [a])) (aO (ds:=[eF]) (aK (e1:=En sl ss cl cs en eF side f ps ws n a9 a10) rfl bK) hso) rfl
   rcases abF G (eF:=eF) (w:=ws[n]) zr f x [] ps ws a9 a10 rfl B hok hp hw (λa ha=>by simp at ha) with ⟨r,e,h1,h2⟩|⟨ps',ws',b9,b10,h1,B',hok',hp'⟩
   ·have hb:wb so Φ (En sl ss cl cs en eF side f ps ws n a9 a10) = .rt false r e:=eY ((fX hit).trans h1);exact .inl ⟨r,e,Xc ht hb,h2⟩
   ·have hb:wb so Φ (En sl ss cl cs en eF side f ps ws n a9 a10) = .nx (En sl ss cl cs en eF side f ps' ws' (n+1) b9 b10):=(aB ((fX hit).trans h1)).trans rfl;have hn':n+1<=ps'.length:=(List.getElem?_eq_some_iff.mp hp').1;rw[Xd ht hb];exact ih (n+1) ps' ws' b9 b10 (by omega) hn' B' hok'
  ·rw[decide_eq_false hlt] at ht;exact .inr ⟨_,acY ht,λv hv=>B.sf _ (B.none (by omega) v.length v rfl hv)⟩
theorem sought(zr:side∈sides)(hso:so [eF]=some (.tup (x.map λa=>.str [a])))(h0:Ok p0) :
  ∃r,cQ 11 (dM so Φ) [eF,side,en p0,.clo sl cl,.clo ss cs]=some r/\((r = .non/\∀v,(∀a∈v,a∈x)->S (pl L p0 v)=false)\/LQ side L S x p0 r):=by
 have t0:cP (kW Φ 4 (Zv 2 ak)) [Zf eF,Zf side,Zf (en p0),Zf (.clo sl cl),Zf (.clo ss cs),Zn,Zn,Zn,Zn,Zn,Zn] = .ok (S p0) [Zf eF,Zf side,Zf (en p0),Zf (.clo sl cl),Zf (.clo ss cs),Zn,Zn,Zn,Zn,Zn,Zn]:=
  gk (zF (st:=ss) (jE:=cs) (ds:=[en p0]) rfl (aK (e1:=[Zf eF,Zf side,Zf (en p0),Zf (.clo sl cl),Zf (.clo ss cs),Zn,Zn,Zn,Zn,Zn,Zn]) rfl bK) (G.shows p0 h0))
 cases hS:S p0 with
 | true=>
  rw[hS] at t0;refine⟨.str [],cR (env:=[Zf eF,Zf side,Zf (en p0),Zf (.clo sl cl),Zf (.clo ss cs),Zn,Zn,Zn,Zn,Zn,Zn]) ?_,.inr ⟨[],?_,λa ha=>by simp at ha,hS,λv _ hv=>absurd hv (Nat.not_lt_zero _)⟩⟩
  ·exact eY ((eQ t0).trans rfl)
  ·unfold fQ;split<;>rfl
 | false=>
  rw[hS] at t0;have u0:cY (cP (kW Φ 4 (Zv 2 ak))) (bA (Zw [])) bN [Zf eF,Zf side,Zf (en p0),Zf (.clo sl cl),Zf (.clo ss cs),Zn,Zn,Zn,Zn,Zn,Zn] = .nx [Zf eF,Zf side,Zf (en p0),Zf (.clo sl cl),Zf (.clo ss cs),Zn,Zn,Zn,Zn,Zn,Zn]:=dW t0;have u3:dq 7 (o5 (aP 2) (jg (.bl true))) [Zf eF,Zf side,Zf (en p0),Zf (.clo sl cl),Zf (.clo ss cs),Zl [en p0],(Zl [.str []]),Zn,Zn,Zn,Zn] = .nx [Zf eF,Zf side,Zf (en p0),Zf (.clo sl cl),Zf (.clo ss cs),Zl [en p0],(Zl [.str []]),(Zt (.gR [(en p0,.bl true)])),Zn,Zn,Zn]:=by refine ug (d:=.gR [(en p0,.bl true)]) (e:=[Zf eF,Zf side,Zf (en p0),Zf (.clo sl cl),Zf (.clo ss cs),Zl [en p0],(Zl [.str []]),Zn,Zn,Zn,Zn]) ?_;unfold o5;show(match Gy (en p0) with|some _=>_|none=>_)=_;rw[G.nk p0]
  have hb:∀o,aC (dU (cP (ao Ud 8 (au gU (aa (bf 5) ak)))) (wb so Φ) 7000) (bA (jg .non)) (En sl ss cl cs en eF side p0 [p0] [[]] 0 none none)=o->dM so Φ (envOf 11 [eF,side,en p0,.clo sl cl,.clo ss cs])=o:=by intro o ho;rw[<-ho];unfold dM;refine(aB u0).trans ?_;refine(aB (e:=[Zf eF,Zf side,Zf (en p0),Zf (.clo sl cl),Zf (.clo ss cs),Zl [en p0],Zn,Zn,Zn,Zn,Zn]) rfl).trans ?_;refine(aB (e:=[Zf eF,Zf side,Zf (en p0),Zf (.clo sl cl),Zf (.clo ss cs),Zl [en p0],(Zl [.str []]),Zn,Zn,Zn,Zn]) rfl).trans ?_;refine(aB u3).trans ?_;exact aB rfl
  rcases yC G (eF:=eF) (p0:=p0) zr hso p0 7000 0 [p0] [[]] none none rfl (Nat.zero_le _) (Ew.start hS) (λq hq=>by rw[List.mem_singleton.mp hq];exact h0) with ⟨r,e,h1,h2⟩|⟨e,h1,h2⟩
  ·exact⟨r,cR (hb _ (eY h1)),.inr h2⟩
  ·exact⟨.non,cR (hb _ ((aB h1).trans rfl)),.inl ⟨rfl,h2⟩⟩
end
end KB
namespace KW
open Ev PySem L2 fG
open iG (SG cZ)
open jV (XS sides kI gV fit dh)
open Kd (cT)
def ac(ρ:Rl):fG.St->List Nat->Bool
 | _,[]=>false
 | s,a::z=>!((stp ρ s a).2 == s.2)||ac ρ (stp ρ s a).1 z
theorem tO(ρ:Rl):∀(z:List Nat) (s:fG.St) (y:List Nat),ac ρ s (z++y)=(ac ρ s z||ac ρ (rd ρ s z).1 y)
 | [],s,y=>rfl
 | a::z,s,y=>by
  show(_||ac ρ (stp ρ s a).1 (z++y))=((_||ac ρ (stp ρ s a).1 z)||ac ρ (rd ρ (stp ρ s a).1 z).1 y);rw[tO ρ z,Bool.or_assoc]
theorem Ep(ρ:Rl)(s:fG.St)(z:List Nat)(a:Nat):ac ρ s (z++[a])=(ac ρ s z || !((stp ρ (rd ρ s z).1 a).2 == (rd ρ s z).1.2)):=by rw[tO];show(_||(_||false))=_;rw[Bool.or_false]
noncomputable def acs(x:List Nat):List D->List fG.St->List Nat->List Bool
 | R::Rs,s::ss,z=>ac (eE x R) s z::acs x Rs ss (rd (eE x R) s z).2
 | _,_,_=>[]
noncomputable def aes(x:List Nat):List D->List fG.St->List Nat->List Bool
 | R::Rs,s::ss,z=>ac (eE x R) s (z++[35])::aes x Rs ss (rd (eE x R) s (z++[35])).2
 | _,_,_=>[]
section
variable{x:List Nat}{R:D}{ρ:Rl}(hx:x∈XS)(hR:Is x R ρ)
include hx hR
theorem Qc{s:fG.St}(hs:jq x s){a:Nat}(ha:a∈35::x)(A2 a6 a7:OD)(ps:List D)(hp:ps.length<=400)(t:Bool) :
  Ja [Zf R,Zf (aU s),A2,Zl ps,Zb t,Zs [a],a6,a7] = .nx [Zf R,(Zf (aU (stp ρ s a).1)),A2,(Zl (ps++[.str (stp ρ s a).2])),(Zb (t||(!((stp ρ s a).2 == s.2)))),Zs [a],Zs s.2,(Zs ((stp ρ s a).2))]:=by
 have hu:qC (.str (stp ρ s a).2) (.str s.2)=some (.bl (!((stp ρ s a).2 == s.2))):=rfl;generalize(!((stp ρ s a).2 == s.2))=u at *;have h1:=one_sign hx hR hs ha;generalize hq:(stp ρ s a).2=q at *;generalize hs':(stp ρ s a).1=s' at *;unfold Ja;refine(aB (e:=[Zf R,Zf (aU s),A2,Zl ps,Zb t,Zs [a],Zs s.2,a7]) rfl).trans ?_;refine(aB (e:=[Zf R,Zf (aU s'),A2,Zl ps,Zb t,Zs [a],Zs s.2,Zs q]) ?_).trans ?_
 ·rcases h1 with ⟨g1,g2⟩|⟨g1,g2⟩
  ·refine(eQ (e:=[Zf R,Zf (aU s),A2,Zl ps,Zb t,Zs [a],Zs s.2,a7]) (gk (aO (ds:=[R]) rfl g1))).trans ?_;exact bh (e:=[Zf R,Zf (aU s),A2,Zl ps,Zb t,Zs [a],Zs s.2,a7]) (aO (ds:=[R,aU s,.str [a]]) rfl g2) rfl
  ·refine(dW (e:=[Zf R,Zf (aU s),A2,Zl ps,Zb t,Zs [a],Zs s.2,a7]) (gk (aO (ds:=[R]) rfl g1))).trans ?_;exact bh (e:=[Zf R,Zf (aU s),A2,Zl ps,Zb t,Zs [a],Zs s.2,a7]) (aO (ds:=[R,aU s,.str [a]]) rfl g2) rfl
 refine(aB (e:=[Zf R,Zf (aU s'),A2,Zl ps,Zb (t||u),Zs [a],Zs s.2,Zs q]) ?_).trans ?_
 ·refine bh (d:=.bl (t||u)) (e:=[Zf R,Zf (aU s'),A2,Zl ps,Zb t,Zs [a],Zs s.2,Zs q]) (oZ rfl ?_) rfl;exact bF (o:=false) (o':=false) (x:=.str q) (x0:=.str q) (y:=.str s.2) rfl rfl rfl hu
 ·exact(cZ (i:=3) (x0:=ps) (xs:=ps) (d:=.str q) (e:=[Zf R,Zf (aU s'),A2,Zl ps,Zb (t||u),Zs [a],Zs s.2,Zs q]) rfl rfl rfl (Nat.lt_of_le_of_lt hp (by decide))).trans rfl
theorem wQ{s:fG.St}(hs:jq x s){z:List Nat}(hz:∀a∈z,a∈35::x)(hn:z.length<=150):gO [R,aU s,.str z]=some (.tup [aU (rd ρ s z).1,.str (rd ρ s z).2,.bl (ac ρ s z)]):=by
 obtain⟨e',f1,hd,dz,pl,a5,a6,a7,e1,Uc,e2,e3,e4,rfl⟩:=lJ (g:=aj 5) (b:=Ja) (pP z)
  (λdone env=>done.length<=z.length/\∃dz pl a5 a6 a7,done=pP dz/\(∀a∈dz,a∈35::x)/\pl.flatten=(rd ρ s dz).2/\pl.length=done.length/\(∀q∈pl,q.length<=2)/\env=[Zf R,(Zf (aU (rd ρ s dz).1)),Zs z,Zl (pl.map .str),Zb (ac ρ s dz),a5,a6,a7])
  (λdone d rest hall env ⟨hd,dz,pl,a5,a6,a7,e1,Uc,e2,e3,e4,he⟩=>by
   subst he;obtain⟨a,rfl,ha,hl⟩:=yc hall;have hok:=mF hR dz hs Uc;have hst:=Ph hR hok.1 (hz a ha);have hb:=Qc hx hR hok.1 (hz a ha) (Zs z) a6 a7 (pl.map .str) (by rw[List.length_map];omega) (ac ρ s dz);refine⟨_,_,rfl,hb,by rw[List.length_append,List.length_singleton];omega,dz++[a],pl++[(stp ρ (rd ρ s dz).1 a).2],Zs [a],(Zs ((rd ρ s dz).1.2)),(Zs ((stp ρ (rd ρ s dz).1 a).2)),by rw[um,e1],?_,?_,?_,?_,?_⟩
   ·intro b hb;rcases List.mem_append.mp hb with hb|hb
    ·exact Uc b hb
    ·rw[List.mem_singleton.mp hb];exact hz a ha
   ·rw[qU,List.flatten_append,e2];simp
   ·rw[List.length_append,List.length_append,e3]
    rfl
   ·intro q hq;rcases List.mem_append.mp hq with hq|hq
    ·exact e4 q hq
    ·rw[List.mem_singleton.mp hq];exact hst.2.1
   ·rw[qU,Ep,List.map_append]
    rfl)
  [Zf R,Zf (aU s),Zs z,Zl [],Zb false,Zn,Zn,Zn] ⟨Nat.zero_le _,[],[],Zn,Zn,Zn,rfl,λa ha=>by simp at ha,rfl,rfl,λq hq=>by simp at hq,rfl⟩
 have hzz:=uo e1;subst hzz;refine cR (env:=[Zf R,(Zf (aU (rd ρ s z).1)),Zs z,Zl (pl.map .str),Zb (ac ρ s z),a5,a6,a7]) ?_;unfold lr;refine(aB (e:=[Zf R,Zf (aU s),Zs z,Zl [],Zn,Zn,Zn,Zn]) rfl).trans ?_;refine(aB (e:=[Zf R,Zf (aU s),Zs z,Zl [],Zb false,Zn,Zn,Zn]) rfl).trans ?_;refine(aB ((fX (ds:=pP z) (e:=[Zf R,Zf (aU s),Zs z,Zl [],Zb false,Zn,Zn,Zn]) rfl).trans f1)).trans ?_;have hj:nU (.str []) (.lst (pl.map .str))=some (.str (rd ρ s z).2):=by rw[jV.aeB (by rw[e3];omega) e4,e2]
 exact cD (dO (ds:=[aU (rd ρ s z).1,.str (rd ρ s z).2,.bl (ac ρ s z)]) (aK rfl (aK (bL (x:=.str []) (y:=.lst (pl.map .str)) rfl rfl hj) (aK rfl bK))) (by show 3<=sizeLine;decide))
end
section
variable{x:List Nat}(hx:x∈XS)
include hx
theorem O3(A0 A1 A2:OD):∀(Rs:List D) (ss:List fG.St) (z:List Nat) (acc ts:List D) (v6 v7 v8 v9:OD),Rs.length=ss.length->(∀R∈Rs,cT x R)->(∀s∈ss,jq x s)->(∀a∈z,a∈35::x)->(z.length+2)*2^Rs.length<=150->acc.length+Rs.length<=100->ts.length+Rs.length<=100->
  ∃w6 w7 w8 w9,fM (cJ 2 (aG (aj 6) (aG (aj 7) cN))) HY (tU Rs (ss.map aU)) [A0,A1,A2,Zs z,Zl acc,Zl ts,v6,v7,v8,v9] = .nx [A0,A1,A2,(Zs ((wR x Rs ss z).2)),(Zl (acc++(wR x Rs ss z).1.map aU)),(Zl (ts++(acs x Rs ss z).map .bl)),w6,w7,w8,w9]/\(∀s∈(wR x Rs ss z).1,jq x s)/\(wR x Rs ss z).1.length=Rs.length
 | [],[],z,acc,ts,v6,v7,v8,v9,_,_,_,_,_,_,ht=>by
  refine⟨v6,v7,v8,v9,?_,λs hs=>by simp[wR] at hs,rfl⟩;show Ev.Out.nx _=Ev.Out.nx [A0,A1,A2,Zs z,Zl (acc++[]),Zl (ts++[]),v6,v7,v8,v9];rw[List.append_nil,List.append_nil]
 | [],_::_,_,_,_,_,_,_,_,h,_,_,_,_,_,_=>by simp at h
 | _::_,[],_,_,_,_,_,_,_,h,_,_,_,_,_,_=>by simp at h
 | R::Rs,s::ss,z,acc,ts,v6,v7,v8,v9,h,hR,hS,hz,hn,ha,ht=>by
  have hRi:=qb (hR R (List.mem_cons_self ..));have hso:=hS s (List.mem_cons_self ..);obtain⟨o1,o2,o3⟩:=mF hRi z hso hz;obtain⟨n1,n2⟩:=Li hn (m:=(rd (eE x R) s z).2.length) (by omega);have hrs:=wQ hx hRi hso hz (by omega);rw[List.length_cons] at ha ht;obtain⟨w6,w7,w8,w9,g1,g2,g3⟩:=O3 A0 A1 A2 Rs ss (rd (eE x R) s z).2 (acc++[aU (rd (eE x R) s z).1]) (ts++[.bl (ac (eE x R) s z)]) (Zf R) (Zf (aU s)) (Zf (aU (rd (eE x R) s z).1)) (Zb (ac (eE x R) s z)) (by simpa using h) (λQ hQ=>hR Q (List.mem_cons_of_mem _ hQ)) (λq hq=>hS q (List.mem_cons_of_mem _ hq)) o3 n1 (by rw[List.length_append,List.length_singleton];omega) (by rw[List.length_append,List.length_singleton];omega);refine⟨w6,w7,w8,w9,?_,?_,?_⟩
  ·show fM _ HY (.tup [R,aU s]::tU Rs (ss.map aU)) _=Ev.Out.nx [A0,A1,A2,(Zs ((wR x Rs ss (rd (eE x R) s z).2).2)),(Zl (acc++(aU (rd (eE x R) s z).1::(wR x Rs ss (rd (eE x R) s z).2).1.map aU))),(Zl (ts++(.bl (ac (eE x R) s z)::(acs x Rs ss (rd (eE x R) s z).2).map .bl))),w6,w7,w8,w9];rw[BV (e1:=[A0,A1,A2,Zs z,Zl acc,Zl ts,Zf R,Zf (aU s),v8,v9]) (e2:=[A0,A1,A2,(Zs ((rd (eE x R) s z).2)),(Zl (acc++[aU (rd (eE x R) s z).1])),(Zl (ts++[.bl (ac (eE x R) s z)])),Zf R,Zf (aU s),(Zf (aU (rd (eE x R) s z).1)),(Zb (ac (eE x R) s z))]) rfl ?_,g1,List.append_assoc,List.append_assoc]
   ·rfl
   ·generalize(rd (eE x R) s z).2=q at *;generalize(rd (eE x R) s z).1=s' at *;generalize ac (eE x R) s z=t at *;unfold HY;refine(aB (e:=[A0,A1,A2,Zs q,Zl acc,Zl ts,Zf R,Zf (aU s),Zf (aU s'),Zb t]) (bh (e:=[A0,A1,A2,Zs z,Zl acc,Zl ts,Zf R,Zf (aU s),v8,v9]) (aO (ds:=[R,aU s,.str z]) rfl hrs) rfl)).trans ?_;refine(aB (e:=[A0,A1,A2,Zs q,Zl (acc++[aU s']),Zl ts,Zf R,Zf (aU s),Zf (aU s'),Zb t]) ?_).trans ?_
    ·exact(cZ (i:=4) (x0:=acc) (xs:=acc) (d:=aU s') (e:=[A0,A1,A2,Zs q,Zl acc,Zl ts,Zf R,Zf (aU s),Zf (aU s'),Zb t]) rfl rfl rfl (Nat.lt_of_le_of_lt (show acc.length<=100 by omega) (by decide))).trans rfl
    ·exact(cZ (i:=5) (x0:=ts) (xs:=ts) (d:=.bl t) (e:=[A0,A1,A2,Zs q,Zl (acc++[aU s']),Zl ts,Zf R,Zf (aU s),Zf (aU s'),Zb t]) rfl rfl rfl (Nat.lt_of_le_of_lt (show ts.length<=100 by omega) (by decide))).trans rfl
  ·intro q hq;rcases List.mem_cons.mp (show q∈(rd (eE x R) s z).1::(wR x Rs ss (rd (eE x R) s z).2).1 from hq) with rfl|hq
   ·exact o1
   ·exact g2 q hq
  ·show(_::(wR x Rs ss (rd (eE x R) s z).2).1).length=_;rw[List.length_cons,g3,List.length_cons]
theorem O5(A0 A1:OD):∀(Rs:List D) (ss:List fG.St) (z:List Nat) (ts:List D) (v6 v7 v8 v9:OD),Rs.length=ss.length->(∀R∈Rs,cT x R)->(∀s∈ss,jq x s)->(∀a∈z,a∈35::x)->(z.length+2)*2^Rs.length<=150->ts.length+Rs.length<=100->
  ∃w6 w7 w8 w9,fM (cJ 2 (aG (aj 4) (aG (aj 5) cN))) Ie (tU Rs (ss.map aU)) [A0,A1,Zs z,Zl ts,v6,v7,v8,v9] = .nx [A0,A1,Zs (Oo x Rs ss z),(Zl (ts++(aes x Rs ss z).map .bl)),w6,w7,w8,w9]
 | [],[],z,ts,v6,v7,v8,v9,_,_,_,_,_,ht=>⟨v6,v7,v8,v9,by show Ev.Out.nx _=Ev.Out.nx [A0,A1,Zs z,Zl (ts++[]),v6,v7,v8,v9];rw[List.append_nil]⟩
 | [],_::_,_,_,_,_,_,_,h,_,_,_,_,_=>by simp at h
 | _::_,[],_,_,_,_,_,_,h,_,_,_,_,_=>by simp at h
 | R::Rs,s::ss,z,ts,v6,v7,v8,v9,h,hR,hS,hz,hn,ht=>by
  have hRi:=qb (hR R (List.mem_cons_self ..));have hso:=hS s (List.mem_cons_self ..);have hz':∀a∈z++[35],a∈35::x:=λa ha=>by
   rcases List.mem_append.mp ha with ha|ha
   ·exact hz a ha
   ·rw[List.mem_singleton.mp ha];exact List.mem_cons_self ..
  have hzl:(z++[35]).length=z.length+1:=by rw[List.length_append,List.length_singleton]
  obtain⟨o1,o2,o3⟩:=mF hRi (z++[35]) hso hz';obtain⟨n1,n2⟩:=Li hn (m:=(rd (eE x R) s (z++[35])).2.length) (by omega);have hrs:=wQ hx hRi hso hz' (by omega);rw[List.length_cons] at ht;obtain⟨w6,w7,w8,w9,g1⟩:=O5 A0 A1 Rs ss (rd (eE x R) s (z++[35])).2 (ts++[.bl (ac (eE x R) s (z++[35]))]) (Zf R) (Zf (aU s)) (Zf (aU (rd (eE x R) s (z++[35])).1)) (Zb (ac (eE x R) s (z++[35]))) (by simpa using h) (λQ hQ=>hR Q (List.mem_cons_of_mem _ hQ)) (λq hq=>hS q (List.mem_cons_of_mem _ hq)) o3 n1 (by rw[List.length_append,List.length_singleton];omega);refine⟨w6,w7,w8,w9,?_⟩;show fM _ Ie (.tup [R,aU s]::tU Rs (ss.map aU)) _=Ev.Out.nx [A0,A1,(Zs (Oo x Rs ss (rd (eE x R) s (z++[35])).2)),(Zl (ts++(.bl (ac (eE x R) s (z++[35]))::(aes x Rs ss (rd (eE x R) s (z++[35])).2).map .bl))),w6,w7,w8,w9];rw[BV (e1:=[A0,A1,Zs z,Zl ts,Zf R,Zf (aU s),v8,v9]) (e2:=[A0,A1,(Zs ((rd (eE x R) s (z++[35])).2)),(Zl (ts++[.bl (ac (eE x R) s (z++[35]))])),Zf R,Zf (aU s),(Zf (aU (rd (eE x R) s (z++[35])).1)),(Zb (ac (eE x R) s (z++[35])))]) rfl ?_,g1,List.append_assoc]
  ·rfl
  generalize(rd (eE x R) s (z++[35])).2=q at *;generalize(rd (eE x R) s (z++[35])).1=s' at *;generalize ac (eE x R) s (z++[35])=t at *;unfold Ie;refine(aB (e:=[A0,A1,Zs q,Zl ts,Zf R,Zf (aU s),Zf (aU s'),Zb t]) (bh (e:=[A0,A1,Zs z,Zl ts,Zf R,Zf (aU s),v8,v9]) (aO (ds:=[R,aU s,.str (z++[35])]) (aK rfl (aK rfl (aK (bF (o:=false) (o':=false) (x:=.str z) (x0:=.str z) (y:=.str [35]) rfl rfl rfl (gV (by show z.length+1<=100000;omega))) bK))) hrs) rfl)).trans ?_;exact(cZ (i:=3) (x0:=ts) (xs:=ts) (d:=.bl t) (e:=[A0,A1,Zs q,Zl ts,Zf R,Zf (aU s),Zf (aU s'),Zb t]) rfl rfl rfl (Nat.lt_of_le_of_lt (show ts.length<=100 by omega) (by decide))).trans rfl
end
section
variable{x:List Nat}{s:D}{Rs:List D}{ss:List fG.St}(o:Hy x s Rs ss){z:List Nat}(hz:∀a∈z,a∈35::x)(hn:z.length<=7)
include o hz hn
theorem vp:gM [.tup [s,.tup Rs],.tup (ss.map aU),.str z]=some (.tup [.tup ((wR x (lay s Rs) ss z).1.map aU),.str (wR x (lay s Rs) ss z).2,.tup ((acs x (lay s Rs) ss z).map .bl)])/\Hy x s Rs (wR x (lay s Rs) ss z).1:=by
 have h1:=reading_rules o.hx o.hs o.hR (Nat.le_trans o.h4 (by decide));have h2:=Jy (s:=s) o.hR;have h3:=Dz s Rs;have h4:=o.h4;have hl:=o.hl;have hx:=o.hx;have hS:=o.hS;have hs:=o.hs;have hR:=o.hR;generalize lay s Rs=Ls at *;generalize D.tup [s,.tup Rs]=O at *;obtain⟨w6,w7,w8,w9,g1,g2,g3⟩:=O3 hx (Zf O) (Zf (.tup (ss.map aU))) (Zs z) Ls ss z [] [] none none none none (by omega) h2 hS hz (acZ (by omega) hn) (by rw[List.length_nil];omega) (by rw[List.length_nil];omega);refine⟨cR (env:=[Zf O,(Zf (.tup (ss.map aU))),Zs z,(Zs ((wR x Ls ss z).2)),(Zl ([]++(wR x Ls ss z).1.map aU)),(Zl ([]++(acs x Ls ss z).map .bl)),w6,w7,w8,w9]) ?_,hx,hs,hR,h4,by omega,g2⟩;unfold o9;refine(aB (e:=[Zf O,(Zf (.tup (ss.map aU))),Zs z,Zs z,Zn,Zn,Zn,Zn,Zn,Zn]) rfl).trans ?_;refine(aB (e:=[Zf O,(Zf (.tup (ss.map aU))),Zs z,Zs z,Zl [],Zn,Zn,Zn,Zn,Zn]) rfl).trans ?_;refine(aB (e:=[Zf O,(Zf (.tup (ss.map aU))),Zs z,Zs z,Zl [],Zl [],Zn,Zn,Zn,Zn]) rfl).trans ?_;refine(aB ((fX (ds:=tU Ls (ss.map aU)) (e:=[Zf O,(Zf (.tup (ss.map aU))),Zs z,Zs z,Zl [],Zl [],Zn,Zn,Zn,Zn]) ?_).trans g1)).trans ?_
 ·exact Hh (aK (aO (ds:=[O]) rfl h1) rfl)
 ·rw[List.nil_append,List.nil_append];exact cD (dO (ds:=[.tup ((wR x Ls ss z).1.map aU),.str (wR x Ls ss z).2,.tup ((acs x Ls ss z).map .bl)]) rfl (by show 3<=sizeLine;decide))
omit hz hn
theorem rQ:f9 [.tup [s,.tup Rs],.tup (ss.map aU)]=some (.tup [.str (Oo x (lay s Rs) ss []),.tup ((aes x (lay s Rs) ss []).map .bl)]):=by
 have h1:=reading_rules o.hx o.hs o.hR (Nat.le_trans o.h4 (by decide));have h2:=Jy (s:=s) o.hR;have h3:=Dz s Rs;have h4:=o.h4;have hl:=o.hl;have hx:=o.hx;have hS:=o.hS;generalize lay s Rs=Ls at *;generalize D.tup [s,.tup Rs]=O at *;obtain⟨w6,w7,w8,w9,g1⟩:=O5 hx (Zf O) (Zf (.tup (ss.map aU))) Ls ss [] [] none none none none (by omega) h2 hS (λa ha=>by simp at ha) (acZ (m:=0) (by omega) (by decide)) (by rw[List.length_nil];omega);refine cR (env:=[Zf O,(Zf (.tup (ss.map aU))),Zs (Oo x Ls ss []),(Zl ([]++(aes x Ls ss []).map .bl)),w6,w7,w8,w9]) ?_;unfold mO;refine(aB (e:=[Zf O,(Zf (.tup (ss.map aU))),Zs [],Zn,Zn,Zn,Zn,Zn]) rfl).trans ?_;refine(aB (e:=[Zf O,(Zf (.tup (ss.map aU))),Zs [],Zl [],Zn,Zn,Zn,Zn]) rfl).trans ?_;refine(aB ((fX (ds:=tU Ls (ss.map aU)) (e:=[Zf O,(Zf (.tup (ss.map aU))),Zs [],Zl [],Zn,Zn,Zn,Zn]) ?_).trans g1)).trans ?_
 ·exact Hh (aK (aO (ds:=[O]) rfl h1) rfl)
 ·rw[List.nil_append];exact cD (dO (ds:=[.str (Oo x Ls ss []),.tup ((aes x Ls ss []).map .bl)]) rfl (by show 2<=sizeLine;decide))
end
end KW
namespace KT
open Ev PySem L2
open jV (XS sides fit)
open Kd (cT)
open fG (aU jq Rl rd eE wR fss lay lf Hy mF)
open KW (ac acs aes vp rQ)
open Kc (fQ)
abbrev Pl:=fG.St×fG.St×fG.St×Bool×Bool
def en(p:Pl):D:=.tup [.tup [aU p.1,aU p.2.1],.tup [aU p.2.2.1],.bl p.2.2.2.1,.bl p.2.2.2.2]
def key(p:Pl):NK:=.tup [Uh.qS [p.1,p.2.1],Uh.qS [p.2.2.1],.num (if p.2.2.2.1 then 1 else 0),.num (if p.2.2.2.2 then 1 else 0)]
theorem afd(p:Pl):Gy (en p)=some (key p):=by
 have h:tR (en p)=some (key p):=by unfold en key;simp only[tR,Jr,aU,Uh.qS,Option.map_some,List.map_cons,List.map_nil]
 unfold Gy en;unfold en at h;simp only[h,Option.bind_some];rw[if_pos];simp[key,Uh.qS,NK.dep,NK.wH]
theorem V8(p q:Pl)(h:key p=key q):p=q:=by
 obtain⟨a,b,c,d,e⟩:=p;obtain⟨a',b',c',d',e'⟩:=q;unfold key at h;have h0:=NK.tup.inj h;obtain⟨h1,h0⟩:=List.cons.inj h0;obtain⟨h2,h0⟩:=List.cons.inj h0;obtain⟨h3,h0⟩:=List.cons.inj h0;obtain⟨h4,h0⟩:=List.cons.inj h0;have j1:=Uh.Qv h1;have j2:=Uh.Qv h2;obtain⟨k1,j3⟩:=List.cons.inj j1;obtain⟨k3,_⟩:=List.cons.inj j3;obtain⟨k2,_⟩:=List.cons.inj j2;have tf:∀{u v:Bool},NK.num (if u=true then 1 else 0)=NK.num (if v=true then 1 else 0)->u=v:=λ{u v} h=>by
  cases u<;>cases v<;>first|rfl|(have:=NK.num.inj h;simp at this)
 have k4:=tf h3;have k5:=tf h4;simp only at k1 k2 k3 k4 k5;subst k1 k2 k3 k4 k5
 rfl
def prod{α β:Type}(A:List α)(B:List β):List (α×β):=A.flatMap λa=>B.map λb=>(a,b)
theorem Gq{α β:Type}(B:List β):∀A:List α,(prod A B).length=A.length*B.length
 | []=>by simp[prod]
 | a::A=>by
  have:=Gq B A;unfold prod at *;rw[List.flatMap_cons,List.length_append,this,List.length_map,List.length_cons,Nat.succ_mul,Nat.add_comm]
theorem qp{α β:Type}{A:List α}{B:List β}{a:α}{b:β}(h1:a∈A)(h2:b∈B):(a,b)∈prod A B:=List.mem_flatMap.mpr ⟨a,h1,List.mem_map.mpr ⟨b,h2,rfl⟩⟩
def SU(x:List Nat):List fG.St:=prod [false,true] ([]::(35::x).map λa=>[a])
theorem Ju{x:List Nat}{s:fG.St}(h:jq x s):s∈SU x:=by
 obtain⟨b,z⟩:=s;refine qp (by cases b<;>simp) ?_;obtain⟨h1,h2⟩:=h
 match z,h1,h2 with
 | [],_,_=>exact List.mem_cons_self ..
 | [a],_,h2=>exact List.mem_cons_of_mem _ (List.mem_map.mpr ⟨a,h2 a (List.mem_cons_self ..),rfl⟩)
 | _::_::_,h1,_=>simp at h1
def U(x:List Nat):List Pl:=prod (SU x) (prod (SU x) (prod (SU x) (prod [false,true] [false,true])))
theorem T3{x:List Nat}(h:x∈XS):(U x).length<=6998:=by
 have h4:x.length<=4:=iG.pC x h;unfold U SU;simp only[Gq,List.length_cons,List.length_map,List.length_nil];have h5:(0+1+1)*(x.length+1+1)<=12:=by omega
 generalize(0+1+1)*(x.length+1+1)=m at *;have a1:m*((0+1+1)*(0+1+1))<=12*4:=Nat.mul_le_mul h5 (by decide);have a2:=Nat.mul_le_mul h5 a1;have a3:=Nat.mul_le_mul h5 a2;omega
def Ok(x:List Nat)(p:Pl):Prop:=jq x p.1/\jq x p.2.1/\jq x p.2.2.1
theorem RD{x:List Nat}{p:Pl}(h:Ok x p):p∈U x:=by obtain⟨a,b,c,d,e⟩:=p;exact qp (Ju h.1) (qp (Ju h.2.1) (qp (Ju h.2.2) (qp (by cases d<;>simp) (by cases e<;>simp))))
def go(ρ1 ρ2:Rl)(p:Pl)(z:List Nat):Pl:=((rd ρ1 p.1 z).1,(rd ρ2 p.2.1 (rd ρ1 p.1 z).2).1,(rd ρ2 p.2.2.1 z).1,p.2.2.2.1||ac ρ2 p.2.1 (rd ρ1 p.1 z).2,p.2.2.2.2||ac ρ2 p.2.2.1 z)
def LP(ρ1 ρ2:Rl)(p:Pl)(a:Nat):Pl:=go ρ1 ρ2 p [a]
def E1(ρ1 ρ2:Rl)(p:Pl):Bool:=p.2.2.2.1||ac ρ2 p.2.1 ((rd ρ1 p.1 [35]).2++[35])
def E2(ρ2:Rl)(p:Pl):Bool:=p.2.2.2.2||ac ρ2 p.2.2.1 [35]
def SP(ρ1 ρ2:Rl)(b c:Bool)(p:Pl):Bool:=(E1 ρ1 ρ2 p == b)&&(E2 ρ2 p == c)
section
def zQ:bW:=aC (aJ (aP 0) (cJ 4 (aG (aj 4) (aG (aj 5) (aG (aj 6) (aG (aj 7) cN)))))) (aC (aJ (au fG.gM (Zv 3 (Zv 4 (Zv 1 ak)))) (cJ 3 (aG (aj 4) (aG (aj 8) (aG (aj 9) cN))))) (aC (aJ (au fG.gM (Zv 2 (Zv 5 (Zv 1 ak)))) (cJ 3 (aG (aj 5) (aG (aj 8) (aG (aj 10) cN))))) (bA (bV (Zv 4 (Zv 5 (aa (lq (aP 6) (ao bY 9 (Zi 1))) (aa (lq (aP 7) (ao bY 10 (Zi 0))) ak))))))))
def uT:bW:=aC (aJ (aP 0) (cJ 4 (aG (aj 5) (aG (aj 6) (aG (aj 7) (aG (aj 8) cN)))))) (aC (aJ (lq (aP 7) (aH bY (aH bY (au fG.f9 (Zv 2 (Zv 5 ak))) (Zi 1)) (Zi 1))) (aj 9)) (aC (aJ (lq (aP 8) (aH bY (aH bY (au fG.f9 (Zv 1 (Zv 6 ak))) (Zi 1)) (Zi 0))) (aj 10)) (bA (jY (ao j4 9 (bf 3)) (ao j4 10 (bf 4))))))
end
section
variable{x:List Nat}{s R O:D}(hx:x∈XS)(hs:s∈sides)(hR:cT x R)(hO:cT x O)
def ly(s R:D):D:=if fG.rt s=true then fG.tn R else R
theorem aaQ:lay s [R,O]=[ly s R,ly s O]:=by unfold lay ly;split<;>rfl
theorem aaR:lay s [O]=[ly s O]:=by unfold lay ly;split<;>rfl
include hx hs hR hO
theorem or2{s1 s2:fG.St}(h1:jq x s1)(h2:jq x s2):Hy x s [R,O] [s1,s2]:=
 ⟨hx,hs,λQ hQ=>by simp only[List.mem_cons,List.not_mem_nil,or_false] at hQ;rcases hQ with rfl|rfl;exact hR;exact hO,by show 2<=4;decide,rfl,λt ht=>by simp only[List.mem_cons,List.not_mem_nil,or_false] at ht;rcases ht with rfl|rfl;exact h1;exact h2⟩
omit hR in
theorem or1{s3:fG.St}(h3:jq x s3):Hy x s [O] [s3]:=
 ⟨hx,hs,λQ hQ=>by simp only[List.mem_cons,List.not_mem_nil,or_false] at hQ;rw[hQ];exact hO,by show 1<=4;decide,rfl,λt ht=>by simp only[List.mem_cons,List.not_mem_nil,or_false] at ht;rw[ht];exact h3⟩
theorem V5{p:Pl}(hp:Ok x p){a:Nat}(ha:a∈x):runC 2 11 zQ [.tup [s,.tup [O]],.tup [s,.tup [R,O]]] [en p,.str [a]]=some (en (LP (eE x (ly s R)) (eE x (ly s O)) p a))/\Ok x (LP (eE x (ly s R)) (eE x (ly s O)) p a):=by
 obtain⟨s1,s2,s3,b1,b2⟩:=p;have hz:∀b ∈ [a],b∈35::x:=λb hb=>by rw[List.mem_singleton.mp hb];exact List.mem_cons_of_mem _ ha
 obtain⟨w1,o1⟩:=vp (or2 hx hs hR hO hp.1 hp.2.1) hz (by show 1<=7;decide);obtain⟨w2,o2⟩:=vp (or1 hx hs hO hp.2.2) hz (by show 1<=7;decide);rw[aaQ] at w1 o1;rw[aaR] at w2 o2;generalize hO1:D.tup [s,.tup [R,O]]=B at *;generalize hO2:D.tup [s,.tup [O]]=I at *;have k1:fG.gM [B,.tup [aU s1,aU s2],.str [a]]=some (.tup [.tup [aU (go (eE x (ly s R)) (eE x (ly s O)) (s1,s2,s3,b1,b2) [a]).1,aU (go (eE x (ly s R)) (eE x (ly s O)) (s1,s2,s3,b1,b2) [a]).2.1],.str (wR x [ly s R,ly s O] [s1,s2] [a]).2,.tup [.bl (ac (eE x (ly s R)) s1 [a]),.bl (ac (eE x (ly s O)) s2 (rd (eE x (ly s R)) s1 [a]).2)]]):=w1;have k2:fG.gM [I,.tup [aU s3],.str [a]]=some (.tup [.tup [aU (go (eE x (ly s R)) (eE x (ly s O)) (s1,s2,s3,b1,b2) [a]).2.2.1],.str (wR x [ly s O] [s3] [a]).2,.tup [.bl (ac (eE x (ly s O)) s3 [a])]]):=w2;refine⟨?_,o1.hS _ (List.mem_cons_self ..),o1.hS _ (List.mem_cons_of_mem _ (List.mem_cons_self ..)),o2.hS _ (List.mem_cons_self ..)⟩;unfold LP;generalize hg:go (eE x (ly s R)) (eE x (ly s O)) (s1,s2,s3,b1,b2) [a]=g at *;have e4:g.2.2.2.1=(b1||ac (eE x (ly s O)) s2 (rd (eE x (ly s R)) s1 [a]).2):=by rw[<-hg];rfl
 have e5:g.2.2.2.2=(b2||ac (eE x (ly s O)) s3 [a]):=by rw[<-hg];rfl
 clear hg;generalize ac (eE x (ly s O)) s2 (rd (eE x (ly s R)) s1 [a]).2=t2 at *;generalize ac (eE x (ly s O)) s3 [a]=t3 at *;generalize ac (eE x (ly s R)) s1 [a]=t1 at *;generalize(wR x [ly s R,ly s O] [s1,s2] [a]).2=y1 at *;generalize(wR x [ly s O] [s3] [a]).2=y2 at *;clear w1 w2 o1 o2;obtain⟨g1,g2,g3,g4,g5⟩:=g;simp only at e4 e5;unfold runC;rw[if_pos (show [en (s1,s2,s3,b1,b2),D.str [a]].length=2 from rfl)];have hb:zQ (envOf 11 ([en (s1,s2,s3,b1,b2),.str [a]]++[I,B])) = .rt false (en (g1,g2,g3,g4,g5)) [(Zf (en (s1,s2,s3,b1,b2))),Zs [a],Zf I,Zf B,Zf (.tup [aU g1,aU g2]),Zf (.tup [aU g3]),Zb b1,Zb b2,Zs y2,Zf (.tup [.bl t1,.bl t2]),Zf (.tup [.bl t3])]:=by unfold zQ;refine(aB (e:=[(Zf (en (s1,s2,s3,b1,b2))),Zs [a],Zf I,Zf B,Zf (.tup [aU s1,aU s2]),Zf (.tup [aU s3]),Zb b1,Zb b2,Zn,Zn,Zn]) rfl).trans ?_;refine(aB (e:=[(Zf (en (s1,s2,s3,b1,b2))),Zs [a],Zf I,Zf B,Zf (.tup [aU g1,aU g2]),Zf (.tup [aU s3]),Zb b1,Zb b2,Zs y1,Zf (.tup [.bl t1,.bl t2]),Zn]) (bh (e:=[(Zf (en (s1,s2,s3,b1,b2))),Zs [a],Zf I,Zf B,Zf (.tup [aU s1,aU s2]),Zf (.tup [aU s3]),Zb b1,Zb b2,Zn,Zn,Zn]) (aO (ds:=[B,.tup [aU s1,aU s2],.str [a]]) rfl k1) rfl)).trans ?_;refine(aB (e:=[(Zf (en (s1,s2,s3,b1,b2))),Zs [a],Zf I,Zf B,Zf (.tup [aU g1,aU g2]),Zf (.tup [aU g3]),Zb b1,Zb b2,Zs y2,Zf (.tup [.bl t1,.bl t2]),Zf (.tup [.bl t3])]) (bh (e:=[(Zf (en (s1,s2,s3,b1,b2))),Zs [a],Zf I,Zf B,Zf (.tup [aU g1,aU g2]),Zf (.tup [aU s3]),Zb b1,Zb b2,Zs y1,Zf (.tup [.bl t1,.bl t2]),Zn]) (aO (ds:=[I,.tup [aU s3],.str [a]]) rfl k2) rfl)).trans ?_;subst e4 e5;cases b1<;>cases b2<;>rfl
 rw[hb]
theorem Pu(b c:Bool){p:Pl}(hp:Ok x p):runC 1 11 uT [.tup [s,.tup [O]],.tup [s,.tup [R,O]],.bl b,.bl c] [en p]=some (.bl (SP (eE x (ly s R)) (eE x (ly s O)) b c p)):=by
 obtain⟨s1,s2,s3,b1,b2⟩:=p;have w1:=rQ (or2 hx hs hR hO hp.1 hp.2.1);have w2:=rQ (or1 hx hs hO hp.2.2);rw[aaQ] at w1;rw[aaR] at w2;generalize hO1:D.tup [s,.tup [R,O]]=B at *;generalize hO2:D.tup [s,.tup [O]]=I at *;have k1:fG.f9 [B,.tup [aU s1,aU s2]]=some (.tup [.str (fG.Oo x [ly s R,ly s O] [s1,s2] []),.tup [.bl (ac (eE x (ly s R)) s1 [35]),.bl (ac (eE x (ly s O)) s2 ((rd (eE x (ly s R)) s1 [35]).2++[35]))]]):=w1;have k2:fG.f9 [I,.tup [aU s3]]=some (.tup [.str (fG.Oo x [ly s O] [s3] []),.tup [.bl (ac (eE x (ly s O)) s3 [35])]]):=w2;unfold SP E1 E2;simp only;generalize ac (eE x (ly s O)) s2 ((rd (eE x (ly s R)) s1 [35]).2++[35])=t2 at *;generalize ac (eE x (ly s O)) s3 [35]=t3 at *;generalize ac (eE x (ly s R)) s1 [35]=t1 at *;generalize fG.Oo x [ly s R,ly s O] [s1,s2] []=y1 at *;generalize fG.Oo x [ly s O] [s3] []=y2 at *;clear w1 w2;unfold runC;rw[if_pos (show [en (s1,s2,s3,b1,b2)].length=1 from rfl)];have hb:uT (envOf 11 ([en (s1,s2,s3,b1,b2)]++[I,B,.bl b,.bl c])) = .rt false (.bl (((b1||t2) == b)&&((b2||t3) == c))) [(Zf (en (s1,s2,s3,b1,b2))),Zf I,Zf B,Zb b,Zb c,Zf (.tup [aU s1,aU s2]),Zf (.tup [aU s3]),Zb b1,Zb b2,Zb (b1||t2),Zb (b2||t3)]:=by
  unfold uT;refine(aB (e:=[(Zf (en (s1,s2,s3,b1,b2))),Zf I,Zf B,Zb b,Zb c,Zf (.tup [aU s1,aU s2]),Zf (.tup [aU s3]),Zb b1,Zb b2,Zn,Zn]) rfl).trans ?_;refine(aB (e:=[(Zf (en (s1,s2,s3,b1,b2))),Zf I,Zf B,Zb b,Zb c,Zf (.tup [aU s1,aU s2]),Zf (.tup [aU s3]),Zb b1,Zb b2,Zb (b1||t2),Zn]) (bh (e:=[(Zf (en (s1,s2,s3,b1,b2))),Zf I,Zf B,Zb b,Zb c,Zf (.tup [aU s1,aU s2]),Zf (.tup [aU s3]),Zb b1,Zb b2,Zn,Zn]) (fG.oZ rfl ?_) rfl)).trans ?_
  ·exact bL (x:=.tup [.bl t1,.bl t2]) (y:=.int 1) (bL (x:=.tup [.str y1,.tup [.bl t1,.bl t2]]) (y:=.int 1) (aO (ds:=[B,.tup [aU s1,aU s2]]) rfl k1) rfl rfl) rfl rfl
  refine(aB (e:=[(Zf (en (s1,s2,s3,b1,b2))),Zf I,Zf B,Zb b,Zb c,Zf (.tup [aU s1,aU s2]),Zf (.tup [aU s3]),Zb b1,Zb b2,Zb (b1||t2),Zb (b2||t3)]) (bh (e:=[(Zf (en (s1,s2,s3,b1,b2))),Zf I,Zf B,Zb b,Zb c,Zf (.tup [aU s1,aU s2]),Zf (.tup [aU s3]),Zb b1,Zb b2,Zb (b1||t2),Zn]) (fG.oZ rfl ?_) rfl)).trans ?_
  ·exact bL (x:=.tup [.bl t3]) (y:=.int 0) (bL (x:=.tup [.str y2,.tup [.bl t3]]) (y:=.int 1) (aO (ds:=[I,.tup [aU s3]]) rfl k2) rfl rfl) rfl rfl
  generalize(b1||t2)=u1;generalize(b2||t3)=u2;cases u1<;>cases u2<;>cases b<;>cases c<;>rfl
 rw[hb]
end
open fG (aU jq Rl rd eE wR fss lay lf Hy mF stp qd)
open KW (ac tO)
open KB (pl LQ sought)
theorem Xn(ρ1 ρ2:Rl)(p:Pl):∀v:List Nat,pl (LP ρ1 ρ2) p v=go ρ1 ρ2 p v:=by
 intro v
 induction v generalizing p with
 | nil=>
  obtain⟨a,b,c,d,e⟩:=p;show(a,b,c,d,e)=(a,b,c,d||false,e||false);rw[Bool.or_false,Bool.or_false]
 | cons a v ih=>
  show pl (LP ρ1 ρ2) (LP ρ1 ρ2 p a) v=_;rw[ih];unfold LP go;obtain⟨s1,s2,s3,b1,b2⟩:=p;have e1:=qd ρ1 [a] s1 v;have e2:=qd ρ2 [a] s3 v;rw[List.singleton_append] at e1 e2;have e3:=qd ρ2 (rd ρ1 s1 [a]).2 s2 (rd ρ1 (rd ρ1 s1 [a]).1 v).2;have e4:=tO ρ2 (rd ρ1 s1 [a]).2 s2 (rd ρ1 (rd ρ1 s1 [a]).1 v).2;have e5:=tO ρ2 [a] s3 v;rw[List.singleton_append] at e5;simp only[e1,e2,e3,e4,e5,Bool.or_assoc]
def ini(ρl:D):fG.St:=(fit ρl 35,[])
noncomputable abbrev T:=Kc.trd
noncomputable def p0(R1 R2:D):Pl:=(ini (lf R1),ini (lf R2),ini (lf R2),false,false)
theorem acp(x:List Nat)(R1 R2:D)(v:List Nat):E1 (eE x R1) (eE x R2) (pl (LP (eE x R1) (eE x R2)) (p0 R1 R2) v)=ac (eE x R2) (ini (lf R2)) (T x R1 v++[35]):=by rw[Xn];unfold E1 go p0 T Kc.trd ini;simp only;rw[Bool.false_or,<-tO,qd,List.append_assoc]
theorem aco(x:List Nat)(R1 R2:D)(v:List Nat):E2 (eE x R2) (pl (LP (eE x R1) (eE x R2)) (p0 R1 R2) v)=ac (eE x R2) (ini (lf R2)) (v++[35]):=by rw[Xn];unfold E2 go p0;simp only;rw[Bool.false_or,<-tO]
theorem ab9(al:Bool)(kvs:List (D×D))(l r:D):∀(z:List Nat) (s:fG.St),s.2.length<=1->z≠[]->(∀h,(fG.xJ kvs h true).length<=1)->
  (rd (.chg al kvs l r) s z).2.length<=(s.2++z).dropLast.length/\((rd (.chg al kvs l r) s z).2=(s.2++z).dropLast↔ac (.chg al kvs l r) s z=false):=by
 intro z
 induction z with
 | nil=>intro s _ h;exact absurd rfl h
 | cons a z ih=>
  intro s hs _ hp;have hpt:∀h b,(fG.xJ kvs h b).length<=1:=λh b=>by
   cases b with
   | true=>exact hp h
   | false=>exact Nat.le_refl _
  have ho:(stp (.chg al kvs l r) s a).2.length<=s.2.length:=by
   obtain⟨b,h⟩:=s;cases h with
   | nil=>exact Nat.le_refl _
   | cons h t=>
    have:(fG.xJ kvs h (b&&fit r a)).length<=1:=hpt _ _;show(fG.xJ kvs h (b&&fit r a)).length<=_;rw[List.length_cons];omega
  have hh:(stp (.chg al kvs l r) s a).1.2=[a]:=fG.zx _ _ _;cases z with
  | nil=>
   have e1:(rd (.chg al kvs l r) s [a]).2=(stp (.chg al kvs l r) s a).2:=by rw[fG.vQ]
   have e2:(s.2++[a]).dropLast=s.2:=List.dropLast_concat;rw[e1,e2];refine⟨ho,?_⟩;show _↔(!((stp (.chg al kvs l r) s a).2 == s.2)||false)=false;rw[Bool.or_false,Bool.not_eq_false',beq_iff_eq]
  | cons c z=>
   obtain⟨i1,i2⟩:=ih (stp (.chg al kvs l r) s a).1 (by rw[hh];exact Nat.le_refl _) (by simp) hp;rw[hh] at i1 i2;have e1:(rd (.chg al kvs l r) s (a::c::z)).2=(stp (.chg al kvs l r) s a).2++(rd (.chg al kvs l r) (stp (.chg al kvs l r) s a).1 (c::z)).2:=rfl;have e2:(s.2++a::c::z).dropLast=s.2++([a]++c::z).dropLast:=by
    rw[List.dropLast_append_of_ne_nil (by simp)]
    rfl
   rw[e1,e2,List.length_append,List.length_append];refine⟨by omega,?_⟩;show _↔(!((stp (.chg al kvs l r) s a).2 == s.2)||ac (.chg al kvs l r) (stp (.chg al kvs l r) s a).1 (c::z))=false;rw[Bool.or_eq_false_iff,Bool.not_eq_false',beq_iff_eq,<-i2];constructor
   ·intro h;have hl:=congrArg List.length h;rw[List.length_append,List.length_append] at hl;exact List.append_inj h (by omega)
   ·rintro⟨h1,h2⟩;rw[h1,h2]
theorem ab7(c:Nat)(l r:D):∀(z:List Nat) (s:fG.St),z≠[]->
  (s.2++z).dropLast.length<=(rd (.put c l r) s z).2.length/\((rd (.put c l r) s z).2=(s.2++z).dropLast↔ac (.put c l r) s z=false):=by
 intro z
 induction z with
 | nil=>intro s h;exact absurd rfl h
 | cons a z ih=>
  intro s _;have ho:s.2.length<=(stp (.put c l r) s a).2.length:=by show s.2.length<=(s.2++_).length;rw[List.length_append];omega
  have hh:(stp (.put c l r) s a).1.2=[a]:=rfl;cases z with
  | nil=>
   have e1:(rd (.put c l r) s [a]).2=(stp (.put c l r) s a).2:=by rw[fG.vQ]
   have e2:(s.2++[a]).dropLast=s.2:=List.dropLast_concat;rw[e1,e2];refine⟨ho,?_⟩;show _↔(!((stp (.put c l r) s a).2 == s.2)||false)=false;rw[Bool.or_false,Bool.not_eq_false',beq_iff_eq]
  | cons d z=>
   obtain⟨i1,i2⟩:=ih (stp (.put c l r) s a).1 (by simp);rw[hh] at i1 i2;have e1:(rd (.put c l r) s (a::d::z)).2=(stp (.put c l r) s a).2++(rd (.put c l r) (stp (.put c l r) s a).1 (d::z)).2:=rfl;have e2:(s.2++a::d::z).dropLast=s.2++([a]++d::z).dropLast:=by
    rw[List.dropLast_append_of_ne_nil (by simp)]
    rfl
   rw[e1,e2,List.length_append,List.length_append];refine⟨by omega,?_⟩;show _↔(!((stp (.put c l r) s a).2 == s.2)||ac (.put c l r) (stp (.put c l r) s a).1 (d::z))=false;rw[Bool.or_eq_false_iff,Bool.not_eq_false',beq_iff_eq,<-i2];constructor
   ·intro h;have hl:=congrArg List.length h;rw[List.length_append,List.length_append] at hl;exact List.append_inj h (by omega)
   ·rintro⟨h1,h2⟩;rw[h1,h2]
noncomputable def A(x:List Nat)(R:D)(w:List Nat):Bool:=!(T x R w == w)
theorem ab8{x:List Nat}{R:D}{ρ:Rl}(hI:fG.Is x R ρ)(i:fG.St)(hi:i.2=[])(w:List Nat):(rd ρ i (w++[35])).2=w↔ac ρ i (w++[35])=false:=by
 have e0:(i.2++(w++[35])).dropLast=w:=by rw[hi,List.nil_append];exact List.dropLast_concat
 cases hI with
 | @put wy l r c hc hl hr=>
  have:=(ab7 c l r (w++[35]) i (by simp)).2;rw[e0] at this;exact this
 | @chg al ps kvs l r hp hd hk hl hr=>
  have hlen:∀h,(fG.xJ kvs h true).length<=1:=λh=>by
   show((jV.look kvs h).getD [h]).length<=1;cases e:jV.look kvs h with
   | none=>exact Nat.le_refl _
   | some t=>exact(jV.jz hk e).2.1
  have:=(ab9 al kvs l r (w++[35]) i (by rw[hi];exact Nat.zero_le _) (by simp) hlen).2;rw[e0] at this;exact this
theorem Yg{x:List Nat}{R:D}(hR:cT x R)(w:List Nat):ac (eE x R) (ini (lf R)) (w++[35])=A x R w:=by
 have key:=ab8 (fG.qb hR) (ini (lf R)) rfl w;unfold A T Kc.trd;cases h:ac (eE x R) (ini (lf R)) (w++[35]) with
 | false=>
  have z:=key.mpr h;unfold ini at z;rw[z];simp
 | true=>
  have:(rd (eE x R) (fit (lf R) 35,[]) (w++[35])).2≠w:=λz=>by rw[key.mp z] at h;cases h
  simp[this]
noncomputable def W(x:List Nat)(R1 R2:D)(b c:Bool)(v:List Nat):Bool:=(A x R2 (T x R1 v) == b)&&(A x R2 v == c)
theorem afr{x:List Nat}{R1 R2:D}(h2:cT x R2)(b c:Bool)(v:List Nat):SP (eE x R1) (eE x R2) b c (pl (LP (eE x R1) (eE x R2)) (p0 R1 R2) v)=W x R1 R2 b c v:=by unfold SP W;rw[acp,aco,Yg h2,Yg h2]
noncomputable def Eg(sl ss:Stmt)(g:LD):bW:=aC (aJ (bV (Zv 1 (aa (bV (Zv 2 (Zv 3 ak))) ak))) (aj 6)) (aC (aJ (bV (Zv 1 (aa (bV (Zv 3 ak)) ak))) (aj 7)) (vI sl ss [7,6] [7,6,4,5] 8 9 g (aP 0) (aP 1) (bV (aa (au fG.cG (Zv 6 ak)) (aa (au fG.cG (Zv 7 ak)) (aa (jg (.bl false)) (aa (jg (.bl false)) ak)))))))
theorem GP{x:List Nat}{s R:D}(h:cT x R):cT x (ly s R):=by
 unfold ly;split
 ·exact(fG.Kr h).1
 ·exact h
theorem O4{x:List Nat}{s R O eF:D}{Φ:Stmt->List D->LD}{sl ss:Stmt}{so:LD}(hx:x∈XS)(hs:s∈sides)(hR:cT x R)(hO:cT x O)(hl:Φ sl=runC 2 11 zQ)(hw:Φ ss=runC 1 11 uT)(hso:so [eF]=some (.tup (x.map λa=>.str [a])))(b c:Bool) :
  ∃r,cQ 10 (Eg sl ss (cQ 11 (KB.dM so Φ))) [eF,s,R,O,.bl b,.bl c]=some r/\((r = .non/\∀v,(∀a∈v,a∈x)->W x (ly s R) (ly s O) b c v=false)\/
   ∃w,r = .str (fQ s w)/\(∀a∈w,a∈x)/\W x (ly s R) (ly s O) b c w=true/\∀v,(∀a∈v,a∈x)->v.length<w.length->W x (ly s R) (ly s O) b c v=false):=by
 have hG:KB.Gives Φ sl ss [.tup [s,.tup [O]],.tup [s,.tup [R,O]]] [.tup [s,.tup [O]],.tup [s,.tup [R,O]],.bl b,.bl c] x en key (LP (eE x (ly s R)) (eE x (ly s O))) (SP (eE x (ly s R)) (eE x (ly s O)) b c) (Ok x) (U x):=
  ⟨λp a hp ha=>by rw[hl];exact V5 hx hs hR hO hp ha,λp hp=>by rw[hw];exact Pu hx hs hR hO b c hp,afd,V8,λp hp=>RD hp,T3 hx⟩
 have z0:∀Q:D,jq x (ini (lf Q)):=λQ=>⟨Nat.zero_le _,λc hc=>by simp[ini] at hc⟩;obtain⟨r,h1,h2⟩:=sought hG (eF:=eF) (side:=s) (so:=so) (p0:=p0 (ly s R) (ly s O)) hs hso ⟨z0 _,z0 _,z0 _⟩;have f1:fG.cG [.tup [s,.tup [R,O]]]=some (.tup [aU (ini (lf (ly s R))),aU (ini (lf (ly s O)))]):=by have:=fG.first_standing hx hs (Rs:=[R,O]) (λQ hQ=>by simp only[List.mem_cons,List.not_mem_nil,or_false] at hQ;rcases hQ with rfl|rfl;exact hR;exact hO) (by show 2<=10;decide);rw[aaQ] at this;exact this
 have f2:fG.cG [.tup [s,.tup [O]]]=some (.tup [aU (ini (lf (ly s O)))]):=by have:=fG.first_standing hx hs (Rs:=[O]) (λQ hQ=>by simp only[List.mem_cons,List.not_mem_nil,or_false] at hQ;rw[hQ];exact hO) (by show 1<=10;decide);rw[aaR] at this;exact this
 have hsc:Ky r=true:=by rcases h2 with ⟨rfl,_⟩|⟨w,rfl,_⟩<;>rfl
 refine⟨r,cR (env:=[Zf eF,Zf s,Zf R,Zf O,Zb b,Zb c,Zf (.tup [s,.tup [R,O]]),Zf (.tup [s,.tup [O]]),Zn,Zn]) ?_,?_⟩
 ·unfold Eg;refine(aB (e:=[Zf eF,Zf s,Zf R,Zf O,Zb b,Zb c,Zf (.tup [s,.tup [R,O]]),Zn,Zn,Zn]) rfl).trans ?_;refine(aB (e:=[Zf eF,Zf s,Zf R,Zf O,Zb b,Zb c,Zf (.tup [s,.tup [R,O]]),Zf (.tup [s,.tup [O]]),Zn,Zn]) rfl).trans ?_;unfold vI;have ea:aa (aP 0) (aa (aP 1) (aa (bV (aa (au fG.cG (aa (aP 6) ak)) (aa (au fG.cG (aa (aP 7) ak)) (aa (jg (.bl false)) (aa (jg (.bl false)) ak))))) ak)) [Zf eF,Zf s,Zf R,Zf O,Zb b,Zb c,Zf (.tup [s,.tup [R,O]]),Zf (.tup [s,.tup [O]]),Zn,Zn] = .ok [eF,s,en (p0 (ly s R) (ly s O))] [Zf eF,Zf s,Zf R,Zf O,Zb b,Zb c,Zf (.tup [s,.tup [R,O]]),Zf (.tup [s,.tup [O]]),Zn,Zn]:=by
   refine aK (e1:=[Zf eF,Zf s,Zf R,Zf O,Zb b,Zb c,Zf (.tup [s,.tup [R,O]]),Zf (.tup [s,.tup [O]]),Zn,Zn]) rfl (aK (e1:=[Zf eF,Zf s,Zf R,Zf O,Zb b,Zb c,Zf (.tup [s,.tup [R,O]]),Zf (.tup [s,.tup [O]]),Zn,Zn]) rfl (aK ?_ bK));refine dO (ds:=[.tup [aU (ini (lf (ly s R))),aU (ini (lf (ly s O)))],.tup [aU (ini (lf (ly s O)))],.bl false,.bl false]) ?_ (by show 4<=sizeLine;decide);exact aK (aO (ds:=[.tup [s,.tup [R,O]]]) rfl f1) (aK (aO (ds:=[.tup [s,.tup [O]]]) rfl f2) rfl)
  show dD (aa _ _ [Zf eF,Zf s,Zf R,Zf O,Zb b,Zb c,Zf (.tup [s,.tup [R,O]]),Zf (.tup [s,.tup [O]]),Zn,Zn]) _=_;rw[ea];show(match cQ 11 (KB.dM so Φ) [eF,s,en (p0 (ly s R) (ly s O)),.clo sl [.tup [s,.tup [O]],.tup [s,.tup [R,O]]],.clo ss [.tup [s,.tup [O]],.tup [s,.tup [R,O]],.bl b,.bl c]] with|some d=>if Ky d=true then Out.rt false d _ else Out.stuck|none=>Out.stuck)=_;rw[h1];simp only[hsc,if_true]
 ·have wi:=λv=>afr (x:=x) (R1:=ly s R) (GP (s:=s) hO) b c v;rcases h2 with ⟨h2,h3⟩|⟨w,h2,h3,h4,h5⟩
  ·exact .inl ⟨h2,λv hv=>by rw[<-wi v];exact h3 v hv⟩
  ·exact .inr ⟨w,h2,h3,by rw[<-wi w];exact h4,λv hv hl=>by rw[<-wi v];exact h5 v hv hl⟩
end KT
namespace pO
open Ev PySem L2
open iG (SG)
open jV (XS gV fit dh look cM encC)
open fG (aU jq Rl rd Is stp xJ VR uo um yc zx JQ abv Gn mF qU nY oZ wF)
open KW (ac Ep)
abbrev En(R:D)(A1 A2:OD)(b:Bool)(h p:List Nat)(t:Bool)(a:Nat)(a8 a9:OD):Ev.Env:=
 [Zf R,A1,A2,Zb b,Zs h,Zs p,Zb t,Zs [a],a8,a9]
section
variable{x:List Nat}{R:D}{ρ:Rl}(hx:x∈XS)(hR:Is x R ρ)
include hx hR
theorem V4{b:Bool}{h:List Nat}(hs:jq x (b,h)){a:Nat}(ha:a∈35::x)(A1 A2 a8 a9:OD)(p:List Nat)(hp:p.length<=900)(t:Bool) :
  ∃b8 b9,gZ (En R A1 A2 b h p t a a8 a9) = .nx (En R A1 A2 (stp ρ (b,h) a).1.1 [a] (p++(stp ρ (b,h) a).2) (t || !((stp ρ (b,h) a).2 == h)) a b8 b9):=by
 cases hR with
 | put hc hl hr=>
  rename_i wy l r c;have fl:=dh x hx l hl a ha;have fr:=dh x hx r hr a ha;have hh:h.length<=1:=hs.1;have hm:(!((h++(if (b&&fit r a)=true then [c] else [])) == h))=(b&&fit r a):=by cases b&&fit r a<;>simp
  refine⟨(Zb (b&&fit r a)),a9,?_⟩;show _=Ev.Out.nx (En (.tup [wy,.tup [.tup [.str [],.str [c]]],l,r]) A1 A2 (fit l a) [a] (p++(h++(if (b&&fit r a)=true then [c] else []))) (t||(!((h++(if (b&&fit r a)=true then [c] else [])) == h))) a (Zb (b&&fit r a)) a9);rw[hm];clear hm;generalize hu:(b&&fit r a)=u at *;generalize hR0:D.tup [wy,.tup [.tup [.str [],.str [c]]],l,r]=R;have rs:aJ (jY (aP 3) (au bQ (aa (ao bY 0 (Zi 3)) (Zv 7 ak)))) (aj 8) (En R A1 A2 b h p t a a8 a9) = .nx (En R A1 A2 b h p t a (Zb u) a9):=by subst hR0 hu;exact bh (e:=En _ A1 A2 b h p t a a8 a9) (nY rfl (aO (ds:=[r,.str [a]]) rfl fr)) rfl
  unfold gZ;refine(aB rs).trans ?_;refine(aB (e:=En R A1 A2 (fit l a) h (p++(h++(if u=true then [c] else []))) (t||u) a (Zb u) a9) ?_).trans rfl;refine(eQ (e:=En R A1 A2 b h p t a (Zb u) a9) (by subst hR0;rfl)).trans ?_;refine(aB (e:=En R A1 A2 b h (p++(h++(if u=true then [c] else []))) t a (Zb u) a9) ?_).trans ?_
  ·refine bh (d:=.str (p++(h++(if u=true then [c] else [])))) (e:=En R A1 A2 b h p t a (Zb u) a9) ?_ rfl;rw[<-List.append_assoc];refine bL (x:=.str (p++h)) (y:=.str (if u=true then [c] else [])) (e1:=En R A1 A2 b h p t a (Zb u) a9) ?_ ?_ (gV ?_)
   ·exact bF (o:=false) (o':=false) (x:=.str p) (x0:=.str p) (y:=.str h) rfl rfl rfl (gV (by omega))
   ·refine bL (x:=.str [c]) (y:=.int (if u=true then 1 else 0)) (e1:=En R A1 A2 b h p t a (Zb u) a9) (by subst hR0;rfl) rfl ?_;cases u<;>rfl
   ·rw[List.length_append];split
    ·rw[List.length_singleton];omega
    ·rw[List.length_nil];omega
  refine(aB (e:=En R A1 A2 b h (p++(h++(if u=true then [c] else []))) (t||u) a (Zb u) a9) (bh (e:=En R A1 A2 b h (p++(h++(if u=true then [c] else []))) t a (Zb u) a9) (oZ rfl rfl) rfl)).trans ?_;subst hR0;exact bh (e:=En _ A1 A2 b h (p++(h++(if u=true then [c] else []))) (t||u) a (Zb u) a9) (aO (ds:=[l,.str [a]]) rfl fl) rfl
 | chg hps hd hk hl hr=>
  rename_i al ps kvs l r;have fr:=dh x hx r hr a ha;have hf:∀h p,aJ (jY (aP 3) (au bQ (aa (ao bY 0 (Zi 3)) (Zv 7 ak)))) (aj 8) (En (.tup [cM al,.tup (ps.map encC),l,r]) A1 A2 b h p t a a8 a9) = .nx (En (.tup [cM al,.tup (ps.map encC),l,r]) A1 A2 b h p t a (Zb (b&&fit r a)) a9):=λh p=>
   bh (d:=.bl (b&&fit r a)) (e:=En (.tup [cM al,.tup (ps.map encC),l,r]) A1 A2 b h p t a a8 a9) (nY rfl (aO (ds:=[r,.str [a]]) rfl fr)) rfl
  have hq:∀h p,cP (aH j4 (aH bY (aH bY (ao bY 0 (Zi 1)) (Zi 0)) (Zi 0)) (Zw [])) (En (.tup [cM al,.tup (ps.map encC),l,r]) A1 A2 b h p t a (Zb (b&&fit r a)) a9) = .ok false (En (.tup [cM al,.tup (ps.map encC),l,r]) A1 A2 b h p t a (Zb (b&&fit r a)) a9):=by intro h p;exact gk (JQ hps rfl)
  match h,hs with
  | [],hs=>
   refine⟨(Zb (b&&fit r a)),a9,?_⟩;show _=Ev.Out.nx (En (.tup [cM al,.tup (ps.map encC),l,r]) A1 A2 b [a] (p++[]) (t||false) a (Zb (b&&fit r a)) a9);rw[List.append_nil,Bool.or_false];unfold gZ;refine(aB (hf _ _)).trans ?_;refine(aB (e:=En (.tup [cM al,.tup (ps.map encC),l,r]) A1 A2 b [] p t a (Zb (b&&fit r a)) a9) ?_).trans rfl;exact(dW (hq _ _)).trans ((dW (e:=En (.tup [cM al,.tup (ps.map encC),l,r]) A1 A2 b [] p t a (Zb (b&&fit r a)) a9) rfl).trans rfl)
  | [s],hs=>
   have hsm:=hs.2 s (List.mem_cons_self ..);have fs:=dh x hx l hl s hsm;have ho:=Gn hk s hsm (b&&fit r a);show ∃b8 b9,_=Ev.Out.nx (En (.tup [cM al,.tup (ps.map encC),l,r]) A1 A2 (VR al l s b (xJ kvs s (b&&fit r a))) [a] (p++(xJ kvs s (b&&fit r a))) (t || !((xJ kvs s (b&&fit r a)) == [s])) a b8 b9);have hP:xJ kvs s (b&&fit r a)=if (b&&fit r a)=true then (look kvs s).getD [s] else [s]:=rfl
   generalize xJ kvs s (b&&fit r a)=q at *;have hn:qC (.str q) (.str [s])=some (.bl (!(q == [s]))):=rfl;generalize(!(q == [s]))=v at *;refine⟨(Zb (b&&fit r a)),Zs q,?_⟩;unfold gZ;refine(aB (hf _ _)).trans ?_;refine(aB (e:=En (.tup [cM al,.tup (ps.map encC),l,r]) A1 A2 (VR al l s b q) [s] (p++q) (t||v) a (Zb (b&&fit r a)) (Zs q)) ?_).trans rfl;refine(dW (hq _ _)).trans ((eQ (e:=En (.tup [cM al,.tup (ps.map encC),l,r]) A1 A2 b [s] p t a (Zb (b&&fit r a)) a9) rfl).trans ?_);refine(aB (e:=En (.tup [cM al,.tup (ps.map encC),l,r]) A1 A2 b [s] p t a (Zb (b&&fit r a)) (Zs [s])) rfl).trans ?_;refine(aB (e:=En (.tup [cM al,.tup (ps.map encC),l,r]) A1 A2 b [s] p t a (Zb (b&&fit r a)) (Zs q)) ?_).trans ?_
   ·cases hc:b&&fit r a with
    | true=>
     rw[hc] at hP;rw[if_pos rfl] at hP;rw[hP];exact(eQ (e:=En (.tup [cM al,.tup (ps.map encC),l,r]) A1 A2 b [s] p t a (Zb true) (Zs [s])) rfl).trans (bh (wF (e1:=En (.tup [cM al,.tup (ps.map encC),l,r]) A1 A2 b [s] p t a (Zb true) (Zs [s])) (e2:=En (.tup [cM al,.tup (ps.map encC),l,r]) A1 A2 b [s] p t a (Zb true) (Zs [s])) (aO (ds:=[.tup (ps.map encC)]) rfl hd) rfl rfl (abv hk s)) rfl)
    | false=>
     rw[hc] at hP;rw[if_neg Bool.false_ne_true] at hP;rw[hP];exact(dW (e:=En (.tup [cM al,.tup (ps.map encC),l,r]) A1 A2 b [s] p t a (Zb false) (Zs [s])) rfl).trans rfl
   refine(aB (e:=En (.tup [cM al,.tup (ps.map encC),l,r]) A1 A2 b [s] p (t||v) a (Zb (b&&fit r a)) (Zs q)) ?_).trans ?_
   ·exact bh (e:=En (.tup [cM al,.tup (ps.map encC),l,r]) A1 A2 b [s] p t a (Zb (b&&fit r a)) (Zs q)) (oZ rfl (bF (o:=false) (o':=false) (x:=.str q) (x0:=.str q) (y:=.str [s]) rfl rfl rfl hn)) rfl
   refine(aB (e:=En (.tup [cM al,.tup (ps.map encC),l,r]) A1 A2 b [s] (p++q) (t||v) a (Zb (b&&fit r a)) (Zs q)) ?_).trans ?_
   ·exact bh (bF (o:=false) (o':=false) (x:=.str p) (x0:=.str p) (y:=.str q) rfl rfl rfl (gV (by have:=ho.1;omega))) rfl
   cases al with
   | false=>
    refine(eQ (e:=En (.tup [cM false,.tup (ps.map encC),l,r]) A1 A2 b [s] (p++q) (t||v) a (Zb (b&&fit r a)) (Zs q)) rfl).trans ?_;exact bh (aO (ds:=[l,.str [s]]) rfl fs) rfl
   | true=>
    refine(dW (e:=En (.tup [cM true,.tup (ps.map encC),l,r]) A1 A2 b [s] (p++q) (t||v) a (Zb (b&&fit r a)) (Zs q)) rfl).trans ?_
    match q,ho with
    | [],_=>rfl
    | [u],ho=>
     have fu:=dh x hx l hl u (ho.2 u (List.mem_cons_self ..));refine(eQ (e:=En (.tup [cM true,.tup (ps.map encC),l,r]) A1 A2 b [s] (p++[u]) (t||v) a (Zb (b&&fit r a)) (Zs [u])) rfl).trans ?_;exact bh (aO (ds:=[l,.str [u]]) rfl fu) rfl
    | _::_::_,ho=>exact absurd ho.1 (by simp)
  | _::_::_,hs=>exact absurd hs.1 (by simp)
theorem goes{s:fG.St}(hs:jq x s){z:List Nat}(hz:∀a∈z,a∈35::x)(hn:z.length<=150):lY [R,aU s,.str z]=some (.tup [aU (rd ρ s z).1,.str (rd ρ s z).2,.bl (ac ρ s z)]):=by
 obtain⟨e',f1,hd,dz,a7,a8,a9,e1,Uc,rfl⟩:=lJ (g:=aj 7) (b:=gZ) (pP z)
  (λdone env=>done.length<=z.length/\∃dz a7 a8 a9,done=pP dz/\(∀a∈dz,a∈35::x)/\env=[Zf R,Zf (aU s),Zs z,(Zb ((rd ρ s dz).1.1)),(Zs ((rd ρ s dz).1.2)),(Zs ((rd ρ s dz).2)),Zb (ac ρ s dz),a7,a8,a9])
  (λdone d rest hall env ⟨hd,dz,a7,a8,a9,e1,Uc,he⟩=>by
   subst he;obtain⟨a,rfl,ha,hl⟩:=yc hall;have hok:=mF hR dz hs Uc;have hdl:dz.length=done.length:=by rw[e1];unfold pP;rw[List.length_map]
   obtain⟨b8,b9,hb⟩:=V4 hx hR (b:=(rd ρ s dz).1.1) (h:=(rd ρ s dz).1.2) hok.1 (hz a ha) (Zf (aU s)) (Zs z) a8 a9 (rd ρ s dz).2 (by have:=hok.2.1;omega) (ac ρ s dz);refine⟨_,_,rfl,hb,by rw[List.length_append,List.length_singleton];omega,dz++[a],Zs [a],b8,b9,by rw[um,e1],?_,?_⟩
   ·intro b hb;rcases List.mem_append.mp hb with hb|hb
    ·exact Uc b hb
    ·rw[List.mem_singleton.mp hb];exact hz a ha
   ·rw[qU,Ep];show _=[_,_,_,_,(Zs ((stp ρ (rd ρ s dz).1 a).1.2)),_,_,_,_,_];rw[zx])
  [Zf R,Zf (aU s),Zs z,Zb s.1,Zs s.2,Zs [],Zb false,Zn,Zn,Zn] ⟨Nat.zero_le _,[],Zn,Zn,Zn,rfl,λa ha=>by simp at ha,rfl⟩
 have hzz:=uo e1;subst hzz;refine cR (env:=[Zf R,Zf (aU s),Zs z,(Zb ((rd ρ s z).1.1)),(Zs ((rd ρ s z).1.2)),(Zs ((rd ρ s z).2)),Zb (ac ρ s z),a7,a8,a9]) ?_;unfold zT;refine(aB (e:=[Zf R,Zf (aU s),Zs z,Zb s.1,Zs s.2,Zn,Zn,Zn,Zn,Zn]) rfl).trans ?_;refine(aB (e:=[Zf R,Zf (aU s),Zs z,Zb s.1,Zs s.2,Zs [],Zn,Zn,Zn,Zn]) rfl).trans ?_;refine(aB (e:=[Zf R,Zf (aU s),Zs z,Zb s.1,Zs s.2,Zs [],Zb false,Zn,Zn,Zn]) rfl).trans ?_;refine(aB ((fX (ds:=pP z) (e:=[Zf R,Zf (aU s),Zs z,Zb s.1,Zs s.2,Zs [],Zb false,Zn,Zn,Zn]) rfl).trans f1)).trans ?_
 rfl
end
end pO
namespace KB
section
variable{P:Type}(L:P->Nat->P)(S:P->Bool)(x:List Nat)(p0:P)
structure Lv(n:Nat)(lv ps:List P):Prop where
 nd:ps.Nodup
 sub:∀p∈lv,p∈ps
 here:∀p∈lv,∃v,(∀a∈v,a∈x)/\v.length=n/\pl L p0 v=p
 all:∀v,(∀a∈v,a∈x)->v.length<=n->pl L p0 v∈ps
 new:∀v,(∀a∈v,a∈x)->v.length=n->pl L p0 v∈lv\/∃u,(∀a∈u,a∈x)/\u.length<n/\pl L p0 u=pl L p0 v
 no:∀v,(∀a∈v,a∈x)->v.length<n->S (pl L p0 v)=false
 old:∀p∈ps,∃v,(∀a∈v,a∈x)/\v.length<=n/\pl L p0 v=p
 cnt:n+lv.length<=ps.length
structure Mid(n:Nat)(Av done fu ps:List P):Prop where
 eq:ps=Av++fu
 nd:ps.Nodup
 here:∀p∈fu,∃v,(∀a∈v,a∈x)/\v.length=n+1/\pl L p0 v=p
 sf:∀p∈done,S p=false
 clo:∀p∈done,∀a∈x,L p a∈ps
variable{L S x p0}
theorem yj{v:List Nat}{a:Nat}(h:∀b∈v,b∈x)(ha:a∈x):∀b∈v++[a],b∈x:=λb hb=>by
 rcases List.mem_append.mp hb with hb|hb
 ·exact h b hb
 ·rw[List.mem_singleton.mp hb];exact ha
theorem Lv.start:Lv L S x p0 0 [p0] [p0]:=by
 refine⟨List.nodup_cons.mpr ⟨by simp,.nil⟩,λp h=>h,λp h=>⟨[],λa ha=>by simp at ha,rfl,(List.mem_singleton.mp h).symm⟩,λv _ hv=>?_,λv _ hv=>.inl ?_,λv _ hv=>absurd hv (Nat.not_lt_zero _),λp h=>⟨[],λa ha=>by simp at ha,Nat.le_refl _,(List.mem_singleton.mp h).symm⟩,Nat.le_refl _⟩
 ·rw[List.length_eq_zero_iff.mp (Nat.le_zero.mp hv)];exact List.mem_singleton.mpr rfl
 ·rw[List.length_eq_zero_iff.mp hv];exact List.mem_singleton.mpr rfl
theorem Lv.begin{n:Nat}{lv ps:List P}(B:Lv L S x p0 n lv ps):Mid L S x p0 n ps [] [] ps:=
 ⟨(List.append_nil _).symm,B.nd,λp h=>by simp at h,λp h=>by simp at h,λp h=>by simp at h⟩
theorem Mid.add{n:Nat}{lv Av done fu ps:List P}(B:Lv L S x p0 n lv Av)(M:Mid L S x p0 n Av done fu ps){p:P}(hp:p∈lv){a:Nat}(ha:a∈x)(hn:L p a ∉ ps):Mid L S x p0 n Av done (fu++[L p a]) (ps++[L p a]):=by
 refine⟨by rw[M.eq,List.append_assoc],?_,λq hq=>?_,M.sf,λq hq b hb=>List.mem_append_left _ (M.clo q hq b hb)⟩
 ·rw[List.nodup_append];refine⟨M.nd,List.nodup_cons.mpr ⟨by simp,.nil⟩,λy hy z hz e=>?_⟩;rw[List.mem_singleton.mp hz] at e;exact hn (e ▸ hy)
 ·rcases List.mem_append.mp hq with hq|hq
  ·exact M.here q hq
  ·rw[List.mem_singleton.mp hq];obtain⟨v,h1,h2,h3⟩:=B.here p hp;exact⟨v++[a],yj h1 ha,by rw[List.length_append,h2];rfl,by rw[kY,h3]⟩
theorem Mid.next{n:Nat}{Av done fu ps:List P}(M:Mid L S x p0 n Av done fu ps){p:P}(hs:S p=false)(hc:∀a∈x,L p a∈ps):Mid L S x p0 n Av (done++[p]) fu ps:=by
 refine⟨M.eq,M.nd,M.here,λq hq=>?_,λq hq=>?_⟩
 ·rcases List.mem_append.mp hq with hq|hq
  ·exact M.sf q hq
  ·rw[List.mem_singleton.mp hq];exact hs
 ·rcases List.mem_append.mp hq with hq|hq
  ·exact M.clo q hq
  ·rw[List.mem_singleton.mp hq];exact hc
theorem Kv{v:List Nat}{n:Nat}(hv:v.length=n+1):∃u a,v=u++[a]/\u.length=n:=by
 rcases List.eq_nil_or_concat v with rfl|⟨u,a,rfl⟩
 ·simp at hv
 ·rw[List.concat_eq_append] at *;rw[List.length_append,List.length_singleton] at hv;exact⟨u,a,rfl,by omega⟩
theorem Lv.next{n:Nat}{lv Av fu ps:List P}(B:Lv L S x p0 n lv Av)(M:Mid L S x p0 n Av lv fu ps)(hl:lv≠[]):Lv L S x p0 (n+1) fu ps:=by
 have al:∀v,(∀a∈v,a∈x)->v.length<=n+1->pl L p0 v∈ps:=by
  intro v hv hn;by_cases h:v.length<=n
  ·rw[M.eq];exact List.mem_append_left _ (B.all v hv h)
  ·obtain⟨u,a,rfl,hu⟩:=Kv (show v.length=n+1 by omega);have hu1:∀b∈u,b∈x:=λb hb=>hv b (List.mem_append_left _ hb);have ha:a∈x:=hv a (List.mem_append_right _ (List.mem_singleton.mpr rfl));rw[kY];rcases B.new u hu1 hu with h1|⟨t,t1,t2,t3⟩
   ·exact M.clo _ h1 a ha
   ·rw[<-t3,<-kY L p0 t a,M.eq];exact List.mem_append_left _ (B.all _ (yj t1 ha) (by rw[List.length_append,List.length_singleton];omega))
 refine⟨M.nd,λp hp=>by rw[M.eq];exact List.mem_append_right _ hp,M.here,al,λv hv hn=>?_,λv hv hn=>?_,λp hp=>?_,?_⟩
 ·have h:=al v hv (by omega);rw[M.eq] at h;rcases List.mem_append.mp h with h|h
  ·obtain⟨u,u1,u2,u3⟩:=B.old _ h;exact .inr ⟨u,u1,by omega,u3⟩
  ·exact .inl h
 ·by_cases h:v.length<n
  ·exact B.no v hv h
  ·rcases B.new v hv (by omega) with h1|⟨t,t1,t2,t3⟩
   ·exact M.sf _ h1
   ·rw[<-t3];exact B.no t t1 t2
 ·rw[M.eq] at hp;rcases List.mem_append.mp hp with hp|hp
  ·obtain⟨u,u1,u2,u3⟩:=B.old _ hp;exact⟨u,u1,by omega,u3⟩
  ·obtain⟨u,u1,u2,u3⟩:=M.here _ hp;exact⟨u,u1,by omega,u3⟩
 ·have h1:=B.cnt;have h2:0<lv.length:=List.length_pos_iff.mpr hl;rw[M.eq,List.length_append];omega
theorem Lv.none{n:Nat}{ps:List P}(B:Lv L S x p0 n [] ps):∀(m:Nat) (v:List Nat),v.length=m->(∀a∈v,a∈x)->∃u,(∀a∈u,a∈x)/\u.length<n/\pl L p0 u=pl L p0 v:=by
 have nx:∀v,(∀a∈v,a∈x)->v.length=n->∃u,(∀a∈u,a∈x)/\u.length<n/\pl L p0 u=pl L p0 v:=λv hv hn=>by
  rcases B.new v hv hn with h|h
  ·simp at h
  ·exact h
 intro m
 induction m with
 | zero=>
  intro v hv hx;by_cases h:v.length<n
  ·exact⟨v,hx,h,rfl⟩
  ·exact nx v hx (by omega)
 | succ m ih=>
  intro v hv hx;obtain⟨u,a,rfl,hu⟩:=Kv hv;have ha:a∈x:=hx a (List.mem_append_right _ (List.mem_singleton.mpr rfl));obtain⟨t,t1,t2,t3⟩:=ih u hu λb hb=>hx b (List.mem_append_left _ hb);have e:pl L p0 (t++[a])=pl L p0 (u++[a]):=by rw[kY,kY,t3]
  rw[<-e];by_cases h:(t++[a]).length<n
  ·exact⟨t++[a],yj t1 ha,h,rfl⟩
  ·exact nx _ (yj t1 ha) (by rw[List.length_append,List.length_singleton] at h ⊢;omega)
end
end KB
namespace pO
open Ev PySem L2
open jV (XS sides)
open Kd (cT)
open fG (aU jq Rl rd Is mF nY oZ)
open Kc (fQ o7)
open KT (T A W ly GP Pl)
open KW (ac)
theorem XD{x:List Nat}{R:D}(hx:x∈XS)(hR:cT x R){w:List Nat}(hw:∀c∈w,c∈x)(hn:w.length<=30000):ie [R,.str w]=some (.str (T x R w))/\(∀c∈T x R w,c∈x)/\(T x R w).length<=2*w.length+1:=by
 have hi:=fG.qb hR;unfold T Kc.trd;generalize fG.eE x R=ρ at *;cases hi with
 | put hc hl hr=>
  rename_i wy l r c;have e:(rd (.put c l r) (jV.fit (fG.lf (.tup [wy,.tup [.tup [.str [],.str [c]]],l,r])) 35,[]) (w++[35])).2=jV.inn l r c w:=by rw[K10.XQ];exact Kc.Qi w 35 [] 35
  rw[e];refine⟨cR (env:=[Zf (.tup [wy,.tup [.tup [.str [],.str [c]]],l,r]),Zs w,Zf wy,Zf (.tup [.tup [.str [],.str [c]]]),Zf l,Zf r,Zn,Zn,Zn,Zn,Zn]) ?_,jV.abo hc hw⟩;have h:=jV.JB hx hl hr hw hn wy c;generalize jV.inn l r c w=o at *;unfold ji;refine(aB (e:=[Zf (.tup [wy,.tup [.tup [.str [],.str [c]]],l,r]),Zs w,Zf wy,Zf (.tup [.tup [.str [],.str [c]]]),Zf l,Zf r,Zn,Zn,Zn,Zn,Zn]) rfl).trans (eY ?_);exact(eQ rfl).trans (cD (aO (ds:=[.tup [wy,.tup [.tup [.str [],.str [c]]],l,r],.str w]) rfl h))
 | chg hp hd hk hl hr=>
  rename_i al ps kvs l r;have e:(rd (.chg al kvs l r) (jV.fit (fG.lf (.tup [jV.cM al,.tup (ps.map jV.encC),l,r])) 35,[]) (w++[35])).2=jV.out al kvs l r w:=by
   have h1:=Kc.Qj (l:=l) (r:=r) al hk hw w.length (Nat.le_refl _);rw[List.take_of_length_le (by rw[List.length_append];exact Nat.le_refl _)] at h1;show(rd (.chg al kvs l r) (jV.fit l 35,[]) (w++[35])).2=_;rw[h1]
   rfl
  rw[e];exact⟨jV.Ba hx hl hr hw hn hk al ps hp hd,jV.Z9 hx hl hr hw hn hk al⟩
section
variable{x:List Nat}{s R O:D}(hx:x∈XS)(hs:s∈sides)(hR:cT x R)(hO:cT x O){w:List Nat}(hw:∀c∈w,c∈x)
theorem abQ(hw:∀c∈w,c∈x):∀c∈fQ s w,c∈x:=λc hc=>by
 unfold fQ at hc;split at hc
 ·exact hw c (List.mem_reverse.mp hc)
 ·exact hw c hc
theorem Wr:(fQ s w).length=w.length:=by
 unfold fQ;split
 ·exact List.length_reverse
 ·rfl
include hx hs hR hw
theorem Lz(hn:w.length<=30000):jf [s,R,.str w]=some (.str (fQ s (T x (ly s R) (fQ s w))))/\(∀c∈fQ s (T x (ly s R) (fQ s w)),c∈x)/\(fQ s (T x (ly s R) (fQ s w))).length<=2*w.length+1:=by
 simp only[sides,List.mem_cons,List.not_mem_nil,or_false] at hs;rcases hs with rfl|rfl
 ·obtain⟨h1,h2⟩:=XD hx hR hw hn;refine⟨cR (env:=[Zs [108,101,102,116],Zf R,Zs w]) ?_,h2⟩;unfold nq;exact(aB ((dW (by rfl)).trans (by rfl))).trans (cD (aO (ds:=[R,.str w]) (by rfl) h1))
 ·obtain⟨t1,_,t3⟩:=fG.Kr hR;obtain⟨h1,h2,h3⟩:=XD hx t1 (w:=w.reverse) (λc hc=>hw c (List.mem_reverse.mp hc)) (by rw[List.length_reverse];exact hn);show jf [.str [114,105,103,104,116],R,.str w]=some (.str (T x (fG.tn R) w.reverse).reverse)/\(∀c∈(T x (fG.tn R) w.reverse).reverse,c∈x)/\(T x (fG.tn R) w.reverse).reverse.length<=2*w.length+1;rw[List.length_reverse] at h3 ⊢;refine⟨?_,λc hc=>h2 c (List.mem_reverse.mp hc),h3⟩;generalize T x (fG.tn R) w.reverse=o at *;have rev:∀{a:Ev} {env:Ev.Env} {o:List Nat},a env = .ok (.str o) env->rJ a env = .ok (.str o.reverse) env:=λ{a env o} e=>by unfold rJ;rw[e];rfl
  refine cR (env:=[Zs [114,105,103,104,116],Zf R,Zs w]) ?_;unfold nq;refine eY ((eQ rfl).trans (cD (rev ?_)));exact aO (ds:=[fG.tn R,.str w.reverse]) (aK (aO (ds:=[R]) rfl t3) (aK (rev rfl) bK)) h1
theorem acts(hn:w.length<=30000):jK [s,R,.str w]=some (.bl (A x (ly s R) (fQ s w))):=by
 obtain⟨h1,_,_⟩:=Lz hx hs hR hw hn;refine cR (env:=[Zf s,Zf R,Zs w]) ?_;unfold zU;refine cD (bL (x:=.str (fQ s (T x (ly s R) (fQ s w)))) (y:=.str w) (aO (ds:=[s,R,.str w]) rfl h1) rfl ?_);show some (D.bl (!(fQ s (T x (ly s R) (fQ s w)) == w)))=_;unfold A
 congr 3
 generalize T x (ly s R) (fQ s w)=t;by_cases h:t=fQ s w
 ·rw[h,o7];simp
 ·have h2:fQ s t≠w:=λe=>h (by rw[<-e,o7]);rw[beq_eq_false_iff_ne.mpr h,beq_eq_false_iff_ne.mpr h2]
include hO
theorem Sd(hn:w.length<=14000):jB [s,R,O,.str w]=some (.bl (W x (ly s R) (ly s O) false true (fQ s w))):=by
 obtain⟨h1,h2,h3⟩:=Lz hx hs hR hw (by omega);have a1:=acts hx hs hO hw (by omega);have a2:=acts hx hs hO h2 (by omega);rw[o7] at a2;unfold W;generalize fQ s (T x (ly s R) (fQ s w))=b at *;generalize A x (ly s O) (T x (ly s R) (fQ s w))=u at *;generalize A x (ly s O) (fQ s w)=v at *;refine cR (env:=[Zf s,Zf R,Zf O,Zs w,Zs b]) ?_;unfold qN;refine(aB (e:=[Zf s,Zf R,Zf O,Zs w,Zs b]) (bh (e:=[Zf s,Zf R,Zf O,Zs w,Zn]) (aO (ds:=[s,R,.str w]) rfl h1) rfl)).trans ?_;have e1:zB (au jK (Zv 0 (Zv 2 (Zv 4 ak)))) [Zf s,Zf R,Zf O,Zs w,Zs b] = .ok (.bl (!u)) [Zf s,Zf R,Zf O,Zs w,Zs b]:=by
  have:=aO (g:=jK) (a:=Zv 0 (Zv 2 (Zv 4 ak))) (env:=[Zf s,Zf R,Zf O,Zs w,Zs b]) (ds:=[s,O,.str b]) rfl a2;unfold zB;rw[this]
  rfl
 refine(cD (nY (aO (ds:=[s,O,.str w]) rfl a1) e1)).trans ?_;cases u<;>cases v<;>rfl
end
def dF(p:Pl):D:=.tup [aU p.1,aU p.2.1,aU p.2.2.1,.bl p.2.2.2.1,.bl p.2.2.2.2]
section
variable{x:List Nat}{R1 R2:D}{ρ1 ρ2:Rl}(hx:x∈XS)(h1:Is x R1 ρ1)(h2:Is x R2 ρ2)
include hx h1 h2
theorem Qe{p:Pl}(hp:KT.Ok x p){z e:List Nat}(hz:∀a∈z,a∈35::x)(he:∀a∈e,a∈35::x)(hn:z.length<=1)(hn2:e.length<=1) :
  d7 [.lst [R1,R2],dF p,.str z,.str e]=some (.tup [aU (rd ρ1 p.1 z).1,aU (rd ρ2 p.2.1 ((rd ρ1 p.1 z).2++e)).1,aU (rd ρ2 p.2.2.1 z).1,.bl (p.2.2.2.1||ac ρ2 p.2.1 ((rd ρ1 p.1 z).2++e)),.bl (p.2.2.2.2||ac ρ2 p.2.2.1 z)]):=by
 obtain⟨s1,s2,s3,b1,b2⟩:=p;obtain⟨o1,o2,o3⟩:=mF h1 z hp.1 hz;have hy:∀a∈(rd ρ1 s1 z).2++e,a∈35::x:=λa ha=>by
  rcases List.mem_append.mp ha with ha|ha
  ·exact o3 a ha
  ·exact he a ha
 have hyl:(rd ρ1 s1 z).2.length+e.length<=10:=by have o4:(rd ρ1 s1 z).2.length<=2*z.length:=o2;omega
 have g1:=goes hx h1 hp.1 hz (by omega);have g2:=goes hx h2 hp.2.1 hy (by rw[List.length_append];omega);have g3:=goes hx h2 hp.2.2 hz (by omega);simp only at g1 g2 g3 ⊢;generalize(rd ρ1 s1 z).2=y at *;generalize(rd ρ1 s1 z).1=t1 at *;generalize(rd ρ2 s2 (y++e)).1=t2 at *;generalize(rd ρ2 s3 z).1=t3 at *;generalize(rd ρ2 s2 (y++e)).2=y2 at *;generalize(rd ρ2 s3 z).2=y3 at *;generalize ac ρ2 s2 (y++e)=c2 at *;generalize ac ρ2 s3 z=c3 at *;generalize ac ρ1 s1 z=c1 at *;have ga:cB (.str y) (.str e)=some (.str (y++e)):=jV.gV (by omega);refine cR (env:=[Zf (.lst [R1,R2]),Zf (dF (s1,s2,s3,b1,b2)),Zs z,Zs e,Zf (aU t1),Zs y,Zb c2,Zf (aU t2),Zs y3,Zf (aU t3),Zb c3]) ?_;unfold uU;refine(aB (e:=[Zf (.lst [R1,R2]),Zf (dF (s1,s2,s3,b1,b2)),Zs z,Zs e,Zf (aU t1),Zs y,Zb c1,Zn,Zn,Zn,Zn]) (bh (e:=[Zf (.lst [R1,R2]),Zf (dF (s1,s2,s3,b1,b2)),Zs z,Zs e,Zn,Zn,Zn,Zn,Zn,Zn,Zn]) (aO (ds:=[R1,aU s1,.str z]) rfl g1) rfl)).trans ?_;refine(aB (e:=[Zf (.lst [R1,R2]),Zf (dF (s1,s2,s3,b1,b2)),Zs z,Zs e,Zf (aU t1),Zs y,Zb c2,Zf (aU t2),Zs y2,Zn,Zn]) (bh (e:=[Zf (.lst [R1,R2]),Zf (dF (s1,s2,s3,b1,b2)),Zs z,Zs e,Zf (aU t1),Zs y,Zb c1,Zn,Zn,Zn,Zn]) (aO (ds:=[R2,aU s2,.str (y++e)]) (aK (by rfl) (aK (by rfl) (aK (bF (o:=false) (o':=false) (x:=.str y) (x0:=.str y) (y:=.str e) (by rfl) (by rfl) (by rfl) ga) bK))) g2) (by rfl))).trans ?_;refine(aB (e:=[Zf (.lst [R1,R2]),Zf (dF (s1,s2,s3,b1,b2)),Zs z,Zs e,Zf (aU t1),Zs y,Zb c2,Zf (aU t2),Zs y3,Zf (aU t3),Zb c3]) (bh (e:=[Zf (.lst [R1,R2]),Zf (dF (s1,s2,s3,b1,b2)),Zs z,Zs e,Zf (aU t1),Zs y,Zb c2,Zf (aU t2),Zs y2,Zn,Zn]) (aO (ds:=[R2,aU s3,.str z]) rfl g3) rfl)).trans ?_;cases b1<;>cases b2<;>rfl
end
open iG (cZ)
open jV (XS sides fit dh)
open fG (aU jq Rl rd eE qb Is mF lf)
open Kc (fQ)
open KT (Pl LP SP E1 E2 W ly GP ini)
open KB (pl Lv Mid kn)
open Uh (uN)
def xQ(p:Pl):NK:=.tup [.tup [.num (if p.1.1 then 1 else 0),.txt (strOf p.1.2)],.tup [.num (if p.2.1.1 then 1 else 0),.txt (strOf p.2.1.2)],.tup [.num (if p.2.2.1.1 then 1 else 0),.txt (strOf p.2.2.1.2)],.num (if p.2.2.2.1 then 1 else 0),.num (if p.2.2.2.2 then 1 else 0)]
theorem nk5(p:Pl):Gy (dF p)=some (xQ p):=by
 have h:tR (dF p)=some (xQ p):=by unfold dF xQ;simp only[tR,Jr,aU,Option.map_some]
 unfold Gy dF;unfold dF at h;simp only[h,Option.bind_some];rw[if_pos];simp[xQ,NK.dep,NK.wH]
theorem RM{p q:Pl}(h:xQ p=xQ q):p=q:=by
 obtain⟨a,b,c,d,e⟩:=p;obtain⟨a',b',c',d',e'⟩:=q;unfold xQ at h;have h0:=NK.tup.inj h;obtain⟨h1,h0⟩:=List.cons.inj h0;obtain⟨h2,h0⟩:=List.cons.inj h0;obtain⟨h5,h0⟩:=List.cons.inj h0;obtain⟨h3,h0⟩:=List.cons.inj h0;obtain⟨h4,h0⟩:=List.cons.inj h0;have one:∀{s t:fG.St},NK.tup [.num (if s.1 then 1 else 0),.txt (strOf s.2)]=NK.tup [.num (if t.1 then 1 else 0),.txt (strOf t.2)]->s=t:=λ{s t} h=>by
  have:=Uh.Je [s] [t] (by rw[List.map_cons,List.map_cons,h]);exact(List.cons.inj this).1
 have tf:∀{u v:Bool},NK.num (if u=true then 1 else 0)=NK.num (if v=true then 1 else 0)->u=v:=λ{u v} h=>by
  cases u<;>cases v<;>first|rfl|(have:=NK.num.inj h;simp at this)
 have k1:=one h1;have k2:=one h2;have k3:=one h5;have k4:=tf h3;have k5:=tf h4;simp only at k1 k2 k3 k4 k5;subst k1 k2 k3 k4 k5
 rfl
theorem K3(ps:List Pl)(q:Pl):(kJ (kn dF ps) (xQ q)).isSome=decide (q∈ps):=by
 unfold kJ kn;rw[Option.isSome_map];by_cases h:q∈ps
 ·rw[decide_eq_true h,List.find?_isSome];exact⟨(dF q,.bl true),List.mem_map.mpr ⟨q,h,rfl⟩,by simp only[(qj (nk5 q)).1,decide_true]⟩
 ·rw[decide_eq_false h];cases e:List.find? (λp=>decide (tR p.1=some (xQ q))) (ps.map λp=>(dF p,D.bl true)) with
  | none=>rfl
  | some r=>
   have h1:=List.find?_some e;have h2:=List.mem_of_find?_eq_some e;obtain⟨p,hp,rfl⟩:=List.mem_map.mp h2;have h3:tR (dF p)=some (xQ q):=of_decide_eq_true h1;rw[(qj (nk5 p)).1] at h3;cases RM (Option.some.inj h3);exact absurd hp h
theorem V7(ps:List Pl)(q:Pl)(h:q ∉ ps):rE (kn dF ps) (dF q) (xQ q) (.bl true)=kn dF (ps++[q]):=by unfold rE;rw[K3,decide_eq_false h];simp[kn]
abbrev Ef(s R O:D)(x:List Nat)(b c:Bool)(R1 R2 bg:D)(ps lv:List Pl)(n:Nat)(a10 a11 a12 a13:OD):Ev.Env:=
 [Zf s,Zf R,Zf O,Zs x,Zf (.tup [.bl b,.bl c]),Zf (.lst [R1,R2]),Zt bg,Zt (.gR (kn dF ps)),Zf (.lst (lv.map dF)),Zf (.int (n:Int)),a10,a11,a12,a13]
section
variable{x:List Nat}{R1 R2:D}{ρ1 ρ2:Rl}(hx:x∈XS)(h1:Is x R1 ρ1)(h2:Is x R2 ρ2)(s R O bg:D)(b c:Bool)
include hx h1 h2
theorem aeh{p:Pl}(hp:KT.Ok x p){a:Nat}(ha:a∈x):KT.Ok x (LP ρ1 ρ2 p a):=by
 have hz:∀b ∈ [a],b∈35::x:=λb hb=>by rw[List.mem_singleton.mp hb];exact List.mem_cons_of_mem _ ha
 obtain⟨o1,_,o3⟩:=mF h1 [a] hp.1 hz;exact⟨o1,(mF h2 _ hp.2.1 o3).1,(mF h2 [a] hp.2.2 hz).1⟩
theorem vW{p:Pl}(hp:KT.Ok x p){a:Nat}(ha:a∈x)(ps lv fu:List Pl)(hl:ps.length<=6998)(hl2:fu.length<=6998)(n:Nat)(a13:OD) :
  (LP ρ1 ρ2 p a∈ps/\fW (Ef s R O x b c R1 R2 bg ps lv n (Zl (fu.map dF)) (Zf (dF p)) (Zs [a]) a13) = .nx (Ef s R O x b c R1 R2 bg ps lv n (Zl (fu.map dF)) (Zf (dF p)) (Zs [a]) (Zf (dF (LP ρ1 ρ2 p a)))))\/
  (LP ρ1 ρ2 p a ∉ ps/\fW (Ef s R O x b c R1 R2 bg ps lv n (Zl (fu.map dF)) (Zf (dF p)) (Zs [a]) a13) = .nx (Ef s R O x b c R1 R2 bg (ps++[LP ρ1 ρ2 p a]) lv n (Zl ((fu++[LP ρ1 ρ2 p a]).map dF)) (Zf (dF p)) (Zs [a]) (Zf (dF (LP ρ1 ρ2 p a))))):=by
 have hz:∀b ∈ [a],b∈35::x:=λb hb=>by rw[List.mem_singleton.mp hb];exact List.mem_cons_of_mem _ ha
 have hr:=Qe hx h1 h2 hp hz (e:=[]) (λa ha=>by simp at ha) (by simp) (by simp);rw[List.append_nil] at hr;have hr2:d7 [.lst [R1,R2],dF p,.str [a],.str []]=some (dF (LP ρ1 ρ2 p a)):=hr;clear hr;generalize LP ρ1 ρ2 p a=q at *;have s1:aJ (au d7 (Zv 5 (Zv 11 (Zv 12 (aa (Zw []) ak))))) (aj 13) (Ef s R O x b c R1 R2 bg ps lv n (Zl (fu.map dF)) (Zf (dF p)) (Zs [a]) a13) = .nx (Ef s R O x b c R1 R2 bg ps lv n (Zl (fu.map dF)) (Zf (dF p)) (Zs [a]) (Zf (dF q))):=
  bh (e:=Ef s R O x b c R1 R2 bg ps lv n (Zl (fu.map dF)) (Zf (dF p)) (Zs [a]) a13) (aO (ds:=[.lst [R1,R2],dF p,.str [a],.str []]) rfl hr2) rfl
 have in0:qZ (dF q) (.gR (kn dF ps))=some (.bl (!decide (q∈ps))):=by unfold qZ;simp only[nk5 q,Option.map_some,K3]
 have t1:cP (ao qZ 13 (bf 7)) (Ef s R O x b c R1 R2 bg ps lv n (Zl (fu.map dF)) (Zf (dF p)) (Zs [a]) (Zf (dF q))) = .ok (!decide (q∈ps)) (Ef s R O x b c R1 R2 bg ps lv n (Zl (fu.map dF)) (Zf (dF p)) (Zs [a]) (Zf (dF q))):=
  gk (bF (o:=false) (o':=false) (x:=dF q) (x0:=dF q) (y:=.gR (kn dF ps)) rfl rfl rfl in0)
 unfold fW;rw[aB s1];by_cases hm:q∈ps
 ·rw[decide_eq_true hm] at t1;exact .inl ⟨hm,(dW t1).trans rfl⟩
 ·rw[decide_eq_false hm] at t1;refine .inr ⟨hm,(eQ t1).trans ?_⟩;have s4:=uN (i:=7) (k:=aP 13) (a:=jg (.bl true)) (env:=Ef s R O x b c R1 R2 bg ps lv n (Zl (fu.map dF)) (Zf (dF p)) (Zs [a]) (Zf (dF q))) (e1:=Ef s R O x b c R1 R2 bg ps lv n (Zl (fu.map dF)) (Zf (dF p)) (Zs [a]) (Zf (dF q))) (e2:=Ef s R O x b c R1 R2 bg ps lv n (Zl (fu.map dF)) (Zf (dF p)) (Zs [a]) (Zf (dF q))) (d:=.bl true) (kd:=dF q) (z:=.gR (kn dF ps)) (o:=true) (q:=xQ q) (kvs:=kn dF ps) rfl rfl rfl rfl (nk5 q)
   (by rw[kn,List.length_map];exact Nat.lt_of_le_of_lt hl (by decide))
  rw[V7 ps q hm] at s4;rw[aB s4];refine(cZ (i:=10) (x0:=fu.map dF) (xs:=fu.map dF) (d:=dF q) (e:=Ef s R O x b c R1 R2 bg (ps++[q]) lv n (Zl (fu.map dF)) (Zf (dF p)) (Zs [a]) (Zf (dF q))) rfl rfl rfl (by rw[List.length_map];exact Nat.lt_of_le_of_lt hl2 (by decide))).trans ?_;rw[show fu.map dF++[dF q]=(fu++[q]).map dF by rw[List.map_append];rfl]
  rfl
theorem few{n:Nat}{Av done fu ps:List Pl}{S:Pl->Bool}{p0:Pl}(M:Mid (LP ρ1 ρ2) S x p0 n Av done fu ps)(hok:∀q∈ps,KT.Ok x q):ps.length<=6998/\fu.length<=6998:=by have h:=Nat.le_trans (KB.qi (KT.U x) ps M.nd λq hq=>KT.RD (hok q hq)) (KT.T3 hx);refine⟨h,?_⟩;rw[M.eq,List.length_append] at h;omega
theorem Mt{S:Pl->Bool}{p0:Pl}{n:Nat}{lv Av done:List Pl}(B:Lv (LP ρ1 ρ2) S x p0 n lv Av){p:Pl}(hp:p∈lv)(hpo:KT.Ok x p):∀(rest dn:List Nat) (fu ps:List Pl) (a12 a13:OD),x=dn++rest->Mid (LP ρ1 ρ2) S x p0 n Av done fu ps->(∀q∈ps,KT.Ok x q)->(∀a∈dn,LP ρ1 ρ2 p a∈ps)->
  ∃NQ ps' Ye Yd,fM (aj 12) fW (pP rest) (Ef s R O x b c R1 R2 bg ps lv n (Zl (fu.map dF)) (Zf (dF p)) a12 a13) = .nx (Ef s R O x b c R1 R2 bg ps' lv n (Zl (NQ.map dF)) (Zf (dF p)) Ye Yd)/\Mid (LP ρ1 ρ2) S x p0 n Av done NQ ps'/\(∀q∈ps',KT.Ok x q)/\∀a∈x,LP ρ1 ρ2 p a∈ps':=by
 intro rest
 induction rest with
 | nil=>
  intro dn fu ps a12 a13 he M hok hc;rw[List.append_nil] at he;exact⟨fu,ps,a12,a13,rfl,M,hok,by rw[he] at *;exact hc⟩
 | cons a rest ih=>
  intro dn fu ps a12 a13 he M hok hc;have ha:a∈x:=by rw[he];simp
  have he':x=(dn++[a])++rest:=by rw[he];simp
  have hg:aj 12 (.str [a]) (Ef s R O x b c R1 R2 bg ps lv n (Zl (fu.map dF)) (Zf (dF p)) a12 a13)=some (Ef s R O x b c R1 R2 bg ps lv n (Zl (fu.map dF)) (Zf (dF p)) (Zs [a]) a13):=rfl;obtain⟨l1,l2⟩:=few hx h1 h2 M hok;show ∃NQ ps' Ye Yd,fM (aj 12) fW (.str [a]::pP rest) _=_/\_;rcases vW hx h1 h2 s R O bg b c hpo ha ps lv fu l1 l2 n a13 with ⟨hm,h⟩|⟨hm,h⟩
  ·rw[KB.ym hg h];refine ih (dn++[a]) fu ps _ _ he' M hok λd hd=>?_;rcases List.mem_append.mp hd with hd|hd
   ·exact hc d hd
   ·rw[List.mem_singleton.mp hd];exact hm
  ·rw[KB.ym hg h];refine ih (dn++[a]) _ _ _ _ he' (M.add B hp ha hm) (λq hq=>?_) λd hd=>?_
   ·rcases List.mem_append.mp hq with hq|hq
    ·exact hok q hq
    ·rw[List.mem_singleton.mp hq];exact aeh hx h1 h2 hpo ha
   ·rcases List.mem_append.mp hd with hd|hd
    ·exact List.mem_append_left _ (hc d hd)
    ·rw[List.mem_singleton.mp hd];exact List.mem_append_right _ (List.mem_singleton.mpr rfl)
theorem Qd{p:Pl}(hp:KT.Ok x p)(ps lv:List Pl)(n:Nat)(a10 a12 a13:OD) :
  cP (aH j4 (xf (au d7 (Zv 5 (Zv 11 (aa (Zw [35]) (aa (Zw [35]) ak))))) (vo (Zi 3)) kO) (bf 4)) (Ef s R O x b c R1 R2 bg ps lv n a10 (Zf (dF p)) a12 a13) = .ok (SP ρ1 ρ2 b c p) (Ef s R O x b c R1 R2 bg ps lv n a10 (Zf (dF p)) a12 a13):=by
 have hz:∀b ∈ [35],b∈35::x:=λb hb=>by rw[List.mem_singleton.mp hb];exact List.mem_cons_self ..
 have hr:=Qe hx h1 h2 hp hz hz (by simp) (by simp);unfold KT.SP;have e1:(p.2.2.2.1||KW.ac ρ2 p.2.1 ((rd ρ1 p.1 [35]).2++[35]))=E1 ρ1 ρ2 p:=rfl;have e2:(p.2.2.2.2||KW.ac ρ2 p.2.2.1 [35])=E2 ρ2 p:=rfl;rw[e1,e2] at hr;generalize E1 ρ1 ρ2 p=u1 at *;generalize E2 ρ2 p=u2 at *;generalize aU (rd ρ1 p.1 [35]).1=y1 at *;generalize aU (rd ρ2 p.2.1 ((rd ρ1 p.1 [35]).2++[35])).1=y2 at *;generalize aU (rd ρ2 p.2.2.1 [35]).1=y3 at *;clear e1 e2;have sl:xf (au d7 (Zv 5 (Zv 11 (aa (Zw [35]) (aa (Zw [35]) ak))))) (vo (Zi 3)) kO (Ef s R O x b c R1 R2 bg ps lv n a10 (Zf (dF p)) a12 a13) = .ok (.tup [.bl u1,.bl u2]) (Ef s R O x b c R1 R2 bg ps lv n a10 (Zf (dF p)) a12 a13):=by
  have:=aO (g:=d7) (a:=Zv 5 (Zv 11 (aa (Zw [35]) (aa (Zw [35]) ak)))) (env:=Ef s R O x b c R1 R2 bg ps lv n a10 (Zf (dF p)) a12 a13) (ds:=[.lst [R1,R2],dF p,.str [35],.str [35]]) rfl hr;unfold xf;rw[this]
  rfl
 refine gk (bL (x:=.tup [.bl u1,.bl u2]) (y:=.tup [.bl b,.bl c]) sl rfl ?_);cases u1<;>cases u2<;>cases b<;>cases c<;>rfl
theorem UW{p0:Pl}{n:Nat}{lv Av:List Pl}(B:Lv (LP ρ1 ρ2) (SP ρ1 ρ2 b c) x p0 n lv Av):∀(rest done fu ps:List Pl) (a11 a12 a13:OD),lv=done++rest->Mid (LP ρ1 ρ2) (SP ρ1 ρ2 b c) x p0 n Av done fu ps->(∀q∈ps,KT.Ok x q)->
  (∃e,fM (aj 11) fV (rest.map dF) (Ef s R O x b c R1 R2 bg ps lv n (Zl (fu.map dF)) a11 a12 a13) = .rt false (.int (n:Int)) e/\∃p∈lv,SP ρ1 ρ2 b c p=true)\/
  (∃NQ ps' b11 Ye Yd,fM (aj 11) fV (rest.map dF) (Ef s R O x b c R1 R2 bg ps lv n (Zl (fu.map dF)) a11 a12 a13) = .nx (Ef s R O x b c R1 R2 bg ps' lv n (Zl (NQ.map dF)) b11 Ye Yd)/\Mid (LP ρ1 ρ2) (SP ρ1 ρ2 b c) x p0 n Av lv NQ ps'/\∀q∈ps',KT.Ok x q):=by
 intro rest
 induction rest with
 | nil=>
  intro done fu ps a11 a12 a13 he M hok;rw[List.append_nil] at he;exact .inr ⟨fu,ps,a11,a12,a13,rfl,by rw[he] at *;exact M,hok⟩
 | cons p rest ih=>
  intro done fu ps a11 a12 a13 he M hok;have hp:p∈lv:=by rw[he];simp
  have hpo:KT.Ok x p:=hok p (by rw[M.eq];exact List.mem_append_left _ (B.sub p hp));have he':lv=(done++[p])++rest:=by rw[he];simp
  have hg:aj 11 (dF p) (Ef s R O x b c R1 R2 bg ps lv n (Zl (fu.map dF)) a11 a12 a13)=some (Ef s R O x b c R1 R2 bg ps lv n (Zl (fu.map dF)) (Zf (dF p)) a12 a13):=rfl;have ht:=Qd hx h1 h2 s R O bg b c hpo ps lv n (Zl (fu.map dF)) a12 a13;rw[List.map_cons];cases hS:SP ρ1 ρ2 b c p with
  | true=>
   rw[hS] at ht;have hb:fV (Ef s R O x b c R1 R2 bg ps lv n (Zl (fu.map dF)) (Zf (dF p)) a12 a13) = .rt false (.int (n:Int)) (Ef s R O x b c R1 R2 bg ps lv n (Zl (fu.map dF)) (Zf (dF p)) a12 a13):=eY ((eQ ht).trans rfl);exact .inl ⟨_,KB.Lg hg hb,p,hp,hS⟩
  | false=>
   rw[hS] at ht;obtain⟨NQ,ps',Ye,Yd,g1,g2,g3,g4⟩:=Mt hx h1 h2 s R O bg b c B hp hpo x [] fu ps a12 a13 rfl M hok λa ha=>by simp at ha
   have u1:cY (cP (aH j4 (xf (au d7 (Zv 5 (Zv 11 (aa (Zw [35]) (aa (Zw [35]) ak))))) (vo (Zi 3)) kO) (bf 4))) (bA (aP 9)) bN (Ef s R O x b c R1 R2 bg ps lv n (Zl (fu.map dF)) (Zf (dF p)) a12 a13) = .nx (Ef s R O x b c R1 R2 bg ps lv n (Zl (fu.map dF)) (Zf (dF p)) a12 a13):=(dW ht).trans rfl;have hb:fV (Ef s R O x b c R1 R2 bg ps lv n (Zl (fu.map dF)) (Zf (dF p)) a12 a13) = .nx (Ef s R O x b c R1 R2 bg ps' lv n (Zl (NQ.map dF)) (Zf (dF p)) Ye Yd):=by unfold fV;rw[aB u1];exact(fX (ds:=pP x) (e:=Ef s R O x b c R1 R2 bg ps lv n (Zl (fu.map dF)) (Zf (dF p)) a12 a13) rfl).trans g1
   rw[KB.ym hg hb];exact ih (done++[p]) NQ ps' _ _ _ he' (g2.next hS g4) g3
theorem yC{p0:Pl}:∀(m n:Nat) (lv ps:List Pl) (a10 a11 a12 a13:OD),n+m=7000->Lv (LP ρ1 ρ2) (SP ρ1 ρ2 b c) x p0 n lv ps->(∀q∈ps,KT.Ok x q)->
  (∃v e,dU (cP (ao qC 8 (cC ak))) dg m (Ef s R O x b c R1 R2 bg ps lv n a10 a11 a12 a13) = .rt false (.int (v.length:Int)) e/\v.length<=7000/\(∀a∈v,a∈x)/\SP ρ1 ρ2 b c (pl (LP ρ1 ρ2) p0 v)=true/\∀u:List Nat,(∀a∈u,a∈x)->u.length<v.length->SP ρ1 ρ2 b c (pl (LP ρ1 ρ2) p0 u)=false)\/
  (∃e,dU (cP (ao qC 8 (cC ak))) dg m (Ef s R O x b c R1 R2 bg ps lv n a10 a11 a12 a13) = .nx e/\∀v:List Nat,(∀a∈v,a∈x)->SP ρ1 ρ2 b c (pl (LP ρ1 ρ2) p0 v)=false):=by
 intro m
 induction m with
 | zero=>
  intro n lv ps a10 a11 a12 a13 hm B hok;have:=Nat.le_trans (KB.qi (KT.U x) ps B.nd λq hq=>KT.RD (hok q hq)) (KT.T3 hx);have:=B.cnt;omega
 | succ m ih=>
  intro n lv ps a10 a11 a12 a13 hm B hok;cases lv with
  | nil=>
   have ht:cP (ao qC 8 (cC ak)) (Ef s R O x b c R1 R2 bg ps [] n a10 a11 a12 a13) = .ok false (Ef s R O x b c R1 R2 bg ps [] n a10 a11 a12 a13):=rfl;refine .inr ⟨_,KB.acY ht,λv hv=>?_⟩;obtain⟨u,u1,u2,u3⟩:=B.none v.length v rfl hv;rw[<-u3];exact B.no u u1 u2
  | cons p lv=>
   have ht:cP (ao qC 8 (cC ak)) (Ef s R O x b c R1 R2 bg ps (p::lv) n a10 a11 a12 a13) = .ok true (Ef s R O x b c R1 R2 bg ps (p::lv) n a10 a11 a12 a13):=rfl;have f0:dq 10 (cC ak) (Ef s R O x b c R1 R2 bg ps (p::lv) n a10 a11 a12 a13) = .nx (Ef s R O x b c R1 R2 bg ps (p::lv) n (Zl (([]:List Pl).map dF)) a11 a12 a13):=rfl;have hit:ik (aP 8) (Ef s R O x b c R1 R2 bg ps (p::lv) n (Zl (([]:List Pl).map dF)) a11 a12 a13) = .ok ((p::lv).map dF) (Ef s R O x b c R1 R2 bg ps (p::lv) n (Zl (([]:List Pl).map dF)) a11 a12 a13):=rfl;rcases UW hx h1 h2 s R O bg b c B (p::lv) [] [] ps a11 a12 a13 rfl B.begin hok with ⟨e,g1,q,hq,hS⟩|⟨NQ,ps',b11,Ye,Yd,g1,M,hok'⟩
   ·obtain⟨v,v1,v2,v3⟩:=B.here q hq;have hb:dg (Ef s R O x b c R1 R2 bg ps (p::lv) n a10 a11 a12 a13) = .rt false (.int (n:Int)) e:=by
     unfold dg;rw[aB f0];exact eY ((fX hit).trans g1)
    refine .inl ⟨v,e,?_,by omega,v1,by rw[v3];exact hS,λu hu hl=>B.no u hu (by omega)⟩;rw[KB.Xc ht hb,v2]
   ·have hb:dg (Ef s R O x b c R1 R2 bg ps (p::lv) n a10 a11 a12 a13) = .nx (Ef s R O x b c R1 R2 bg ps' NQ (n+1) (Zf (.lst (NQ.map dF))) b11 Ye Yd):=by
     unfold dg;rw[aB f0];rw[aB ((fX hit).trans g1)]
     rfl
    rw[KB.Xd ht hb];exact ih (n+1) NQ ps' _ _ _ _ (by omega) (B.next M (by simp)) hok'
end
theorem abH{x:List Nat}{s R O:D}(hx:x∈XS)(hs:s∈sides)(hR:cT x R)(hO:cT x O)(b c:Bool) :
  ∃r,oY [s,R,O,.str x,.tup [.bl b,.bl c]]=some r/\((r = .non/\∀v,(∀a∈v,a∈x)->W x (ly s R) (ly s O) b c v=false)\/
   ∃v:List Nat,r = .int (v.length:Int)/\v.length<=7000/\(∀a∈v,a∈x)/\W x (ly s R) (ly s O) b c v=true/\∀u:List Nat,(∀a∈u,a∈x)->u.length<v.length->W x (ly s R) (ly s O) b c u=false):=by
 have hR1:=GP (s:=s) hR;have hR2:=GP (s:=s) hO;have z0:∀Q:D,jq x (ini (lf Q)):=λQ=>⟨Nat.zero_le _,λc hc=>by simp[ini] at hc⟩;have aht:aC (aJ (cC (Zv 1 (Zv 2 ak))) (aj 5)) (cY (cP (ao j4 0 (Zw [114,105,103,104,116]))) (aJ (cC (aa (au gb (Zv 1 ak)) (aa (au gb (Zv 2 ak)) ak))) (aj 5)) bN) [Zf s,Zf R,Zf O,Zs x,Zf (.tup [.bl b,.bl c]),Zn,Zn,Zn,Zn,Zn,Zn,Zn,Zn,Zn] = .nx [Zf s,Zf R,Zf O,Zs x,Zf (.tup [.bl b,.bl c]),Zf (.lst [ly s R,ly s O]),Zn,Zn,Zn,Zn,Zn,Zn,Zn,Zn]:=by obtain⟨wy,ch,l,r,rfl,_⟩:=hR;obtain⟨wy2,ch2,l2,r2,rfl,_⟩:=hO;simp only[sides,List.mem_cons,List.not_mem_nil,or_false] at hs;rcases hs with rfl|rfl<;>rfl
 generalize ly s R=R1 at *;generalize ly s O=R2 at *;have begun:pH [Zf s,Zf R,Zf O,Zs x,Zf (.tup [.bl b,.bl c]),Zf (.lst [R1,R2]),Zn,Zn,Zn,Zn,Zn,Zn,Zn,Zn] = .ok (.lst [aU (ini (lf R1)),aU (ini (lf R2))]) [Zf s,Zf R,Zf O,Zs x,Zf (.tup [.bl b,.bl c]),Zf (.lst [R1,R2]),Zn,Zn,Zn,Zn,Zn,Zn,Zn,Zn]:=by
  have one:∀Q,cT x Q->bV (aa (au bQ (aa (ao bY 14 (Zi 2)) (aa (Zw [35]) ak))) (aa (Zw []) ak)) ([Zf s,Zf R,Zf O,Zs x,Zf (.tup [.bl b,.bl c]),Zf (.lst [R1,R2]),Zn,Zn,Zn,Zn,Zn,Zn,Zn,Zn]++[Zf Q]) = .ok (aU (ini (lf Q))) ([Zf s,Zf R,Zf O,Zs x,Zf (.tup [.bl b,.bl c]),Zf (.lst [R1,R2]),Zn,Zn,Zn,Zn,Zn,Zn,Zn,Zn]++[Zf Q]):=by intro Q hQ;obtain⟨wy,ch,l,r,rfl,h⟩:=hQ;exact dO (ds:=[.bl (fit l 35),.str []]) (aK (aO (ds:=[l,.str [35]]) rfl (dh x hx l h.left 35 (List.mem_cons_self ..))) rfl) (by show 2<=sizeLine;decide)
  exact S9 [R1,R2] (λQ=>Q) (λQ=>aU (ini (lf Q))) rfl rfl rfl (λQ hQ=>one Q (by simp only[List.mem_cons,List.not_mem_nil,or_false] at hQ;rcases hQ with rfl|rfl;exact hR1;exact hR2)) (by show 2<=sizeLine;decide)
 have i1:=qb hR1;have i2:=qb hR2;have hb:∀o,aC (dU (cP (ao qC 8 (cC ak))) (dg) 7000) (bA (jg .non)) (Ef s R O x b c R1 R2 (.lst [aU (ini (lf R1)),aU (ini (lf R2))]) [KT.p0 R1 R2] [KT.p0 R1 R2] 0 none none none none)=o->pA (envOf 14 [s,R,O,.str x,.tup [.bl b,.bl c]])=o:=by
  intro o ho;rw[<-ho];have u3:dq 7 (o5 (bV (aa (ao bY 6 (Zi 0)) (aa (ao bY 6 (Zi 1)) (aa (ao bY 6 (Zi 1)) (aa (jg (.bl false)) (aa (jg (.bl false)) ak)))))) (jg (.bl true))) [Zf s,Zf R,Zf O,Zs x,Zf (.tup [.bl b,.bl c]),Zf (.lst [R1,R2]),Zl [aU (ini (lf R1)),aU (ini (lf R2))],Zn,Zn,Zn,Zn,Zn,Zn,Zn] = .nx [Zf s,Zf R,Zf O,Zs x,Zf (.tup [.bl b,.bl c]),Zf (.lst [R1,R2]),Zl [aU (ini (lf R1)),aU (ini (lf R2))],Zt (.gR (kn dF [KT.p0 R1 R2])),Zn,Zn,Zn,Zn,Zn,Zn]:=by refine ug (d:=.gR [(dF (KT.p0 R1 R2),.bl true)]) (e:=[Zf s,Zf R,Zf O,Zs x,Zf (.tup [.bl b,.bl c]),Zf (.lst [R1,R2]),Zl [aU (ini (lf R1)),aU (ini (lf R2))],Zn,Zn,Zn,Zn,Zn,Zn,Zn]) ?_;have ek:bV (aa (ao bY 6 (Zi 0)) (aa (ao bY 6 (Zi 1)) (aa (ao bY 6 (Zi 1)) (aa (jg (.bl false)) (aa (jg (.bl false)) ak))))) [Zf s,Zf R,Zf O,Zs x,Zf (.tup [.bl b,.bl c]),Zf (.lst [R1,R2]),Zl [aU (ini (lf R1)),aU (ini (lf R2))],Zn,Zn,Zn,Zn,Zn,Zn,Zn] = .ok (dF (KT.p0 R1 R2)) [Zf s,Zf R,Zf O,Zs x,Zf (.tup [.bl b,.bl c]),Zf (.lst [R1,R2]),Zl [aU (ini (lf R1)),aU (ini (lf R2))],Zn,Zn,Zn,Zn,Zn,Zn,Zn]:=rfl;have n0:=nk5 (KT.p0 R1 R2);unfold o5;rw[ek];generalize dF (KT.p0 R1 R2)=k0 at *;simp only[bindR,jg,n0]
  unfold pA;generalize aC (dU (cP (ao qC 8 (cC ak))) (dg) 7000) (bA (jg .non))=rest;have as:∀(a b c:bW) (e:Ev.Env),aC a (aC b c) e=aC (aC a b) c e:=λa b c e=>by
   unfold aC;cases a e<;>rfl
  rw[as];refine(aB aht).trans ?_;refine(aB (e:=[Zf s,Zf R,Zf O,Zs x,Zf (.tup [.bl b,.bl c]),Zf (.lst [R1,R2]),Zl [aU (ini (lf R1)),aU (ini (lf R2))],Zn,Zn,Zn,Zn,Zn,Zn,Zn]) (ug begun)).trans ?_;refine(aB u3).trans ?_;refine(aB (a:=aJ (au wC (aa (bf 7) ak)) (aj 8)) (e:=[Zf s,Zf R,Zf O,Zs x,Zf (.tup [.bl b,.bl c]),Zf (.lst [R1,R2]),Zl [aU (ini (lf R1)),aU (ini (lf R2))],Zt (.gR (kn dF [KT.p0 R1 R2])),Zf (.lst [dF (KT.p0 R1 R2)]),Zn,Zn,Zn,Zn,Zn]) rfl).trans ?_;exact aB rfl
 have wi:=λv=>KT.afr (x:=x) (R1:=R1) hR2 b c v;rcases yC hx i1 i2 s R O (.lst [aU (ini (lf R1)),aU (ini (lf R2))]) b c (p0:=KT.p0 R1 R2) 7000 0 [KT.p0 R1 R2] [KT.p0 R1 R2] none none none none rfl Lv.start (λq hq=>by rw[List.mem_singleton.mp hq];exact⟨z0 _,z0 _,z0 _⟩) with ⟨v,e,g1,g0,g2,g3,g4⟩|⟨e,g1,g2⟩
 ·exact⟨_,cR (hb _ (eY g1)),.inr ⟨v,rfl,g0,g2,by rw[<-wi v];exact g3,λu hu hl=>by rw[<-wi u];exact g4 u hu hl⟩⟩
 ·exact⟨.non,cR (hb _ ((aB g1).trans rfl)),.inl ⟨rfl,λv hv=>by rw[<-wi v];exact g2 v hv⟩⟩
open iG (SG oth jt z9 pC)
open jV (XS sides kI xW encC)
noncomputable def Ei(i:Int):bW:=aC (aJ (aH bY (aH bY (ao bY 2 (Zi 1)) (dC aX 0 (aa (au gU (aa (ao bY 2 (Zi 1)) ak)) ak))) (jg (.int i))) (aj 3)) (aC (cY (jX (cP (ao j4 3 (Zw []))) (cP (aH qC (dC aX 0 (aa (Zi 4) ak)) (Zi 1)))) (bA (dC iB 0 (Zv 1 ak))) bN) (aC (dq 4 (m8)) (aC (aJ (bV (Zv 3 (aa (ao bY 4 (dC aX 0 (aa (au gU (aa (bf 4) ak)) ak))) ak))) (aj 5)) (aC (aJ (aH bY (cC (aa (Zw [111,110,99,101]) (aa (Zw [97,108,111,110,103]) ak))) (dC aX 0 (aa (Zi 2) ak))) (aj 6)) (bA (bV (Zv 6 (aa (bV (Zv 5 ak)) (aa (dC d9 0 (Zv 1 ak)) (aa (dC d9 0 (Zv 1 ak)) ak))))))))))
noncomputable def abI(i:Int):List D->Option (D×D):=jF 7 (Ei i)
theorem vV(a a2:OD):∀x∈XS,∀c∈x,dq 4 m8 [a,Zs x,a2,Zs [c],Zn,Zn,Zn] = .nx [a,Zs x,a2,Zs [c],Zl (oth x c),Zn,Zn]:=by
 intro x hx c hc;have hx':x∈iG.XS:=hx;unfold iG.XS at hx';simp only[List.mem_cons,List.not_mem_nil,or_false] at hx';rcases hx' with rfl|rfl|rfl|rfl|rfl<;>simp only[List.mem_cons,List.not_mem_nil,or_false] at hc
 ·subst hc;kernel_rfl
 ·rcases hc with rfl|rfl<;>kernel_rfl
 ·rcases hc with rfl|rfl|rfl<;>kernel_rfl
 ·rcases hc with rfl|rfl|rfl|rfl<;>kernel_rfl
 ·rcases hc with rfl|rfl|rfl<;>kernel_rfl
theorem aaa{x:List Nat}{c:Nat}{d:D}(h:d∈oth x c):∃t:List Nat,d = .str t/\t.length<=1/\∀a∈t,a∈x:=by
 unfold iG.oth at h;obtain⟨t,ht,rfl⟩:=List.mem_map.mp h;refine⟨t,rfl,?_⟩;rcases List.mem_append.mp (List.mem_filter.mp ht).1 with h1|h1
 ·obtain⟨a,ha,rfl⟩:=List.mem_map.mp h1;exact⟨Nat.le_refl _,λb hb=>by rw[List.mem_singleton.mp hb];exact ha⟩
 ·rw[List.mem_singleton.mp h1];exact⟨Nat.zero_le _,λb hb=>by simp at hb⟩
theorem Dq{x:List Nat}{c:Nat}(hx:x∈XS):0<(oth x c).length/\(oth x c).length<=5:=by have h4:=pC x hx;have hm:D.str []∈oth x c:=List.mem_map.mpr ⟨[],List.mem_filter.mpr ⟨List.mem_append_right _ (List.mem_singleton.mpr rfl),by simp⟩,rfl⟩;refine⟨List.length_pos_of_mem hm,?_⟩;unfold iG.oth;rw[List.length_map];refine Nat.le_trans (List.length_filter_le _ _) ?_;rw[List.length_append,List.length_map,List.length_singleton];omega
abbrev Two:=List Nat×List Nat
def Te(p:Two):D:=.tup [.str p.1,.str p.2]
def Sm(x t:List Nat):Prop:=t=[]\/∃a∈x,t=[a]
theorem afk{x:List Nat}{ch:D}(h:xW x ch):∃cs:List Two,ch = .tup (cs.map Te)/\0<cs.length/\cs.length<=4/\∀p∈cs,Sm x p.1/\Sm x p.2:=by
 cases h with
 | put hc=>
  rename_i c;exact⟨[([],[c])],rfl,by show 0<1;decide,by show 1<=4;decide,λp hp=>by rw[List.mem_singleton.mp hp];exact⟨.inl rfl,.inr ⟨c,hc,rfl⟩⟩⟩
 | chg h0 h4 hp=>
  rename_i ps;refine⟨ps.map λp=>([p.1],p.2),by rw[List.map_map];rfl,by rw[List.length_map];exact h0,by rw[List.length_map];exact h4,λq hq=>?_⟩;obtain⟨p,hp1,rfl⟩:=List.mem_map.mp hq;obtain⟨g1,g2,g3⟩:=hp p hp1;refine⟨.inr ⟨p.1,g1,rfl⟩,?_⟩
  match hpp:p.2,g2,g3 with
  | [],_,_=>exact .inl rfl
  | [a],_,g3=>exact .inr ⟨a,g3 a (List.mem_singleton.mpr rfl),rfl⟩
  | _::_::_,g2,_=>simp at g2
section
variable{x:List Nat}(hx:x∈XS){R:D}(hR:cT x R)(i:Int)(sel:Two->List Nat)(hi:∀p,bY (Te p) (.int i)=some (.str (sel p)))(aeL:∀p,Sm x p.1/\Sm x p.2->Sm x (sel p))
include hx hR hi aeL
theorem near(n:Int):∃Q n',abI i [.lst [.int n],.str x,R]=some (Q,.lst [.int n'])/\cT x Q:=by
 obtain⟨wy,ch,l,r,rfl,hRO⟩:=hR;obtain⟨cs,rfl,c0,c4,hcs⟩:=afk hRO.chg;generalize hRR:D.tup [wy,.tup (cs.map Te),l,r]=R;obtain⟨j,hj,ej⟩:=dig n cs.length c0;have hone:=aeL cs[j] (hcs _ (List.getElem_mem hj));generalize hon:sel cs[j]=one at hone;have hcl:(cs.map Te).length=cs.length:=List.length_map _;have ix1:∀(n:Int) (a3 a4 a5 a6:OD),ao bY 2 (Zi 1) [Zl [.int n],Zs x,Zf R,a3,a4,a5,a6] = .ok (.tup (cs.map Te)) [Zl [.int n],Zs x,Zf R,a3,a4,a5,a6]:=λn a3 a4 a5 a6=>by
  subst hRR;exact bF (o:=false) (o':=false) (x:=.tup [wy,.tup (cs.map Te),l,r]) (x0:=.tup [wy,.tup (cs.map Te),l,r]) (y:=.int 1) rfl rfl rfl rfl
 have s1:aJ (aH bY (aH bY (ao bY 2 (Zi 1)) (dC aX 0 (aa (au gU (aa (ao bY 2 (Zi 1)) ak)) ak))) (jg (.int i))) (aj 3) [Zl [.int n],Zs x,Zf R,Zn,Zn,Zn,Zn] = .nx [Zl [.int (n / (cs.length:Int))],Zs x,Zf R,Zs one,Zn,Zn,Zn]:=by
  refine bh (d:=.str one) (e:=[Zl [.int (n / (cs.length:Int))],Zs x,Zf R,Zn,Zn,Zn,Zn]) ?_ rfl;refine bL (x:=Te cs[j]) (y:=.int i) (e1:=[Zl [.int (n / (cs.length:Int))],Zs x,Zf R,Zn,Zn,Zn,Zn]) ?_ rfl (by rw[hi,hon]);refine bL (x:=.tup (cs.map Te)) (y:=.int (n % (cs.length:Int))) (e1:=[Zl [.int n],Zs x,Zf R,Zn,Zn,Zn,Zn]) (ix1 _ _ _ _ _) ?_ ?_
  ·refine gf (x:=.lst [.int n]) (x0:=.lst [.int n]) (ds:=[.int (cs.length:Int)]) (e1:=[Zl [.int n],Zs x,Zf R,Zn,Zn,Zn,Zn]) rfl ?_ rfl (jt _ cs.length c0 (by omega));refine aK (aO (ds:=[.tup (cs.map Te)]) (aK (ix1 _ _ _ _ _) bK) ?_) bK;show some (D.int ((cs.map Te).length:Int))=_;rw[hcl]
  ·rw[ej];exact iJ (by rw[List.getElem?_map,List.getElem?_eq_getElem hj];rfl)
 generalize n / (cs.length:Int)=n1 at *;obtain⟨d4,hd4,e4⟩:=dig n1 4 (by decide);obtain⟨w0,ch0,l0,r0,k0,q0,hQ0⟩:=fG.rule n1 x hx;obtain⟨w1,ch1,l1,r1,k1,q1,hQ1⟩:=fG.rule (n1 / 4) x hx;rcases hone with rfl|⟨a,ha,rfl⟩
 ·refine⟨.tup [w0,ch0,l0,r0],k0,iW (env:=[Zl [.int k0],Zs x,Zf R,Zs [],Zn,Zn,Zn]) ?_ rfl,w0,ch0,l0,r0,rfl,hQ0⟩;unfold Ei;refine(aB s1).trans (eY ((eQ (e:=[Zl [.int n1],Zs x,Zf R,Zs [],Zn,Zn,Zn]) rfl).trans ?_));exact cD (gf (x:=.lst [.int n1]) (x0:=.lst [.int n1]) (ds:=[.str x]) (e1:=[Zl [.int n1],Zs x,Zf R,Zs [],Zn,Zn,Zn]) rfl rfl rfl q0)
 have t0:jX (cP (ao j4 3 (Zw []))) (cP (aH qC (dC aX 0 (aa (Zi 4) ak)) (Zi 1))) [Zl [.int n1],Zs x,Zf R,Zs [a],Zn,Zn,Zn] = .ok (!((d4:Int) == 1)) [Zl [.int (n1 / 4)],Zs x,Zf R,Zs [a],Zn,Zn,Zn]:=by
  refine(yo (e:=[Zl [.int n1],Zs x,Zf R,Zs [a],Zn,Zn,Zn]) rfl).trans ?_;rw[<-e4]
  rfl
 cases hc:(!((d4:Int) == 1)) with
 | true=>
  rw[hc] at t0;refine⟨.tup [w1,ch1,l1,r1],k1,iW (env:=[Zl [.int k1],Zs x,Zf R,Zs [a],Zn,Zn,Zn]) ?_ rfl,w1,ch1,l1,r1,rfl,hQ1⟩;unfold Ei;refine(aB s1).trans (eY ((eQ t0).trans ?_));exact cD (gf (x:=.lst [.int (n1 / 4)]) (x0:=.lst [.int (n1 / 4)]) (ds:=[.str x]) (e1:=[Zl [.int (n1 / 4)],Zs x,Zf R,Zs [a],Zn,Zn,Zn]) rfl rfl rfl q1)
 | false=>
  rw[hc] at t0;generalize n1 / 4=n2 at *;have hol:=Dq (c:=a) hx;obtain⟨k,hk,ek⟩:=dig n2 (oth x a).length hol.1;obtain⟨t,et,t1,t2⟩:=aaa (List.getElem_mem hk);obtain⟨d2,hd2,e2⟩:=dig (n2 / ((oth x a).length:Int)) 2 (by decide);obtain⟨w,hw,h1⟩:∃w,(w = .str [111,110,99,101]\/w = .str [97,108,111,110,103])/\bY (.lst [.str [111,110,99,101],.str [97,108,111,110,103]]) (.int (d2:Int))=some w:=by
   have hc:d2=0\/d2=1:=by omega
   rcases hc with rfl|rfl
   ·exact⟨_,.inl rfl,rfl⟩
   ·exact⟨_,.inr rfl,rfl⟩
  have ot1:=vV (Zl [.int n2]) (Zf R) x hx a ha;generalize hot:oth x a=ot at *;generalize hn3:n2 / (ot.length:Int)=n3 at *;obtain⟨l',n4,h5,h6⟩:=iG.signs (n3 / 2) x hx;obtain⟨r',n5,h7,h8⟩:=iG.signs n4 x hx;refine⟨.tup [w,.tup [.tup [.str [a],.str t]],l',r'],n5,iW (env:=[Zl [.int n5],Zs x,Zf R,Zs [a],Zl ot,Zf (.tup [.str [a],.str t]),Zf w]) ?_ rfl,w,_,l',r',rfl,hw,.chg (ps:=[(a,t)]) (by show 0<1;decide) (by show 1<=4;decide) (λp hp=>by rw[List.mem_singleton.mp hp];exact⟨ha,t1,t2⟩),h6,h8⟩;have u0:cY (jX (cP (ao j4 3 (Zw []))) (cP (aH qC (dC aX 0 (aa (Zi 4) ak)) (Zi 1)))) (bA (dC iB 0 (Zv 1 ak))) bN [Zl [.int n1],Zs x,Zf R,Zs [a],Zn,Zn,Zn] = .nx [Zl [.int n2],Zs x,Zf R,Zs [a],Zn,Zn,Zn]:=(dW t0).trans rfl;unfold Ei;refine(aB s1).trans ((aB u0).trans ((aB ot1).trans ?_));refine(aB (e:=[Zl [.int n3],Zs x,Zf R,Zs [a],Zl ot,Zf (.tup [.str [a],.str t]),Zn]) ?_).trans ?_
  ·refine bh (d:=.tup [.str [a],.str t]) (e:=[Zl [.int n3],Zs x,Zf R,Zs [a],Zl ot,Zn,Zn]) ?_ rfl;refine dO (ds:=[.str [a],.str t]) (aK (e1:=[Zl [.int n2],Zs x,Zf R,Zs [a],Zl ot,Zn,Zn]) rfl (aK ?_ bK)) (by show 2<=sizeLine;decide);refine bF (o:=true) (o':=true) (x:=.lst ot) (x0:=.lst ot) (y:=.int (n2 % (ot.length:Int))) rfl ?_ rfl ?_
   ·rw[<-hn3];exact gf (x:=.lst [.int n2]) (x0:=.lst [.int n2]) (ds:=[.int (ot.length:Int)]) (e1:=[Zl [.int n2],Zs x,Zf R,Zs [a],Zl ot,Zn,Zn]) rfl rfl rfl (jt _ ot.length hol.1 (by omega))
   ·show pR ot (n2 % (ot.length:Int))=_;rw[ek,Ek hk,et]
  refine(aB (e:=[Zl [.int (n3 / 2)],Zs x,Zf R,Zs [a],Zl ot,Zf (.tup [.str [a],.str t]),Zf w]) ?_).trans ?_
  ·refine bh (d:=w) (e:=[Zl [.int (n3 / 2)],Zs x,Zf R,Zs [a],Zl ot,Zf (.tup [.str [a],.str t]),Zn]) ?_ rfl;refine bL (x:=.lst [.str [111,110,99,101],.str [97,108,111,110,103]]) (y:=.int (n3 % 2)) (e1:=[Zl [.int n3],Zs x,Zf R,Zs [a],Zl ot,Zf (.tup [.str [a],.str t]),Zn]) rfl ?_ ?_
   ·exact gf (x:=.lst [.int n3]) (x0:=.lst [.int n3]) (ds:=[.int 2]) (e1:=[Zl [.int n3],Zs x,Zf R,Zs [a],Zl ot,Zf (.tup [.str [a],.str t]),Zn]) rfl rfl rfl (jt _ 2 (by decide) (by decide))
   ·have:n3 % 2=(d2:Int):=e2;rw[this];exact h1
  refine cD (dO (ds:=[w,.tup [.tup [.str [a],.str t]],l',r']) (aK (e1:=[Zl [.int (n3 / 2)],Zs x,Zf R,Zs [a],Zl ot,Zf (.tup [.str [a],.str t]),Zf w]) rfl (aK (d:=.tup [.tup [.str [a],.str t]]) (e1:=[Zl [.int (n3 / 2)],Zs x,Zf R,Zs [a],Zl ot,Zf (.tup [.str [a],.str t]),Zf w]) rfl (aK (e1:=[Zl [.int n4],Zs x,Zf R,Zs [a],Zl ot,Zf (.tup [.str [a],.str t]),Zf w]) ?_ (aK ?_ bK)))) (by show 4<=sizeLine;decide))
  ·exact gf (x:=.lst [.int (n3 / 2)]) (x0:=.lst [.int (n3 / 2)]) (ds:=[.str x]) (e1:=[Zl [.int (n3 / 2)],Zs x,Zf R,Zs [a],Zl ot,Zf (.tup [.str [a],.str t]),Zf w]) rfl rfl rfl h5
  ·exact gf (x:=.lst [.int n4]) (x0:=.lst [.int n4]) (ds:=[.str x]) (e1:=[Zl [.int n4],Zs x,Zf R,Zs [a],Zl ot,Zf (.tup [.str [a],.str t]),Zf w]) rfl rfl rfl h7
end
open iG (jt)
open KT (W ly)
theorem Mi:iI=cQ 10 (KT.Eg bw bj (cQ 11 (KB.dM iG.iz Ma))):=rfl
theorem aeb:bj≠bw:=λh=>by
 have h2:=congrArg Ev.defName h;have h3:Ev.defName bj≠Ev.defName bw:=by decide +kernel
 exact h3 h2
theorem adW:Ma bw=runC 2 11 KT.zQ:=if_pos rfl
theorem adV:Ma bj=runC 1 11 KT.uT:=(if_neg aeb).trans (if_pos rfl)
theorem ah7:∀x∈XS,∀a∈x,gIn (.str [a]) (.str x)=some (.bl true):=by
 have h:(XS.all λx=>x.all λa=>iG.isT (gIn (.str [a]) (.str x)))=true:=by decide +kernel
 intro x hx a ha;exact iG.Sq (List.all_eq_true.mp (List.all_eq_true.mp h x hx) a ha)
def Told(x:List Nat)(s R O:D)(b c:Bool)(r:D):Prop:=(r = .non/\∀v,(∀a∈v,a∈x)->W x (ly s R) (ly s O) b c v=false)\/
 ∃w,r = .str (fQ s w)/\(∀a∈w,a∈x)/\W x (ly s R) (ly s O) b c w=true/\∀v,(∀a∈v,a∈x)->v.length<w.length->W x (ly s R) (ly s O) b c v=false
theorem Kq{x:List Nat}{s R O r:D}{b c:Bool}(h:Told x s R O b c r):qC r r=some (.bl false):=by
 rcases h with ⟨rfl,_⟩|⟨w,rfl,_⟩
 ·rfl
 ·show some (D.bl (!(fQ s w == fQ s w)))=_;simp
section
variable{x:List Nat}{s R O eF:D}(hx:x∈XS)(hs:s∈sides)(hR:cT x R)(hO:cT x O)(hso:iG.iz [eF]=some (.tup (x.map λa=>.str [a])))
include hx hs hR hO hso
theorem seek(b c:Bool):∃r,iI [eF,s,R,O,.bl b,.bl c]=some r/\Told x s R O b c r:=by rw[Mi];exact KT.O4 (Φ:=Ma) (sl:=bw) (ss:=bj) (so:=iG.iz) hx hs hR hO adW adV hso b c
theorem way:∃r,fB [eF,s,R,O]=some r/\Told x s R O false true r:=by obtain⟨r,e,h⟩:=seek hx hs hR hO hso false true;exact⟨r,cR (env:=[Zf eF,Zf s,Zf R,Zf O]) (cD (aO (ds:=[eF,s,R,O,.bl false,.bl true]) rfl e)),h⟩
end
abbrev El(S:D)(n:Int)(st:D)(x:List Nat)(a4 a5 a6 a7 a8 a9:OD):Ev.Env:=[Zf S,Zl [.int n],Zf st,Zs x,a4,a5,a6,a7,a8,a9]
theorem both{x:List Nat}{s R O r q:D}{b c:Bool}(h1:Told x s R O b c r) (h2:(q = .non/\∀v,(∀a∈v,a∈x)->W x (ly s R) (ly s O) b c v=false)\/
   ∃v:List Nat,q = .int (v.length:Int)/\v.length<=7000/\(∀a∈v,a∈x)/\W x (ly s R) (ly s O) b c v=true/\∀u:List Nat,(∀a∈u,a∈x)->u.length<v.length->W x (ly s R) (ly s O) b c u=false) :
  (r = .non/\q = .non)\/∃w,r = .str (fQ s w)/\q = .int (w.length:Int)/\w.length<=7000/\(∀a∈w,a∈x)/\W x (ly s R) (ly s O) b c w=true:=by
 rcases h1 with ⟨rfl,g1⟩|⟨w,rfl,w1,w2,w3⟩
 ·rcases h2 with ⟨rfl,_⟩|⟨v,_,_,v1,v2,_⟩
  ·exact .inl ⟨rfl,rfl⟩
  ·rw[g1 v v1] at v2;cases v2
 ·rcases h2 with ⟨_,g2⟩|⟨v,rfl,v0,v1,v2,v3⟩
  ·rw[g2 w w1] at w2;cases w2
  ·have e:w.length=v.length:=by
    by_cases h:v.length<w.length
    ·rw[w3 v v1 h] at v2;cases v2
    ·by_cases h':w.length<v.length
     ·rw[v3 w w1 h'] at w2;cases w2
     ·omega
   exact .inr ⟨w,rfl,by rw[e],by omega,w1,w2⟩
theorem ab4{x:List Nat}(hx:x∈XS){w:List Nat}(hw:∀a∈w,a∈x)(hl:w.length<=7000)(S:D)(n:Int)(st:D)(a4 a5 a6 a8 a9:OD) :
  cP (au Hd (aa (uD) ak)) (El S n st x a4 a5 a6 (Zs w) a8 a9) = .ok true (El S n st x a4 a5 a6 (Zs w) a8 a9):=by
 have h:uD (El S n st x a4 a5 a6 (Zs w) a8 a9) = .ok (.lst (w.map λ_=>.bl true)) (El S n st x a4 a5 a6 (Zs w) a8 a9):=by refine S9 w (λa=>.str [a]) (λ_=>.bl true) rfl rfl rfl (λa ha=>?_) (Nat.le_trans hl (by decide));exact bF (o:=false) (o':=false) (x:=.str [a]) (x0:=.str [a]) (y:=.str x) rfl rfl rfl (ah7 x hx a (hw a ha))
 refine gk (aO (ds:=[.lst (w.map λ_=>.bl true)]) (aK h bK) ?_);rw[ae1 (λ_=>true)]
 congr 2
 exact List.all_eq_true.mpr λ_ _=>rfl
theorem O8:∀ns:List Int,ns.length<=63->Ol ns->Lj [.arr (ns.map .int)]=some (.bl true):=by
 intro ns hl hb;obtain⟨p,hp⟩:=fG.pack ns hl hb 0 (by decide) (by decide);obtain⟨x,rows,n0,hx,h1,hr⟩:=iG.stock p;have h2:=iG.Jz hx hr;have hso:=iG.sounds_of hx hr;obtain⟨d,hd,e⟩:=dig n0 2 (by decide);obtain⟨s,hs,h0⟩:∃s,s∈sides/\bY (.lst [.str [108,101,102,116],.str [114,105,103,104,116]]) (.int (d:Int))=some s:=by
  have hc:d=0\/d=1:=by omega
  rcases hc with rfl|rfl
  ·exact⟨.str [108,101,102,116],List.mem_cons_self ..,rfl⟩
  ·exact⟨.str [114,105,103,104,116],List.mem_cons_of_mem _ (List.mem_cons_self ..),rfl⟩
 obtain⟨w,ch,l,r,n1,q1,hQ⟩:=fG.rule (n0 / 2) x hx;have q1:iB [.lst [.int (n0 / 2)],.str x]=some (.tup [w,ch,l,r],.lst [.int n1]):=q1;have hR:cT x (.tup [w,ch,l,r]):=⟨w,ch,l,r,rfl,hQ⟩;generalize D.tup [w,ch,l,r]=R at *;obtain⟨O,n2,q2,hO⟩:=near hx hR 0 (λp=>p.1) (λp=>rfl) (λp h=>h.1) n1;obtain⟨r1,m1,t1⟩:=way hx hs hR hO hso;obtain⟨r2,m2,t2⟩:=way hx hs hO hR hso;obtain⟨q,m3,t3⟩:=abH hx hs hR hO false true;generalize hS:D.arr (ns.map .int)=S at *;generalize hst:D.tup rows=st at *;have nn1:=Kq t1;have nn2:=Kq t2;have tt:jX (cP (aH qC (au fB (Zv 2 (Zv 4 (Zv 5 (Zv 6 ak))))) (bf 7))) (cP (aH qC (au fB (Zv 2 (Zv 4 (Zv 6 (Zv 5 ak))))) (bf 8))) (El S n2 st x (Zf s) (Zf R) (Zf O) (Zf r1) (Zf r2) none) = .ok false (El S n2 st x (Zf s) (Zf R) (Zf O) (Zf r1) (Zf r2) none):=by have ta:cP (aH qC (au fB (Zv 2 (Zv 4 (Zv 5 (Zv 6 ak))))) (bf 7)) (El S n2 st x (Zf s) (Zf R) (Zf O) (Zf r1) (Zf r2) none) = .ok false (El S n2 st x (Zf s) (Zf R) (Zf O) (Zf r1) (Zf r2) none):=gk (bL (e1:=El S n2 st x (Zf s) (Zf R) (Zf O) (Zf r1) (Zf r2) none) (aO (ds:=[st,s,R,O]) rfl m1) rfl nn1);refine(yo ta).trans ?_;exact gk (bL (e1:=El S n2 st x (Zf s) (Zf R) (Zf O) (Zf r1) (Zf r2) none) (aO (ds:=[st,s,O,R]) rfl m2) rfl nn2)
 have fin:∃env,aC (cY (cP (ao NP 7 (jg .non))) (bA (ao NP 9 (jg .non))) bN) (aC (cY (jX (qH (cP (uJ (JN "str") (aP 7)))) (qH (cP (au Hd (aa (uD) ak))))) (bA (jg (.bl false))) bN) (bA (jY (au jB (Zv 4 (Zv 5 (Zv 6 (Zv 7 ak))))) (aH j4 (au gU (aa (bf 7) ak)) (bf 9))))) (El S n2 st x (Zf s) (Zf R) (Zf O) (Zf r1) (Zf r2) (Zf q)) = .rt false (.bl true) env:=by
  rcases both t1 t3 with ⟨rfl,rfl⟩|⟨v,rfl,rfl,v0,v1,v2⟩
  ·exact⟨_,(eY ((eQ (e:=El S n2 st x (Zf s) (Zf R) (Zf O) (Zf (.non)) (Zf r2) (Zf (.non))) rfl).trans rfl))⟩
  ·have hv:=abQ (s:=s) v1;have hvl:(fQ s v).length=v.length:=Wr;have g1:=ab4 hx hv (by omega) S n2 st (Zf s) (Zf R) (Zf O) (Zf r2) (Zf (.int (v.length:Int)));have g2:=Sd hx hs hR hO hv (by omega);rw[o7,v2] at g2;generalize fQ s v=y at *;refine⟨El S n2 st x (Zf s) (Zf R) (Zf O) (Zs y) (Zf r2) (Zf (.int (v.length:Int))),?_⟩;refine(aB (e:=El S n2 st x (Zf s) (Zf R) (Zf O) (Zs y) (Zf r2) (Zf (.int (v.length:Int)))) ?_).trans ?_
   ·exact(dW (e:=El S n2 st x (Zf s) (Zf R) (Zf O) (Zs y) (Zf r2) (Zf (.int (v.length:Int)))) rfl).trans rfl
   refine(aB (e:=El S n2 st x (Zf s) (Zf R) (Zf O) (Zs y) (Zf r2) (Zf (.int (v.length:Int)))) ?_).trans ?_
   ·refine(dW (e:=El S n2 st x (Zf s) (Zf R) (Zf O) (Zs y) (Zf r2) (Zf (.int (v.length:Int)))) ?_).trans rfl;refine(yo (e:=El S n2 st x (Zf s) (Zf R) (Zf O) (Zs y) (Zf r2) (Zf (.int (v.length:Int)))) rfl).trans ?_;unfold qH;rw[g1]
    rfl
   ·refine cD (d:=.bl (true&&true)) (fG.nY (p:=true) (q:=true) (aO (ds:=[s,R,O,.str y]) rfl g2) (bL (x:=.int (y.length:Int)) (y:=.int (v.length:Int)) (e1:=El S n2 st x (Zf s) (Zf R) (Zf O) (Zs y) (Zf r2) (Zf (.int (v.length:Int)))) rfl rfl ?_));rw[hvl];show some (D.bl (((v.length:Int)) == (v.length:Int)))=_;simp
 obtain⟨env,hf⟩:=fin;refine cR (env:=env) ?_;unfold Yb;refine Eq.trans ?_ hf;refine(aB (e:=[Zf S,Zl [.int p],Zn,Zn,Zn,Zn,Zn,Zn,Zn,Zn]) ?_).trans ?_
 ·exact(ug (d:=.lst [.int p]) (e:=[Zf S,Zn,Zn,Zn,Zn,Zn,Zn,Zn,Zn,Zn]) (aO (ds:=[S,.int 0]) rfl hp))
 refine(aB (e:=[Zf S,Zl [.int n0],Zf st,Zn,Zn,Zn,Zn,Zn,Zn,Zn]) ?_).trans ?_
 ·exact(bh (d:=st) (e:=[Zf S,Zl [.int n0],Zn,Zn,Zn,Zn,Zn,Zn,Zn,Zn]) (gf (x:=.lst [.int p]) (x0:=.lst [.int p]) (ds:=[]) (e1:=[Zf S,Zl [.int p],Zn,Zn,Zn,Zn,Zn,Zn,Zn,Zn]) rfl rfl rfl h1) rfl)
 refine(aB (e:=El S n0 st x none none none none none none) ?_).trans ?_
 ·exact(bh (d:=.str x) (e:=[Zf S,Zl [.int n0],Zf st,Zn,Zn,Zn,Zn,Zn,Zn,Zn]) (aO (ds:=[st]) rfl h2) rfl)
 refine(aB (e:=El S (n0 / 2) st x (Zf s) none none none none none) ?_).trans ?_
 ·refine bh (d:=s) (e:=El S (n0 / 2) st x none none none none none none) ?_ rfl;refine bL (x:=.lst [.str [108,101,102,116],.str [114,105,103,104,116]]) (y:=.int (n0 % 2)) (e1:=El S n0 st x none none none none none none) rfl ?_ ?_
  ·exact gf (x:=.lst [.int n0]) (x0:=.lst [.int n0]) (ds:=[.int 2]) (e1:=El S n0 st x none none none none none none) rfl rfl rfl (jt _ 2 (by decide) (by decide))
  ·have:n0 % 2=(d:Int):=e;rw[this];exact h0
 refine(aB (e:=El S n1 st x (Zf s) (Zf R) none none none none) ?_).trans ?_
 ·exact(bh (d:=R) (e:=El S n1 st x (Zf s) none none none none none) (gf (x:=.lst [.int (n0 / 2)]) (x0:=.lst [.int (n0 / 2)]) (ds:=[.str x]) (e1:=El S (n0 / 2) st x (Zf s) none none none none none) rfl rfl rfl q1) rfl)
 refine(aB (e:=El S n2 st x (Zf s) (Zf R) (Zf O) none none none) ?_).trans ?_
 ·exact(bh (d:=O) (e:=El S n2 st x (Zf s) (Zf R) none none none none) (gf (x:=.lst [.int n1]) (x0:=.lst [.int n1]) (ds:=[.str x,R]) (e1:=El S n1 st x (Zf s) (Zf R) none none none none) rfl rfl rfl q2) rfl)
 refine(aB (e:=El S n2 st x (Zf s) (Zf R) (Zf O) (Zf r1) none none) ?_).trans ?_
 ·exact(bh (d:=r1) (e:=El S n2 st x (Zf s) (Zf R) (Zf O) none none none) (aO (ds:=[st,s,R,O]) rfl m1) rfl)
 refine(aB (e:=El S n2 st x (Zf s) (Zf R) (Zf O) (Zf r1) (Zf r2) none) ?_).trans ?_
 ·exact(bh (d:=r2) (e:=El S n2 st x (Zf s) (Zf R) (Zf O) (Zf r1) none none) (aO (ds:=[st,s,O,R]) rfl m2) rfl)
 refine(aB (e:=El S n2 st x (Zf s) (Zf R) (Zf O) (Zf r1) (Zf r2) none) ?_).trans ?_
 ·exact((dW tt).trans rfl)
 refine aB (e:=El S n2 st x (Zf s) (Zf R) (Zf O) (Zf r1) (Zf r2) (Zf q)) ?_;exact(bh (d:=q) (e:=El S n2 st x (Zf s) (Zf R) (Zf O) (Zf r1) (Zf r2) none) (aO (ds:=[s,R,O,.str x,.tup [.bl false,.bl true]]) rfl m3) rfl)
open PySem PySem.Spec PyProof.Rows L2 Ev
theorem all_mk{P:Program}{w:World}{K:Fg}{h:Heap}{mg:Str->Option Value}{fa:Addr}(X:K.In h)(G:h.Ns mainGlobals mg)(hfa:mg "law" = some (.ref fa))
  {YQ:Tok}
  (Xa:PySem.W.nsIn K mainGlobals "all" = some none) (Ow:PySem.W.nsIn K mainGlobals "dict" = some none) (Ey:PySem.W.nsIn K mainGlobals "divmod" = some none) (W9:PySem.W.nsIn K mainGlobals "int" = some none) (tV:PySem.W.nsIn K mainGlobals "isinstance" = some none) (W8:PySem.W.nsIn K mainGlobals "len" = some none) (Ov:PySem.W.nsIn K mainGlobals "list" = some none) (Kh:PySem.W.nsIn K mainGlobals "range" = some none) (Ex:PySem.W.nsIn K mainGlobals "sorted" = some none) (W7:PySem.W.nsIn K mainGlobals "str" = some none) (Kg:PySem.W.nsIn K mainGlobals "tuple" = some none) (W6:PySem.W.nsIn K mainGlobals "zip" = some none) (uF:∀d:D,PySem.W.kitOne K (.type (Xe d)) (.type "str")=some (uG d "str")) (JL:PySem.W.nsIn K mainGlobals "EDGE" = some (some (.str "#" YQ))) (xn:FA K "sounds_of" pY) (qP:FA K "as_it_stands" lU) (Hw:FA K "turned" yM) (pL:FA K "reading_rules" j9) (Cp:FA K "puts_in" vO) (TY:FA K "fits" IW) (mU:FA K "read_putting_in" jx) (pM:FA K "read_changing" kh) (uW:FA K "read_signs" oE) (zV:FA K "watch_on" rY) (xm:FA K "watch_end" pX) (pK:FA K "shortest_word" j8) (n6:FA K "first_standing" jH) (jP:FC K "shortest_where" jG) (uV:FA K "takes_from" oA) (xu:FA K "_law_mixed" p7) (zY:FA K "_law_pack" su) (zW:FA K "_law_take" rZ) (xq:FA K "_law_stock" pZ) (uY:FA K "_law_sounds" oG) (xr:FA K "_law_signs" p6) (rM:FA K "_law_changes" mZ) (zX:FA K "_law_rule" sr) (z7:FA K "_law_fits" sI) (vd:FA K "_law_put_in" oJ) (rN:FA K "_law_changed" m5) (uX:FA K "_law_turned" oF) (rO:FA K "_law_by_side" m6) (zZ:FA K "_law_near" sE) (z6:FA K "_law_goes" sG) (uZ:FA K "_law_row_on" oH) (vf:FA K "_law_fewest" oK) (z8:FA K "_law_acts" sJ) (qO:FA K "_law_is_taken" lQ) (Yh:FA K "law" PL) :
  (∀y∈tabs,∃cp,PySem.W.tabIn K y.1=some cp)/\∃fd:FuncData,(∀(s:Shared) (v:Value),BindsTo s fd ⟨[v],[]⟩ [("_law_script",v)])/\∀base:Heap,K.In base->base.Ns mainGlobals mg->(∀y∈tabs,Bj base mg (ju K y.1).1 (ju K y.1).2)->lC P w K mg base xx 9 fa fd ["_law_script"] (spT (mW K tabs) (j7 K 1 Lj)):=
 ⟨(λy hy=>by rcases List.mem_cons.mp (show y ∈ [(("shortest_where" : Str),cX)] from hy) with rfl|hy;exact jP.tab;cases hy),Yh.ahu X G hfa (λs v=>.of_eq rfl) λbase hB F=>abG ⟨xN X G Xa,
  xN X G Ow,
  xN X G Ey,
  xN X G W9,
  xN X G tV,
  xN X G W8,
  xN X G Ov,
  xN X G Kh,
  xN X G Ex,
  xN X G W7,
  xN X G Kg,
  xN X G W6,
  uF,
  We X G JL (by decide +kernel) (by decide),
  xn.at X G (fun|[_],_=>rfl),
  qP.at X G (fun|[_,_],_=>rfl),
  Hw.at X G (fun|[_],_=>rfl),
  pL.at X G (fun|[_],_=>rfl),
  Cp.at X G (fun|[_],_=>rfl),
  TY.at X G (fun|[_,_],_=>rfl),
  mU.at X G (fun|[_,_,_],_=>rfl),
  pM.at X G (fun|[_,_,_],_=>rfl),
  uW.at X G (fun|[_,_,_],_=>rfl),
  zV.at X G (fun|[_,_,_],_=>rfl),
  xm.at X G (fun|[_,_],_=>rfl),
  pK.at X G (fun|[_,_,_,_,_],_=>rfl),
  n6.at X G (fun|[_],_=>rfl),
  jP.at X G (fun|[_,_,_,_,_,_],_=>rfl),
  uV.at X G (fun|[_,_,_,_],_=>rfl),
  xu.at X G (fun|[_],_=>rfl),
  zY.at X G (fun|[_,_],_=>rfl),
  zW.at X G (fun|[_,_],_=>rfl),
  xq.at X G (fun|[_],_=>rfl),
  uY.at X G (fun|[_],_=>rfl),
  xr.at X G (fun|[_,_],_=>rfl),
  rM.at X G (fun|[_,_],_=>rfl),
  zX.at X G (fun|[_,_],_=>rfl),
  z7.at X G (fun|[_,_],_=>rfl),
  vd.at X G (fun|[_,_],_=>rfl),
  rN.at X G (fun|[_,_],_=>rfl),
  uX.at X G (fun|[_],_=>rfl),
  rO.at X G (fun|[_,_,_],_=>rfl),
  zZ.at X G (fun|[_,_,_],_=>rfl),
  z6.at X G (fun|[_,_,_],_=>rfl),
  uZ.at X G (fun|[_,_,_,_],_=>rfl),
  vf.at X G (fun|[_,_,_,_,_],_=>rfl),
  z8.at X G (fun|[_,_,_],_=>rfl),
  qO.at X G (fun|[_,_,_,_],_=>rfl)⟩ hB F⟩
end pO
theorem PySem.W.Fast.tw10365395444463987872:True:=trivial
theorem PySem.W.Fast.tw17003043587454180325:True:=trivial
theorem PySem.W.Fast.tw5560164008646956575:True:=trivial
theorem PySem.W.Fast.tw462196750977074178:True:=trivial
theorem PySem.W.Fast.tw11356207002547021547:True:=trivial
theorem PySem.W.Fast.tw2805191683860315249:True:=trivial
theorem PySem.W.Fast.tw1329681934803852234:True:=trivial
theorem PySem.W.Fast.tw5902025329478346174:True:=trivial
theorem PySem.W.Fast.tw2563186470066408841:True:=trivial
theorem PySem.W.Fast.tw4744433444797777577:True:=trivial
theorem PySem.W.Fast.tw8575391834675937955:True:=trivial
theorem PySem.W.Fast.tw11868841860591498901:True:=trivial
theorem PySem.W.Fast.tw1978217770511134711:True:=trivial
theorem PySem.W.Fast.tw822780105593844062:True:=trivial
theorem PySem.W.Fast.tw15228137644332426312:True:=trivial
theorem PySem.W.Fast.tw18309259815783306293:True:=trivial
theorem PySem.W.Fast.tw15845041825995550529:True:=trivial
theorem PySem.W.Fast.tw14872333894694090549:True:=trivial
theorem PySem.W.Fast.tw494508082161752653:True:=trivial
theorem PySem.W.Fast.tw6536841107327392720:True:=trivial
theorem PySem.W.Fast.tw12869045536487644604:True:=trivial
theorem PySem.W.Fast.tw3823048613789534973:True:=trivial
theorem PySem.W.Fast.tw8175707488491591971:True:=trivial
theorem PySem.W.Fast.tw7115554240766367948:True:=trivial
theorem PySem.W.Fast.tw16846123558392421783:True:=trivial
theorem PySem.W.Fast.tw14501481981110769630:True:=trivial
theorem PySem.W.Fast.tw10985346667444256981:True:=trivial
theorem PySem.W.Fast.tw764410951851403862:True:=trivial
theorem PySem.W.Fast.tw8153013637864137055:True:=trivial
theorem PySem.W.Fast.tw7217798752264238356:True:=trivial
theorem PySem.W.Fast.tw11518872870760201124:True:=trivial
theorem PySem.W.Fast.tw5800742544878894875:True:=trivial
theorem PySem.W.Fast.tw10438295617431351125:True:=trivial
theorem PySem.W.Fast.tw15718323934084610453:True:=trivial
theorem PySem.W.Fast.tw14744672888957278613:True:=trivial
theorem PySem.W.Fast.tw11673534094433965918:True:=trivial
theorem PySem.W.Fast.tw7546830108389318973:True:=trivial
theorem PySem.W.Fast.tw17385012258667137042:True:=trivial
theorem PySem.W.Fast.tw4525620602025063625:True:=trivial
theorem PySem.W.Fast.tw4017482759526305732:True:=trivial
theorem PySem.W.Fast.tw15847325250344407006:True:=trivial
theorem PySem.W.Fast.tw9675998464737654864:True:=trivial
theorem PySem.W.Fast.tw3558922529169024076:True:=trivial
theorem PySem.W.Fast.tw18422336618647077698:True:=trivial
theorem PySem.W.Fast.tw17796199030444283596:True:=trivial
theorem PySem.W.Fast.tw2689531566063495337:True:=trivial
theorem PySem.W.Fast.tw6380945913684646503:True:=trivial
open PySem PySem.W PyProof.Rows
set_option maxRecDepth 100000 in
set_option maxHeartbeats 0 in
theorem PySem.Challenge.cw_soundrules_k37_taking_holds : PySem.Challenge.rw_soundrules_k37_taking.Holds := by
 w_on;o_law;k_head;(case hw=>w_witness2)
 k_fill
 refine Ev.YB (l:=PySem.Challenge.rw_soundrules_k37_taking) (k:=9) (x:="_law_script") (f:=pO.Lj) pO.tabs rfl (by decide) rfl ⟨rfl,by decide,by decide⟩ (λw h Y=>PySem.W.km_in_of Y) pO.O8 (λw=>by kernel_rfl) (λy hy=>by rcases List.mem_cons.mp (show y ∈ [(("shortest_where" : Str),pO.cX)] from hy) with rfl|hy;exact⟨_,rfl⟩;cases hy) ?F
 case F=>
  intro w mg fa h KX G hmg
  refine' pO.all_mk KX G hmg ?Xa ?Ow ?Ey ?W9 ?tV ?W8 ?Ov ?Kh ?Ex ?W7 ?Kg ?W6 ?uF ?JL ?xn ?qP ?Hw ?pL ?Cp ?TY ?mU ?pM ?uW ?zV ?xm ?pK ?n6 ?jP ?uV ?xu ?zY ?zW ?xq ?uY ?xr ?rM ?zX ?z7 ?vd ?rN ?uX ?rO ?zZ ?z6 ?uZ ?vf ?z8 ?qO ?Yh
  (case uF=>(intro d;cases d with|clo=>(show PySem.W.kitOne _ (.type "NoneType") (.type "str")=some false;kit_is)|non=>(show PySem.W.kitOne _ (.type "NoneType") (.type "str")=some false;kit_is)|bl=>(show PySem.W.kitOne _ (.type "bool") (.type "str")=some false;kit_is)|int=>(show PySem.W.kitOne _ (.type "int") (.type "str")=some false;kit_is)|str=>(show PySem.W.kitOne _ (.type "str") (.type "str")=some true;kit_is)|tup=>(show PySem.W.kitOne _ (.type "tuple") (.type "str")=some false;kit_is)|lst=>(show PySem.W.kitOne _ (.type "list") (.type "str")=some false;kit_is)|arr=>(show PySem.W.kitOne _ (.type "list") (.type "str")=some false;kit_is)|dct=>(show PySem.W.kitOne _ (.type "dict") (.type "str")=some false;kit_is)|gR=>(show PySem.W.kitOne _ (.type "dict") (.type "str")=some false;kit_is)))
  (case JL=>k_is)
  all_goals first|k_is|(refine' Ev.FA.mk ?a ?l ?c ?k;(case a=>k_is);(case l=>k_is);(case c=>k_is);(case k=>k_is))|(refine' Ev.FC.mk ?a ?l ?c ?k ?lc ?v;(case a=>k_is);(case l=>k_is);(case c=>k_is);(case k=>k_is);(case lc=>k_is);(case v=>exact rfl))
